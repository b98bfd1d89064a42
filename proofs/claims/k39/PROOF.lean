import PyProof.Rows.All
import Wide.All
import OpenK.AllK
import Wide.FinOn
import Lean
import PyProof.EqAt
import PyProof.EqKinds
import PyProof.TupleCall
import KE.KLam
import KE.KSortKey
import KE.KSorted
import KE.KTabLook
import PySem.Challenge.RW_throng_k39_long_walks_and_rings
namespace PySem.W.Fast
def tw6228941604231705728:=0
def tw4496352936195399968:=0
def tw14667482336717235552:=0
def tw15232104884991731040:=0
def tw4497176731794267520:=0
def tw3877613535879298432:=0
def tw9526299397560929728:=0
def tw15417586513189028288:=0
def tw4153427019209622112:=0
def tw4125215819965328128:=0
def tw7235326057516070720:=0
def tw18396498393905430336:=0
def tw4958356608710939552:=0
def tw7462105442081594369:=0
def tw12534052290497861697:=0
def tw10217725870137544897:=0
def tw1364720182870406401:=0
def tw4401475116655131937:=0
def tw2286625386743619873:=0
def tw13051627479094530625:=0
def tw13012113917346818689:=0
def tw9847461775979452033:=0
def tw15592629622569029345:=0
def tw8299847419457749729:=0
def tw9462792006778030849:=0
def tw3565609046403327969:=0
def tw3870928182539011074:=0
def tw3347656882544805922:=0
def tw7825817372069153858:=0
def tw2304719518542662786:=0
def tw13984781010353509570:=0
def tw11992767285434568034:=0
def tw9815522183439399586:=0
def tw9680275791101875906:=0
def tw13670322901843319554:=0
def tw15940237100073002019:=0
def tw6229057395871347747:=0
def tw17298388710022640867:=0
def tw4112540927453327651:=0
def tw12793831963057863011:=0
def tw13398421343053942115:=0
def tw16987900060645427651:=0
def tw7978350114559000227:=0
def tw5244599335147361091:=0
def tw5383660450051946307:=0
def tw3194244725272905635:=0
def tw11809941751583704995:=0
def tw14753326052912100259:=0
def tw12019666832549084131:=0
def tw14717997826434004996:=0
def tw16909036917851281476:=0
def tw18219597057044564484:=0
def tw8926728939894299140:=0
def tw18160614179023853092:=0
def tw11242803081962179268:=0
def tw9423208710285154020:=0
def tw6871662342849418980:=0
def tw11699231037152031652:=0
def tw11787658728761005061:=0
def tw4346892175627840549:=0
def tw16255020078375963749:=0
def tw1511270037659042021:=0
def tw6120748442467613925:=0
def tw12041161015629908229:=0
def tw1869624644513358149:=0
def tw4532898652096618853:=0
def tw6812579617644004709:=0
def tw18015167290670659013:=0
def tw9175437300073737701:=0
def tw18203176515518202405:=0
def tw16360642097683486277:=0
def tw9426579981020204677:=0
def tw1107845085085978373:=0
def tw13307845182384679717:=0
def tw14985576044280764197:=0
def tw7421796237204029221:=0
def tw15560182369819385669:=0
def tw4801897673699591077:=0
def tw15900941414040615014:=0
def tw11611166163878159590:=0
def tw8870408259862447366:=0
def tw14479500573531184582:=0
def tw8326546325296960006:=0
def tw1346420145477559174:=0
def tw160650942353927078:=0
def tw13878829395882153926:=0
def tw5881437250142625766:=0
def tw7778351293220575335:=0
def tw800751760885279943:=0
def tw11518451453060418087:=0
def tw5318995574548911655:=0
def tw15921313466044254791:=0
def tw15544372414829847303:=0
def tw3496250155392516999:=0
def tw8404828478765258760:=0
def tw9326109565999434760:=0
def tw566354846284561448:=0
def tw15887348996520725640:=0
def tw14096908694025754856:=0
def tw12284642043074141512:=0
def tw268311172484343112:=0
def tw2046576644093934088:=0
def tw3910352354825146952:=0
def tw16364185182315000424:=0
def tw13736672837928043144:=0
def tw7126276577454151368:=0
def tw6583152564320751432:=0
def tw17481798726095597512:=0
def tw396408995276772328:=0
def tw184280252904241161:=0
def tw18094251709583401:=0
def tw13494546382756621353:=0
def tw15035898561326810345:=0
def tw3893125172460408393:=0
def tw1847750018418573993:=0
def tw1087751373418761961:=0
def tw2363927890530871209:=0
def tw3274489707334903785:=0
def tw18347946854127488010:=0
def tw4031685899716746282:=0
def tw354488814469542090:=0
def tw11719825167207672138:=0
def tw6258760377595474346:=0
def tw9589810540034176458:=0
def tw7239905214395480554:=0
def tw172063108946104842:=0
def tw17518238177044703914:=0
def tw14145095107506982698:=0
def tw2681734083079837931:=0
def tw3519300184246748523:=0
def tw16522509510407152523:=0
def tw6672102330625038251:=0
def tw11064562999794279339:=0
def tw16549349560150703051:=0
def tw12041231442740631564:=0
def tw4966631871977890924:=0
def tw14455625521697672300:=0
def tw7379230191886586700:=0
def tw18344298497787276301:=0
def tw3924990099930932301:=0
def tw9127433057764433997:=0
def tw8177003680778172589:=0
def tw6736059365321747693:=0
def tw17798409598503019757:=0
def tw12581817968718257613:=0
def tw13387826330553700813:=0
def tw15552155171403681389:=0
def tw12089354918178029261:=0
def tw9024314787446800109:=0
def tw10946667890702749453:=0
def tw12382931284848805709:=0
def tw7359305181992633358:=0
def tw5524238431039245326:=0
def tw5731635904653985198:=0
def tw12279449407505105454:=0
def tw695763054052123246:=0
def tw11335534051919886958:=0
def tw12520340475875715758:=0
def tw2533756714610092878:=0
def tw18076672132083882031:=0
def tw6659443439680947343:=0
def tw16541969635490464943:=0
def tw4537588603968091343:=0
def tw7536318300502432015:=0
def tw11457745222577046831:=0
def tw4618978754375432591:=0
def tw13432216539967968687:=0
def tw6531931409670295983:=0
def tw5574716242316290511:=0
def tw3787926588588939823:=0
def tw13069188540637075023:=0
def tw4919241043410052687:=0
def tw8267167156689035887:=0
def tw10956081119137194671:=0
def tw899057123024703215:=0
def tw890706047888485167:=0
def tw13205741760361328463:=0
def tw12465155417858285551:=0
def tw12332354779871119408:=0
def tw3098808177220589712:=0
def tw10891035230064913616:=0
def tw9464941283467276720:=0
def tw9645789311460993616:=0
def tw7163853974960920208:=0
def tw6484182280529013584:=0
def tw16865626936721702768:=0
def tw2907244864446434192:=0
def tw9652578969696644016:=0
def tw15835789154608624753:=0
def tw11777735703663076497:=0
def tw1922423641443405041:=0
def tw10678647122857065745:=0
def tw9521792746532426097:=0
def tw2214709404582597201:=0
def tw10371707536872173169:=0
def tw17044729855358826097:=0
def tw8532462760097587857:=0
def tw18131703329643809425:=0
def tw1786848063080841009:=0
def tw72828671131924305:=0
def tw7048694846323265393:=0
def tw5333673067703587729:=0
def tw16083667877084944305:=0
def tw15690474242972777586:=0
def tw15124799495702948146:=0
def tw7268885164034388338:=0
def tw3894606973545897394:=0
def tw2131521681702378930:=0
def tw194870221522357714:=0
def tw5906958066533712658:=0
def tw12676454101697950578:=0
def tw13640777305992684402:=0
def tw12464545363610891250:=0
def tw3329984309603292307:=0
def tw4640229708941795539:=0
def tw11784766668811634419:=0
def tw1756623937620123635:=0
def tw4963785518326005812:=0
def tw17342545375389484116:=0
def tw656179759211746388:=0
def tw1391558583876764820:=0
def tw1020748094416427348:=0
def tw13103197795850378580:=0
def tw3716668728862638484:=0
def tw1771908797687328148:=0
def tw8579757345905820116:=0
def tw5929928472514987540:=0
def tw11098586053631851188:=0
def tw18277869493810092852:=0
def tw8142372987374360468:=0
def tw13482775395729189844:=0
def tw2397646633845211349:=0
def tw14648430200986265813:=0
def tw1945801623893976309:=0
def tw4356114017994869045:=0
def tw2210686080888666741:=0
def tw8497661243670114965:=0
def tw14830566021882725045:=0
def tw3763301565898185621:=0
def tw3828147001995396502:=0
def tw17802348326961610230:=0
def tw3196019306420277750:=0
def tw2800586006434469398:=0
def tw2285296844249582102:=0
def tw16614647780119130934:=0
def tw9601761973091919702:=0
def tw6336416662597875574:=0
def tw17505961983219945623:=0
def tw14439932696096775447:=0
def tw18321629295637389655:=0
def tw17875859017477941687:=0
def tw6347641368589397527:=0
def tw12716825680541231735:=0
def tw17874496522464978583:=0
def tw8631195170940670679:=0
def tw3412981604615991127:=0
def tw17287877266216571735:=0
def tw8040816854582326296:=0
def tw3059652759828470872:=0
def tw3250429158973480216:=0
def tw2063661389022484760:=0
def tw10682721138252560728:=0
def tw7181464482397841752:=0
def tw2199320328580526552:=0
def tw2818659542494568952:=0
def tw496893943178069720:=0
def tw18041525557660628696:=0
def tw12568941394877975320:=0
def tw2245683234236060440:=0
def tw7259361126743905080:=0
def tw2863363465223050040:=0
def tw9622053779874029625:=0
def tw12750870764992064665:=0
def tw15314794802380719289:=0
def tw17085748360185387225:=0
def tw4074261427199680729:=0
def tw10842357872125231321:=0
def tw1516426594599862713:=0
def tw1375857458509543865:=0
def tw1987168658017770009:=0
def tw12630546296367020569:=0
def tw13285806400855607065:=0
def tw6001875689733186329:=0
def tw15148161835291325273:=0
def tw9811663230908312409:=0
def tw4830475678330183577:=0
def tw3230002685575085049:=0
def tw15843800754260076537:=0
def tw11870796760123389018:=0
def tw17444290196653369466:=0
def tw2372501169491328186:=0
def tw13122665546729964762:=0
def tw18257755276707742042:=0
def tw2998366332880958874:=0
def tw4267315835662316026:=0
def tw9491037438368991834:=0
def tw17549553155033761402:=0
def tw13953057018112295546:=0
def tw3849700006449973018:=0
def tw14760880353607980826:=0
def tw1794686909702913946:=0
def tw14440860116654033850:=0
def tw3452810139295150042:=0
def tw2627191284853445947:=0
def tw17681200004136002907:=0
def tw8999438451068175867:=0
def tw5706887040042812987:=0
def tw17466224153806280283:=0
def tw15400982029839814235:=0
def tw14978707149758523995:=0
def tw4935385458011268859:=0
def tw6713510100406732571:=0
def tw16426962295569914683:=0
def tw14086549109508749147:=0
def tw3614476540229612443:=0
def tw8301892367499439035:=0
def tw13168117725386329116:=0
def tw18110287522251681916:=0
def tw5108578740326456476:=0
def tw15580855156892336412:=0
def tw3749618679629941020:=0
def tw15582266221504829820:=0
def tw1807680758258380252:=0
def tw12465784910807665276:=0
def tw2803757503618839228:=0
def tw14207694342394039004:=0
def tw3209670165135587068:=0
def tw6240562069802268508:=0
def tw5930139658720229405:=0
def tw12973122671799116925:=0
def tw2388392249675958429:=0
def tw16635697337182200029:=0
def tw9863791832635953405:=0
def tw15787748388406683101:=0
def tw6069685400005085693:=0
def tw17369131089165342237:=0
def tw3861352232391285341:=0
def tw4418767211321769597:=0
def tw13751480420119796381:=0
def tw9312273069195466397:=0
def tw10709308019907719933:=0
def tw10115655199746172925:=0
def tw18051145606375135262:=0
def tw11692734167451666558:=0
def tw13454049090348126366:=0
def tw11887741438625303774:=0
def tw18295305796908551550:=0
def tw12405289914610020766:=0
def tw11051922432288723358:=0
def tw14254740870424599998:=0
def tw11371564447792477630:=0
def tw15944516656199247454:=0
def tw2664755940102882910:=0
def tw16298820236348066494:=0
def tw5206036229962708830:=0
def tw888576363978373022:=0
def tw15173213338404780958:=0
def tw12590138906931541055:=0
def tw14031588424783406175:=0
def tw5437503418953908351:=0
def tw14429858245023086879:=0
def tw12692411611079399775:=0
def tw17653819404660578015:=0
def tw8605813985376844543:=0
def tw1268501011034618719:=0
def tw16923893062494114719:=0
def tw15093891013605951423:=0
def tw818804338004900799:=0
def tw15166785221493360575:=0
def tw12008745493754996703:=0
def tw13077242223021803438:=0
end PySem.W.Fast
open PySem.W (Frag nsIn keepIn fnOf codeIn mg_of findIn)
set_option compiler.extract_closed false
set_option Elab.async false
set_option linter.all false
set_option maxRecDepth 100000
namespace L2
open PySem PySem.Spec PyProof.Rows
noncomputable abbrev Key:=Sum Int Str
noncomputable def keyIs:Key->Value->Bool
 | .inl k,v=>Value.isInt k v
 | .inr x,v=>Value.isStrOf x v
noncomputable def keyH (w:World):Key->Int
 | .inl k=>hashInt k
 | .inr x=>hashStr w x
theorem aX:∀ {k:Key} {v:Value},keyIs k v=true->(∃ i t,k=Sum.inl i/\v=Value.int i t)\/(∃ x t,k=Sum.inr x/\v=Value.str x t)
 | .inl i,v,h=>by
  obtain ⟨t,e⟩:=Value.isInt_shape (k:=i) (v:=v) h;exact .inl ⟨i,t,rfl,e⟩
 | .inr x,v,h=>by
  obtain ⟨t,e⟩:=Value.isStrOf_shape (x:=x) (v:=v) h;exact .inr ⟨x,t,rfl,e⟩
theorem pT (i:Int) (t:Tok):keyIs (.inl i) (.int i t)=true:=by simp [keyIs,Value.isInt]
theorem qE (x:Str) (t:Tok):keyIs (.inr x) (.str x t)=true:=by simp [keyIs,Value.isStrOf]
theorem wK (a b:Int):decide ((Sum.inl a:Key)=Sum.inl b)=(a == b):=by
 by_cases e:a=b
 ·subst e; simp
 ·have h:¬ (Sum.inl a:Key)=Sum.inl b:=fun q=>e (Sum.inl.inj q)
  rw [decide_eq_false h];exact (beq_eq_false_iff_ne.mpr e).symm
theorem wN (a b:Str):decide ((Sum.inr a:Key)=Sum.inr b)=decide (a=b):=by
 by_cases e:a=b
 ·subst e; simp
 ·have h:¬ (Sum.inr a:Key)=Sum.inr b:=fun q=>e (Sum.inr.inj q)
  rw [decide_eq_false h,decide_eq_false e]
theorem vM (a:Int) (b:Str):decide ((Sum.inl a:Key)=Sum.inr b)=false:=decide_eq_false (fun q=>nomatch q)
theorem vR (a:Str) (b:Int):decide ((Sum.inr a:Key)=Sum.inl b)=false:=decide_eq_false (fun q=>nomatch q)
noncomputable def mixKind (prog:Program) (w:World):PySem.KeyKind prog w Key where
 is:=keyIs
 hash:=keyH w
 inj:=fun v a b ha hb=>by
  rcases aX ha with ⟨i,t,rfl,rfl⟩ | ⟨x,t,rfl,rfl⟩
  ·rcases aX hb with ⟨j,u,rfl,e⟩ | ⟨y,u,rfl,e⟩
   ·injection e with e1 _; rw [e1]
   ·exact nomatch e
  ·rcases aX hb with ⟨j,u,rfl,e⟩ | ⟨y,u,rfl,e⟩
   ·exact nomatch e
   ·injection e with e1 _; rw [e1]
 byValue:=fun k v h=>by
  rcases aX h with ⟨i,t,rfl,rfl⟩ | ⟨x,t,rfl,rfl⟩ <;> rfl
 pyHash:=fun hv h=>by
  rcases aX hv with ⟨i,t,rfl,rfl⟩ | ⟨x,t,rfl,rfl⟩
  ·exact wpAny_pyHash_int h
  ·exact wpAny_pyHash_str h
 eqBool:=fun hu hv h=>by
  rcases aX hu with ⟨i,t,rfl,rfl⟩ | ⟨x,t,rfl,rfl⟩
  ·rcases aX hv with ⟨j,u,rfl,rfl⟩ | ⟨y,u,rfl,rfl⟩
   ·rw [wK] at h; exact wpAny_eqBool_int h
   ·rw [vM] at h; exact SeqAt.EqAt.int_str i t y u _ _ _ _ h
  ·rcases aX hv with ⟨j,u,rfl,rfl⟩ | ⟨y,u,rfl,rfl⟩
   ·rw [vR] at h; exact SeqAt.EqAt.str_int x t j u _ _ _ _ h
   ·rw [wN] at h; exact wpAny_eqBool_str h
 «strs»:=fun k x t v h=>by
  rcases aX h with ⟨i,u,rfl,e⟩ | ⟨y,u,rfl,e⟩
  ·exact nomatch e
  ·injection e with e1 _
   subst e1;cases v <;> rfl
theorem mz (prog:Program) (w:World) (i:Int) (t:Tok):(mixKind prog w).is (.inl i) (.int i t)=true:=pT i t
theorem mL (prog:Program) (w:World) (x:Str) (t:Tok):(mixKind prog w).is (.inr x) (.str x t)=true:=qE x t
inductive V where
 | non | bl (b:Bool) | int (i:Int) | str (x:Str) | byt (b:Array UInt8) | flt (b:UInt64) | ref (a:Addr) | ty (n:String)
 deriving DecidableEq
noncomputable def RelV:V->Value->Prop
 | .non,u=>u=Value.none
 | .bl b,u=>u=Value.bool b
 | .int i,u=>∃ t,u=Value.int i t
 | .str x,u=>∃ t,u=Value.str x t
 | .byt b,u=>∃ t,u=Value.bytes b t
 | .flt b,u=>∃ t,u=Value.float b t
 | .ref a,u=>u=Value.ref a
 | .ty n,u=>u=Value.type n
noncomputable abbrev Vals:List V->List Value->Prop:=Paired RelV
theorem Vals.length {xs:List V} {us:List Value} (r:Vals xs us):xs.length=us.length:=Paired.length r
theorem Vals.get:∀ {xs:List V} {us:List Value} {i:Nat} {x:V},Vals xs us->xs[i]? = some x->∃ u,us[i]? = some u/\RelV x u
 | _,_,_,_,.nil,e=>by simp at e
 | _,_,0,_,.cons r _,e=>by simp at e; subst e; exact ⟨_,rfl,r⟩
 | _,_,i+1,x,.cons _ t,e=>by
  obtain ⟨u,h1,h2⟩:=Vals.get (i:=i) (x:=x) t (by simpa using e);exact ⟨u,by simpa using h1,h2⟩
theorem Vals.set {x:V} {u:Value} (r:RelV x u):∀ {xs:List V} {us:List Value} (i:Nat),Vals xs us->Vals (xs.set i x) (us.set i u)
 | _,_,_,.nil=>.nil
 | _,_,0,.cons _ t=>.cons r t
 | _,_,i+1,.cons q t=>.cons q (Vals.set r i t)
theorem Vals.append:∀ {xs ys:List V} {us ws:List Value},Vals xs us->Vals ys ws->Vals (xs++ys) (us++ws)
 | _,_,_,_,.nil,s=>s
 | _,_,_,_,.cons r t,s=>.cons r (Vals.append t s)
theorem Vals.take:∀ {xs:List V} {us:List Value} (n:Nat),Vals xs us->Vals (xs.take n) (us.take n)
 | _,_,0,_=>.nil
 | _,_,_+1,.nil=>.nil
 | _,_,n+1,.cons r t=>.cons r (Vals.take n t)
theorem Vals.drop:∀ {xs:List V} {us:List Value} (n:Nat),Vals xs us->Vals (xs.drop n) (us.drop n)
 | _,_,0,r=>r
 | _,_,_+1,.nil=>.nil
 | _,_,n+1,.cons _ t=>Vals.drop n t
noncomputable def RelO:Option V->Option Value->Prop
 | some v,some u=>RelV v u
 | none,none=>True
 | _,_=>False
noncomputable def KV {κ:Type}:List (κ × V)->List (κ × Value)->Prop:=Paired fun (p:κ × V) (q:κ × Value)=>p.1=q.1/\RelV p.2 q.2
noncomputable def kV:Key->V
 | .inl i=>.int i
 | .inr x=>.str x
inductive HO where
 | lst (xs:List V)
 | tup (xs:List V)
 | dK (kvs:List (Key × V)) | dT (kvs:List (List Key × V))
 | set (S:Int->Bool) (n:Nat)
 | ins (C dx:Addr) (fs:List (Str × V))
 | own (x:Addr)
 | xd (fs:List (Str × V))
 | met (f x:Addr)
 | rng (lo hi:Int)
 | frz (o:Obj) (u:HO)
 | tbl (ps:Array Value)
 | ext (φ:Heap->Prop)
noncomputable abbrev Hp:=Addr->Option HO
noncomputable def upd (H:Hp) (a:Addr) (o:HO):Hp:=fun b=>if b=a then some o else H b
theorem upd_same {H:Hp} {a:Addr} {o:HO}:upd H a o a=some o:=by unfold upd; rw [if_pos rfl]
theorem aA {H:Hp} {a b:Addr} {o:HO} (h:b≠a):upd H a o b=H b:=by unfold upd; rw [if_neg h]
theorem wV {H:Hp} {a b:Addr} {o u:HO} (h:H a=some o) (h':H b=some u) (d:o≠u):a≠b:=by
 intro e; subst e; rw [h] at h'; exact d (Option.some.inj h')
theorem az {H:Hp} {a b:Addr} {o:HO} (h:H a=some o) (h':H b=none):a≠b:=by
 intro e; subst e; rw [h] at h'; cases h'
noncomputable def lamQ:Str:=Str.ofString "longest_first.<locals>.<lambda>"
def TabOk (H:Hp) (h:Heap) (a:Addr) (ps:Array Value):Prop:=TriplesOk ps.toList/\∀ pos cv,codeAmong pos ps.toList=some cv->∃ c,cv=.ref c/\H c=some (.own a)/\h.CodeRec (.ref c) lamQ
section
variable (P:Program) (w:World)
noncomputable def ObjOk (H:Hp) (h:Heap) (a:Addr):HO->Prop
 | .lst xs=>xs.length<=sizeLine/\∃ (its:List Value) (n:Nat),Vals xs its/\h.get? a=some { cls:=.type "list",data:=.seq its.toArray n }
 | .tup xs=>xs.length<=sizeLine/\∃ its:List Value,Vals xs its/\IsTup h a its.toArray
 | .dK kvs=>kvs.length<=sizeLine/\(a == sysModules)=false/\∃ vs,KV kvs vs/\h.DictOf (mixKind P w) a vs
 | .dT kvs=>kvs.length<=sizeLine/\(a == sysModules)=false/\∃ xs:List (List Key × Addr × Value),
   Paired (fun (p:List Key × V) (q:List Key × Addr × Value)=>p.1=q.1/\H q.2.1=some (.tup (p.1.map kV))/\RelV p.2 q.2.2) kvs xs /\
   ∃ o es ep,h.get? a=some o/\o.ExactDict/\o.data=.dict es ep/\es.toList=xs.map (entryOfKey (tupleKind (mixKind P w)))/\(xs.map (·.1)).Nodup
 | .set S n=>h.SetOf (intKind P w) a S n
 | .ins C dx fs=>H dx=some (.own a)/\fs.length<=1000/\dx≠a/\h.get? a=some (PySem.W.instObj C dx) /\
   ∃ mA,h.Ns1 dx mA/\(∀ f,RelO (fs.lookup f) (mA f))/\PySem.Within mA (fs.map (·.1))
 | .own _=>∃ o,h.get? a=some o
 | .xd fs=>∃ mA,h.Ns1 a mA/\∀ f,RelO (fs.lookup f) (mA f)
 | .rng lo hi=>∃ t u v,h.get? a=some { cls:=.type "range",data:=.fields #[.int lo t,.int hi u,.int 1 v] }
 | .frz o u=>h.get? a=some o/\ObjOk H h a u
 | .tbl ps=>∃ more:Array Value,h.get? a=some { cls:=.none,data:=.fields (ps++more) }/\TabOk H h a (ps++more)
 | .met f x=>h.get? a=some (PySem.W.methodObj (.ref f) (.ref x))
 | .ext φ=>φ h/\(∃ o,h.get? a=some o)/\∀ h1 h2:Heap,φ h1->(∀ o,h1.get? a=some o->h2.get? a=some o)->φ h2
def HOk (H:Hp) (h:Heap):Prop:=∀ a o,H a=some o->ObjOk P w H h a o
end
section
variable {P:Program} {w:World} {H H':Hp} {h h':Heap} {a:Addr} {o:HO}
theorem ObjOk.lt (x:ObjOk P w H h a o):a < h.objs.size:=by
 cases o with
 | lst xs=>obtain ⟨_,_,_,_,e⟩:=x; exact Heap.lt_size e
 | tup xs=>obtain ⟨_,_,_,p⟩:=x; exact p.lt
 | dK kvs=>obtain ⟨_,_,_,_,o,_,_,e,_⟩:=x; exact Heap.lt_size e
 | dT kvs=>obtain ⟨_,_,_,_,o,_,_,e,_⟩:=x; exact Heap.lt_size e
 | set S n=>obtain ⟨o,_,_,_,e,_⟩:=x; exact Heap.lt_size e
 | ins C dx fs=>obtain ⟨_,_,_,e,_⟩:=x; exact Heap.lt_size e
 | own y=>obtain ⟨_,e⟩:=x; exact Heap.lt_size e
 | xd fs=>obtain ⟨_,⟨_,_,_,e,_⟩,_⟩:=x; exact Heap.lt_size e
 | rng lo hi=>obtain ⟨_,_,_,e⟩:=x; exact Heap.lt_size e
 | frz ob u=>obtain ⟨e,_⟩:=x; exact Heap.lt_size e
 | tbl ps=>obtain ⟨_,e,_⟩:=x; exact Heap.lt_size e
 | met f y=>exact Heap.lt_size (show h.get? a=some _ from x)
 | ext φ=>obtain ⟨_,⟨_,e⟩,_⟩:=x; exact Heap.lt_size e
theorem Paired.mapP {α β:Type} {F G:α -> β -> Prop}:∀ {l₁:List α} {l₂:List β},Paired F l₁ l₂ -> (∀ a b,F a b->G a b)->Paired G l₁ l₂
 | _,_,.nil,_=>.nil
 | _,_,.cons r t,f=>.cons (f _ _ r) (Paired.mapP t f)
theorem ObjOk.stay (x:ObjOk P w H h a o) (k:∀ b u,(b=a\/H b=some (.own a))->h.get? b=some u->h'.get? b=some u)
  (ho:∀ b,H b=some (.own a)->H' b=some (.own a)) (ht:∀ b xs,H b=some (.tup xs)->H' b=some (.tup xs)):ObjOk P w H' h' a o:=by
 induction o with
 | lst xs=>obtain ⟨z,its,n,r,e⟩:=x; exact ⟨z,its,n,r,k _ _ (.inl rfl) e⟩
 | tup xs=>obtain ⟨z,its,r,ob,e,c⟩:=x; exact ⟨z,its,r,ob,k _ _ (.inl rfl) e,c⟩
 | dK kvs=>obtain ⟨z,y,vs,r,ob,es,ep,e,c⟩:=x; exact ⟨z,y,vs,r,ob,es,ep,k _ _ (.inl rfl) e,c⟩
 | dT kvs=>
  obtain ⟨z,y,xs,r,ob,es,ep,e,c⟩:=x;exact ⟨z,y,xs,Paired.mapP r fun p q z=>⟨z.1,ht _ _ z.2.1,z.2.2⟩,ob,es,ep,k _ _ (.inl rfl) e,c⟩
 | set S n=>obtain ⟨ob,es,ep,t,e,c⟩:=x; exact ⟨ob,es,ep,t,k _ _ (.inl rfl) e,c⟩
 | ins C dx fs=>
  obtain ⟨d,z,ne,e,mA,⟨od,es,ep,e2,c⟩,r⟩:=x;exact ⟨ho _ d,z,ne,k _ _ (.inl rfl) e,mA,⟨od,es,ep,k _ _ (.inr d) e2,c⟩,r⟩
 | own y=>obtain ⟨ob,e⟩:=x; exact ⟨ob,k _ _ (.inl rfl) e⟩
 | xd fs=>obtain ⟨mA,⟨od,es,ep,e,c⟩,r⟩:=x; exact ⟨mA,⟨od,es,ep,k _ _ (.inl rfl) e,c⟩,r⟩
 | rng lo hi=>obtain ⟨t,u,v,e⟩:=x; exact ⟨t,u,v,k _ _ (.inl rfl) e⟩
 | frz ob u ih=>obtain ⟨e,q⟩:=x; exact ⟨k _ _ (.inl rfl) e,ih q⟩
 | tbl ps=>
  obtain ⟨more,e,t1,t2⟩:=x;refine ⟨more,k a _ (.inl rfl) e,t1,fun pos cv q=>?_⟩;obtain ⟨c,e1,e2,c2,o,vs,t,e3,e4,e5⟩:=t2 pos cv q;cases e3;exact ⟨c,e1,ho _ e2,c,o,vs,t,rfl,k _ _ (.inr e2) e4,e5⟩
 | met f y=>
  have e:h.get? a=some (PySem.W.methodObj (.ref f) (.ref y)):=x;show h'.get? a=some (PySem.W.methodObj (.ref f) (.ref y));exact k a _ (.inl rfl) e
 | ext φ=>obtain ⟨p,⟨o,e⟩,st⟩:=x; exact ⟨st _ _ p fun o q=>k _ _ (.inl rfl) q,⟨o,k _ _ (.inl rfl) e⟩,st⟩
theorem HOk.lt (x:HOk P w H h) (e:H a=some o):a < h.objs.size:=(x a o e).lt
theorem HOk.fresh (x:HOk P w H h) (e:h.objs.size<=a):H a=none:=by
 cases q:H a with
 | none=>rfl
 | some u=>exact absurd (Nat.lt_of_lt_of_le (x.lt q) e) (Nat.lt_irrefl _)
theorem HOk.kept (x:HOk P w H h) (k:∀ b u,h.get? b=some u->h'.get? b=some u):HOk P w H h':=fun a o e=>
 (x a o e).stay (fun b u _ q=>k b u q) (fun _ q=>q) fun _ _ q=>q
theorem HOk.laid (x:HOk P w H h) (k:∀ b u,h.get? b=some u->h'.get? b=some u) (hp:h.objs.size<=a) (new:ObjOk P w (upd H a o) h' a o):HOk P w (upd H a o) h':=fun b u e=>by
 have hn:=x.fresh hp;by_cases hb:b=a
 ·subst hb; rw [upd_same] at e; cases e; exact new
 ·rw [aA hb] at e;exact (x b u e).stay (fun c v _ q=>k c v q) (fun c q=>by rw [aA (az q hn)]; exact q) fun c xs q=>by rw [aA (az q hn)]; exact q
end
def Rd (H:Hp) (a:Addr) (u:HO):Prop:=H a=some u\/∃ o,H a=some (.frz o u)
theorem Rd.ok {P:Program} {w:World} {H:Hp} {h:Heap} {a:Addr} {u:HO} (r:Rd H a u) (x:HOk P w H h):ObjOk P w H h a u:=by
 rcases r with r | ⟨o,r⟩
 ·exact x a u r
 ·obtain ⟨_,q⟩:=x a _ r;exact q
noncomputable def Mut:Option HO->Prop
 | some (.lst _)=>True
 | some (.dK _)=>True
 | some (.dT _)=>True
 | some (.set _ _)=>True
 | some (.ins _ _ _)=>True
 | some (.ext _)=>True
 | _=>False
section
variable {P:Program} {w:World} {H:Hp} {h h':Heap} {x e:Addr} {o':HO}
theorem HOk.write (ok:HOk P w H h) (mu:Mut (H x)) (he:e=x\/H e=some (.own x)) (k:∀ b u,b≠e->h.get? b=some u->h'.get? b=some u) (heo:∃ u,h'.get? e=some u)
  (new:ObjOk P w (upd H x o') h' x o'):HOk P w (upd H x o') h':=fun b u q=>by
 have nown:∀ c y,H c=some (.own y)->c≠x:=fun c y r z=>by subst z; rw [r] at mu; exact mu
 have ntup:∀ c xs,H c=some (.tup xs)->c≠x:=fun c xs r z=>by subst z; rw [r] at mu; exact mu
 by_cases hb:b=x
 ·subst hb; rw [upd_same] at q; cases q; exact new
 ·rw [aA hb] at q;by_cases hbe:b=e
  ·have q':H b=some (.own x):=by
    rcases he with z | z
    ·exact absurd (hbe.trans z) hb
    ·rw [hbe]; exact z
   rw [q] at q'; cases q';obtain ⟨v,hv⟩:=heo;exact ⟨v,by rw [hbe]; exact hv⟩
  ·refine (ok b u q).stay (fun c v hc r=>k c v ?_ r) (fun c r=>by rw [aA (nown c b r)]; exact r) fun c xs r=>by rw [aA (ntup c xs r)]; exact r
   rcases hc with rfl | hc
   ·exact hbe
   ·rintro rfl;rcases he with z | z
    ·exact nown c b hc z
    ·rw [hc] at z; cases z; exact hb rfl
end
structure Un (fs ex:List Addr) (H H':Hp) (h h':Heap):Prop where
 keep:∀ b o,h.get? b=some o->H b=none->b ∉ fs->b ∉ ex->h'.get? b=some o
 slot:∀ b o,h.get? b=some o->H b=none->b ∈ fs->b ∉ ex->∃ sl,h'.get? b=some { o with slots:=sl }
 free:∀ b o,h.get? b=some o->H b=none->b ∉ ex->H' b=none
 there:∀ b o,h.get? b=some o->b ∉ ex->∃ o',h'.get? b=some o'
 tups:∀ b xs,H b=some (.tup xs)->H' b=some (.tup xs)
 frzs:∀ b o xs,H b=some (.frz o (.lst xs))->H' b=some (.frz o (.lst xs))
 tbls:∀ b ps,H b=some (.tbl ps)->∃ more,H' b=some (.tbl (ps++more))
section
variable {fs fs' ex ex':List Addr} {H H1 H2:Hp} {h h1 h2 h':Heap} {a x e:Addr} {o:HO}
theorem Un.any (u:Un fs ex H H1 h h1) {b:Addr} {ob:Obj} (q:h.get? b=some ob) (n:H b=none) (hx:b ∉ ex):∃ sl,h1.get? b=some { ob with slots:=sl }:=by
 by_cases hb:b ∈ fs
 ·exact u.slot b ob q n hb hx
 ·exact ⟨ob.slots,u.keep b ob q n hb hx⟩
theorem Un.kept (k:∀ b u,h.get? b=some u->h'.get? b=some u):Un fs ex H H h h':=
 ⟨fun b ob q _ _ _=>k b ob q,fun b ob q _ _ _=>⟨ob.slots,k b ob q⟩,fun _ _ _ n _=>n,fun b ob q _=>⟨ob,k b ob q⟩,fun _ _ q=>q,fun _ _ _ q=>q,fun _ ps q=>⟨#[],by rw [q]; simp⟩⟩
theorem Un.refl:Un fs ex H H h h:=Un.kept fun _ _ q=>q
theorem Un.laid (k:∀ b u,h.get? b=some u->h'.get? b=some u) (hp:h.objs.size<=a) (hn:H a=none):Un fs ex H (upd H a o) h h' where
 keep:=fun b u q _ _ _=>k b u q
 slot:=fun b u q _ _ _=>⟨u.slots,k b u q⟩
 free:=fun b u q n _=>by rw [aA (Nat.ne_of_lt (Nat.lt_of_lt_of_le (Heap.lt_size q) hp))]; exact n
 there:=fun b u q _=>⟨u,k b u q⟩
 tups:=fun b xs q=>by rw [aA (az q hn)]; exact q
 frzs:=fun b u xs q=>by rw [aA (az q hn)]; exact q
 tbls:=fun b ps q=>⟨#[],by rw [aA (az q hn),q]; simp⟩
theorem Un.write (mu:Mut (H x)) (he:e=x\/H e=some (.own x)) (k:∀ b u,b≠e->h.get? b=some u->h'.get? b=some u) (heo:∃ u,h'.get? e=some u):Un fs ex H (upd H x o) h h':=by
 have hx:∀ b,H b=none->b≠x:=fun b n z=>by subst z; rw [n] at mu; exact mu
 have hb:∀ b,H b=none->b≠e:=fun b n z=>by
  subst z;rcases he with r | r
  ·exact hx b n r
  ·rw [n] at r; cases r
 have hm:∀ b u,H b=some u->¬ Mut (some u)->b≠x:=fun b u q nm z=>by subst z; rw [q] at mu; exact nm mu
 refine ⟨fun b u q n _ _=>k b u (hb b n) q,fun b u q n _ _=>⟨u.slots,k b u (hb b n) q⟩,fun b u q n _=>by rw [aA (hx b n)]; exact n,fun b u q _=>?_,
  fun b xs q=>by rw [aA (hm b _ q fun z=>z)]; exact q,fun b u xs q=>by rw [aA (hm b _ q fun z=>z)]; exact q,fun b ps q=>⟨#[],by rw [aA (hm b _ q fun z=>z),q]; simp⟩⟩
 by_cases hbe:b=e
 ·subst hbe; exact heo
 ·exact ⟨u,k b u hbe q⟩
end
noncomputable def trk (h:Heap) (H:Hp):List Addr:=(List.range h.objs.size).filter fun a=>(H a).isSome
noncomputable def hidT (h:Heap) (H:Hp):Heap:=PySem.W.hideAll h (trk h H)
theorem pL (h:Heap) (H:Hp):(hidT h H).objs.size=h.objs.size:=PySem.W.hideAll_size _ _
theorem rV {h:Heap} {H:Hp} {b:Addr} {o:Obj} (e:h.get? b=some o) (n:H b=none):(hidT h H).get? b=some o:=
 PySem.W.hideAll_get _ e fun hm=>by
  have q:(H b).isSome=true:=(List.mem_filter.mp hm).2;rw [n] at q; simp at q
theorem ve {h:Heap} {H:Hp} {b:Addr} {o:Obj} (e:(hidT h H).get? b=some o):h.get? b=some o/\H b=none:=by
 have e':h.get? b=some o:=PySem.W.of_hideAll (trk h H) e;refine ⟨e',?_⟩;cases q:H b with
 | none=>rfl
 | some x=>
  have hm:b ∈ trk h H:=List.mem_filter.mpr ⟨List.mem_range.mpr (Heap.lt_size e'),by simp [q]⟩;have z:(hidT h H).get? b=none:=PySem.W.hideAll_none (trk h H) hm;rw [z] at e; cases e
noncomputable def allNews (g h:Heap) (L:Addr):List (Addr × Obj):=(List.range h.objs.size).filterMap fun a=>if a=L\/(g.get? a).isSome=true then none else (h.get? a).map fun o=>(a,o)
noncomputable def rest (g h:Heap) (L d:Addr):List (Addr × Obj):=(allNews g h L).filter fun p=>decide (p.1≠d)
structure Mod (K:Frag) (mg:Str->Option Value) (base:Heap):Prop where
 kin:K.In base
 glob:base.Ns mainGlobals mg
 blt:∃ mb,base.Ns builtinsNs mb/\∀ x:Str,x ≠ "__name__" -> mb x=bootBuiltins x
 nolimit:base.NoLimit
structure Cx where
 prog:Program
 w:World
 K:Frag
 mg:Str->Option Value
 base:Heap
 A:Around
 N:List Str
 s₀:Shared
 H₀:Hp
 env:Env
 outer:List Env
 stack:List Env
 ex:List Addr
 fn:Str->Bool
 calm:Bool
 pn:List (Addr × Obj)
 xe:Value->Shared->Prop
noncomputable def frs (l:List Env):List Addr:=l.filterMap (·.frame)
noncomputable abbrev Cx.fs (X:Cx):List Addr:=frs X.outer
def Vis (sc:Scope) (x:Str):Prop:=sc.names.lookup x=some .local\/sc.names.lookup x=some .cell\/sc.names.lookup x=some .free
def Loc (sc:Scope) (x:Str):Prop:=sc.names.lookup x=some .local\/sc.names.lookup x=some .cell
def Look (env:Env) (h:Heap) (m:Str->Option Value) (x:Str) (u:Value):Prop:=
 (env.kindOf x=some .local/\m x=some u)\/((env.kindOf x=some .cell\/env.kindOf x=some .free)/\∃ c,env.cells.lookup x=some c/\h.IsCell c (some u))
structure Cx.Ok (X:Cx):Prop where
 mod:Mod X.K X.mg X.base
 kind:X.env.scope.kind=.function
 glob:X.env.globals=mainGlobals
 blt:X.env.builtins=builtinsNs
 above:X.s₀.heap.objs.size<=X.env.locals
 inj:∀ x y c,X.env.cells.lookup x=some c->X.env.cells.lookup y=some c->x=y
 has:∀ x,(X.env.kindOf x=some .cell\/X.env.kindOf x=some .free)->∃ c,X.env.cells.lookup x=some c
 cab:∀ x c,X.fn x=true->X.env.cells.lookup x=some c->X.s₀.heap.objs.size<=c
 hd:X.calm=true->X.A.handled=none
 frames:X.A.frames=some X.stack
 stk:X.stack=X.outer\/(X.stack=X.env::X.outer/\X.env.frame=some X.env.locals)
 exf:∀ b ∈ X.ex,b≠X.env.locals/\∀ x c,X.env.cells.lookup x=some c->c≠b
 bs:∀ b o,X.base.get? b=some o->X.s₀.heap.get? b=some o/\X.H₀ b=none
 bsz:X.base.objs.size<=X.s₀.heap.objs.size
 noex:∀ b o,X.base.get? b=some o->b ∉ X.ex
 exfs:∀ b ∈ X.ex,b ∉ X.fs
 funs:X.s₀.heap.FunFrames X.base X.outer
 frf:∀ b ∈ X.fs,X.H₀ b=none
structure Inv (X:Cx) (pins:List (Addr × Obj)) (σ:List (Option V)) (H:Hp) (s:Shared):Prop where
 ok:X.Ok
 os:s.os=X.s₀.os
 bare:AllBare s.gens
 base:Un X.fs X.ex X.H₀ H X.s₀.heap s.heap
 loc:∃ m,s.heap.Ns X.env.locals m/\∀ (i:Nat) (x:Str) (v:V),X.N[i]? = some x->σ[i]? = some (some v)->Vis X.env.scope x->∃ u,RelV v u/\Look X.env s.heap m x u
 cell:∀ x c,X.env.cells.lookup x=some c->∃ v,s.heap.IsCell c v
 free:H X.env.locals=none
 freeC:∀ x c,X.env.cells.lookup x=some c->H c=none
 pin:∀ p ∈ X.pn++pins,s.heap.get? p.1=some p.2/\H p.1=none/\p.1≠X.env.locals/\p.1 ∉ X.fs/\∀ v,p.2.data≠.cell v
 hok:HOk X.prog X.w H s.heap
 len:σ.length=X.N.length
 tk:0 < s.toks
section
variable {X:Cx} {pins:List (Addr × Obj)} {σ:List (Option V)} {H H':Hp} {s:Shared} {h':Heap}
theorem Cx.Ok.nofr (ok:X.Ok) {b:Addr} {o:Obj} (e:X.base.get? b=some o):b ∉ X.fs:=fun hb=>by
 have:=(ok.funs.mem hb).1;rw [e] at this; cases this
theorem Inv.bs (I:Inv X pins σ H s):∀ b o,X.base.get? b=some o->s.heap.get? b=some o/\H b=none:=fun b o e=>
 ⟨I.base.keep b o (I.ok.bs b o e).1 (I.ok.bs b o e).2 (I.ok.nofr e) (I.ok.noex b o e),I.base.free b o (I.ok.bs b o e).1 (I.ok.bs b o e).2 (I.ok.noex b o e)⟩
theorem Inv.bk (I:Inv X pins σ H s):∀ b o,X.base.get? b=some o->s.heap.get? b=some o:=fun b o e=>(I.bs b o e).1
theorem Inv.mod (I:Inv X pins σ H s):Mod X.K X.mg X.base:=I.ok.mod
theorem Inv.kIn (I:Inv X pins σ H s):X.K.In s.heap:=I.ok.mod.kin.keeps I.bk
theorem Inv.lt (I:Inv X pins σ H s):X.env.locals < s.heap.objs.size:=let ⟨_,hn,_⟩:=I.loc; hn.lt
theorem Inv.sz (I:Inv X pins σ H s):X.s₀.heap.objs.size<=s.heap.objs.size:=Nat.le_trans I.ok.above (Nat.le_of_lt I.lt)
theorem Inv.nofs (I:Inv X pins σ H s) {a:Addr} (h:s.heap.objs.size<=a):a ∉ X.fs:=fun hb=>by
 obtain ⟨_,o,ho,_⟩:=I.ok.funs.mem hb;exact absurd (Nat.lt_of_lt_of_le (Heap.lt_size ho) (Nat.le_trans I.sz h)) (Nat.lt_irrefl _)
theorem Inv.cne (I:Inv X pins σ H s):∀ x c,X.env.cells.lookup x=some c->c≠X.env.locals:=fun x c e z=>by
 obtain ⟨v,o,ho,hd⟩:=I.cell x c e;obtain ⟨m,⟨o',es,ep,ho',hd',_⟩,_⟩:=I.loc;rw [z,ho'] at ho; cases ho; rw [hd'] at hd; cases hd
theorem Inv.funs (I:Inv X pins σ H s):s.heap.FunFrames X.base X.outer:=by
 have all:∀ (l:List Env),(∀ b ∈ frs l,b ∈ X.fs)->X.s₀.heap.FunFrames X.base l->s.heap.FunFrames X.base l:=by
  intro l
  induction l with
  | nil=>intro _ _; trivial
  | cons env r ih=>
   intro hs hl;obtain ⟨hk,⟨L,o,hf,hn,ho,hd⟩,hr⟩:=hl;have hL:L ∈ X.fs:=hs L (by unfold frs; rw [List.filterMap_cons,hf]; exact List.mem_cons_self);obtain ⟨sl,e⟩:=I.base.slot L o ho (I.ok.frf L hL) hL fun z=>I.ok.exfs L z hL
   exact ⟨hk,⟨L,_,hf,hn,e,hd⟩,ih (fun b hb=>hs b (by unfold frs; rw [List.filterMap_cons,hf]; exact List.mem_cons_of_mem _ hb)) hr⟩
 exact all X.outer (fun _ hb=>hb) I.ok.funs
theorem Inv.stack (I:Inv X pins σ H s):s.heap.FunFrames X.base X.stack:=by
 rcases I.ok.stk with e | ⟨e,hf⟩
 ·rw [e]; exact I.funs
 ·rw [e];obtain ⟨m,hn,_⟩:=I.loc;refine .cons (by rw [I.ok.kind]; decide) hf hn ?_ I.funs;exact Heap.get?_none_of_le (Nat.le_trans I.ok.bsz I.ok.above)
theorem Inv.stkSub (I:Inv X pins σ H s):∀ b ∈ frs X.stack,b ∈ X.env.locals::X.fs:=fun b hb=>by
 rcases I.ok.stk with e | ⟨e,hf⟩
 ·rw [e] at hb; exact List.mem_cons_of_mem _ hb
 ·rw [e] at hb;unfold frs at hb;rw [List.filterMap_cons,hf] at hb;exact hb
theorem Inv.stkFree (I:Inv X pins σ H s):∀ b ∈ frs X.stack,H b=none:=fun b hb=>by
 rcases List.mem_cons.mp (I.stkSub b hb) with e | hb
 ·rw [e]; exact I.free
 ·obtain ⟨_,o,ho,_⟩:=I.ok.funs.mem hb;exact I.base.free b o ho (I.ok.frf b hb) fun z=>I.ok.exfs b z hb
theorem Inv.step {g':Array GenState} {t':Nat} {d':Drawn} {ch:List Addr} (I:Inv X pins σ H s)
  (hch:∀ b ∈ ch,(b ∈ X.ex\/X.s₀.heap.objs.size<=b)/\b≠X.env.locals/\(∀ x c,X.env.cells.lookup x=some c->c≠b)/\∀ p ∈ X.pn++pins,p.1≠b)
  (keep:∀ b o,b≠X.env.locals->b ∉ X.fs->b ∉ ch->s.heap.get? b=some o->H b=none->h'.get? b=some o)
  (slot:∀ b o,b≠X.env.locals->b ∈ X.fs->b ∉ ch->s.heap.get? b=some o->H b=none->∃ sl,h'.get? b=some { o with slots:=sl }) (free:∀ b o,b ∉ ch->s.heap.get? b=some o->H b=none->H' b=none)
  (there:∀ b o,b ∉ ch->s.heap.get? b=some o->∃ o',h'.get? b=some o')
  (tups:∀ b xs,H b=some (.tup xs)->H' b=some (.tup xs)) (frzs:∀ b o xs,H b=some (.frz o (.lst xs))->H' b=some (.frz o (.lst xs))) (tbls:∀ b ps,H b=some (.tbl ps)->∃ more,H' b=some (.tbl (ps++more)))
  (ns:∀ m,s.heap.Ns X.env.locals m->h'.Ns X.env.locals m) (hok:HOk X.prog X.w H' h') (hg:AllBare g') (ht:0 < t':=by first | assumption | exact Nat.succ_pos _ | (apply Inv.tk; assumption) | omega):
  Inv X pins σ H' { s with heap:=h',gens:=g',drawn:=d',toks:=t' }:=by
 have neL:∀ b o,X.s₀.heap.get? b=some o->b≠X.env.locals:=fun b o e=>Nat.ne_of_lt (Nat.lt_of_lt_of_le (Heap.lt_size e) I.ok.above)
 have neC:∀ b o,X.s₀.heap.get? b=some o->b ∉ X.ex->b ∉ ch:=fun b o e hx hb=>by
  rcases (hch b hb).1 with z | z
  ·exact hx z
  ·exact absurd (Nat.lt_of_lt_of_le (Heap.lt_size e) z) (Nat.lt_irrefl _)
 have cellK:∀ x c,X.env.cells.lookup x=some c->∀ v,s.heap.IsCell c v->h'.IsCell c v:=fun x c e v ⟨o,ho,hd⟩=>by
  have nch:c ∉ ch:=fun z=>(hch c z).2.2.1 x c e rfl
  by_cases hc:c ∈ X.fs
  ·obtain ⟨sl,q⟩:=slot c o (I.cne x c e) hc nch ho (I.freeC x c e);exact ⟨_,q,hd⟩
  ·exact ⟨o,keep c o (I.cne x c e) hc nch ho (I.freeC x c e),hd⟩
 refine ⟨I.ok,I.os,hg,⟨fun b o e n hb hx=>?_,fun b o e n hb hx=>?_,fun b o e n hx=>?_,fun b o e hx=>?_,fun b xs e=>tups b xs (I.base.tups b xs e),fun b o xs e=>frzs b o xs (I.base.frzs b o xs e),fun b ps e=>?_⟩,?_,fun x c e=>?_,?_,fun x c e=>?_,fun p hp=>?_,hok,I.len,ht⟩
 ·exact keep b o (neL b o e) hb (neC b o e hx) (I.base.keep b o e n hb hx) (I.base.free b o e n hx)
 ·obtain ⟨sl,e1⟩:=I.base.slot b o e n hb hx;obtain ⟨sl',e2⟩:=slot b _ (neL b o e) hb (neC b o e hx) e1 (I.base.free b o e n hx);exact ⟨sl',e2⟩
 ·obtain ⟨o',e1⟩:=I.base.there b o e hx;exact free b o' (neC b o e hx) e1 (I.base.free b o e n hx)
 ·obtain ⟨o',e1⟩:=I.base.there b o e hx;exact there b o' (neC b o e hx) e1
 ·obtain ⟨m1,e1⟩:=I.base.tbls b ps e;obtain ⟨m2,e2⟩:=tbls b _ e1;exact ⟨m1++m2,by rw [e2,Array.append_assoc]⟩
 ·obtain ⟨m,hn,hl⟩:=I.loc;refine ⟨m,ns m hn,fun i x v e1 e2 e3=>?_⟩;obtain ⟨u,r,l⟩:=hl i x v e1 e2 e3;refine ⟨u,r,?_⟩;rcases l with l | ⟨k,c,e,z⟩
  ·exact .inl l
  ·exact .inr ⟨k,c,e,cellK x c e _ z⟩
 ·obtain ⟨v,z⟩:=I.cell x c e;exact ⟨v,cellK x c e v z⟩
 ·obtain ⟨m,⟨o,_,_,ho,_⟩,_⟩:=I.loc;exact free _ o (fun z=>(hch _ z).2.1 rfl) ho I.free
 ·obtain ⟨v,o,ho,hd⟩:=I.cell x c e;exact free c o (fun z=>(hch c z).2.2.1 x c e rfl) ho (I.freeC x c e)
 ·obtain ⟨e,n,ne,nf,d⟩:=I.pin p hp;have nch:p.1 ∉ ch:=fun z=>(hch p.1 z).2.2.2 p hp rfl
  exact ⟨keep p.1 p.2 ne nf nch e n,free p.1 p.2 nch e n,ne,nf,d⟩
theorem Inv.un {t':Nat} (I:Inv X pins σ H s) (u:Un X.fs [] H H' s.heap h') (hok:HOk X.prog X.w H' h') (ht:0 < t':=by first | assumption | exact Nat.succ_pos _ | (apply Inv.tk; assumption) | omega):Inv X pins σ H' { s with heap:=h',toks:=t' }:=by
 obtain ⟨m,⟨o,es,ep,ho,r⟩,_⟩:=id I.loc;obtain ⟨sl,hL⟩:=u.any ho I.free (by simp);exact I.step (g':=s.gens) (d':=s.drawn) (ch:=[]) (fun _ z=>nomatch z) (fun b o _ hb _ e n=>u.keep b o e n hb (by simp)) (fun b o _ hb _ e n=>u.slot b o e n hb (by simp)) (fun b o _ e n=>u.free b o e n (by simp)) (fun b o _ e=>u.there b o e (by simp)) u.tups u.frzs u.tbls (fun m' hm=>by
  obtain ⟨o',es',ep',ho',r'⟩:=hm;rw [ho] at ho'; cases ho';exact ⟨_,es',ep',hL,r'⟩) hok I.bare ht
theorem Inv.call {g':Array GenState} {t':Nat} {d':Drawn} {ch:List Addr} (I:Inv X pins σ H s) (u:Un (frs X.stack) ch H H' s.heap h') (hok:HOk X.prog X.w H' h') (hg:AllBare g')
  (hch:∀ b ∈ ch,(b ∈ X.ex\/X.s₀.heap.objs.size<=b)/\b≠X.env.locals/\(∀ x c,X.env.cells.lookup x=some c->c≠b)/\∀ p ∈ X.pn++pins,p.1≠b) (ht:0 < t':=by first | assumption | exact Nat.succ_pos _ | (apply Inv.tk; assumption) | omega):
  Inv X pins σ H' { s with heap:=h',gens:=g',drawn:=d',toks:=t' }:=by
 obtain ⟨m,⟨o,es,ep,ho,r⟩,_⟩:=id I.loc;obtain ⟨sl,hL⟩:=u.any ho I.free fun z=>(hch _ z).2.1 rfl
 exact I.step (ch:=ch) hch (fun b o hL hb hc e n=>u.keep b o e n (fun z=>(List.mem_cons.mp (I.stkSub b z)).elim hL hb) hc) (fun b o _ _ hc e n=>u.any e n hc) (fun b o hc e n=>u.free b o e n hc) (fun b o hc e=>u.there b o e hc) u.tups u.frzs u.tbls (fun m' hm=>by
  obtain ⟨o',es',ep',ho',r'⟩:=hm;rw [ho] at ho'; cases ho';exact ⟨_,es',ep',hL,r'⟩) hok hg ht
theorem Inv.turned {t':Nat} {it:Addr} (I:Inv X pins σ H s) (k:∀ b o,b≠it->s.heap.get? b=some o->h'.get? b=some o) (hn:H it=none) (hL:it≠X.env.locals)
  (h1:it ∈ X.ex\/X.s₀.heap.objs.size<=it) (h2:∀ x c,X.env.cells.lookup x=some c->c≠it) (h3:∀ p ∈ X.pn++pins,p.1≠it) (ht:0 < t':=by first | assumption | exact Nat.succ_pos _ | (apply Inv.tk; assumption) | omega):Inv X pins σ H { s with heap:=h',toks:=t' }:=by
 have nit:∀ b u,H b=some u->b≠it:=fun b u e z=>by rw [z,hn] at e; cases e
 refine I.step (g':=s.gens) (d':=s.drawn) (ch:=[it]) (fun b hb=>?_) (fun b o _ _ hc e _=>k b o (fun z=>hc (by simp [z])) e) (fun b o _ _ hc e _=>⟨o.slots,k b o (fun z=>hc (by simp [z])) e⟩) (fun _ _ _ _ n=>n)
  (fun b o hc e=>⟨o,k b o (fun z=>hc (by simp [z])) e⟩) (fun _ _ e=>e) (fun _ _ _ e=>e) (fun b ps e=>⟨#[],by rw [e]; simp⟩) (fun m hm=>?_) (fun b u e=>?_) I.bare
 ·have e:b=it:=by simpa using hb
  subst e;exact ⟨h1,hL,h2,h3⟩
 ·obtain ⟨o,es,ep,ho,r⟩:=hm;exact ⟨o,es,ep,k _ o (Ne.symm hL) ho,r⟩
 ·refine (I.hok b u e).stay (fun c v hc q=>k c v ?_ q) (fun _ q=>q) fun _ _ q=>q
  rcases hc with z | z
  ·rw [z]; exact nit b u e
  ·exact nit c _ z
theorem Inv.tok (I:Inv X pins σ H s) (t:Nat) (ht:0 < t:=by first | assumption | exact Nat.succ_pos _ | (apply Inv.tk; assumption) | omega):Inv X pins σ H { s with toks:=t }:=I.un (h':=s.heap) (t':=t) Un.refl I.hok ht
theorem Inv.kept {t':Nat} (I:Inv X pins σ H s) (k:∀ b u,s.heap.get? b=some u->h'.get? b=some u) (ht:0 < t':=by first | assumption | exact Nat.succ_pos _ | (apply Inv.tk; assumption) | omega):Inv X pins σ H { s with heap:=h',toks:=t' }:=I.un (Un.kept k) (I.hok.kept k) ht
theorem Inv.laid {a:Addr} {o:HO} {t':Nat} (I:Inv X pins σ H s) (k:∀ b u,s.heap.get? b=some u->h'.get? b=some u) (hp:s.heap.objs.size<=a) (new:ObjOk X.prog X.w (upd H a o) h' a o) (ht:0 < t':=by first | assumption | exact Nat.succ_pos _ | (apply Inv.tk; assumption) | omega):
  Inv X pins σ (upd H a o) { s with heap:=h',toks:=t' }:=I.un (Un.laid k hp (I.hok.fresh hp)) (I.hok.laid k hp new) ht
theorem Inv.write {x e:Addr} {o:HO} {t':Nat} (I:Inv X pins σ H s) (mu:Mut (H x)) (he:e=x\/H e=some (.own x)) (k:∀ b u,b≠e->s.heap.get? b=some u->h'.get? b=some u) (heo:∃ u,h'.get? e=some u)
  (new:ObjOk X.prog X.w (upd H x o) h' x o) (ht:0 < t':=by first | assumption | exact Nat.succ_pos _ | (apply Inv.tk; assumption) | omega):Inv X pins σ (upd H x o) { s with heap:=h',toks:=t' }:=I.un (Un.write mu he k heo) (I.hok.write mu he k heo new) ht
theorem Inv.weak {σ':List (Option V)} (I:Inv X pins σ H s) (hl:σ'.length=σ.length) (w:∀ (i:Nat) v,σ'[i]? = some (some v)->σ[i]? = some (some v)):Inv X pins σ' H s:=
 ⟨I.ok,I.os,I.bare,I.base,let ⟨m,hn,hl'⟩:=I.loc; ⟨m,hn,fun i x v e1 e2 e3=>hl' i x v e1 (w i v e2) e3⟩,I.cell,I.free,I.freeC,I.pin,I.hok,hl.trans I.len,I.tk⟩
theorem Inv.pins_of {pins':List (Addr × Obj)} (I:Inv X pins σ H s) (h:∀ p ∈ pins',s.heap.get? p.1=some p.2/\H p.1=none/\p.1≠X.env.locals/\p.1 ∉ X.fs/\∀ v,p.2.data≠.cell v):Inv X pins' σ H s:=
 ⟨I.ok,I.os,I.bare,I.base,I.loc,I.cell,I.free,I.freeC,fun p hp=>(List.mem_append.mp hp).elim (fun z=>I.pin p (List.mem_append_left _ z)) (h p),I.hok,I.len,I.tk⟩
theorem mE {N:List Str} (hN:N.Nodup) {i j:Nat} {x:Str} (a:N[i]? = some x) (b:N[j]? = some x):i=j:=by
 obtain ⟨h1,e1⟩:=List.getElem?_eq_some_iff.mp a;obtain ⟨h2,e2⟩:=List.getElem?_eq_some_iff.mp b;exact (List.getElem_inj hN).mp (e1.trans e2.symm)
theorem kZ {M:Model} {A:Around} {E:Value->Shared->Prop} {i:Nat} {x:Str} {v:V} {u:Value} {Q:Unit->Shared->Prop} (I:Inv X pins σ H s) (hN:X.N.Nodup) (hi:X.N[i]? = some x) (hx:Loc X.env.scope x) (r:RelV v u)
  (h:∀ s',Inv X pins (σ.set i (some v)) H s'->(∃ a,Heap.SameBut a s.heap s'.heap/\(a=X.env.locals\/X.env.cells.lookup x=some a))->Q () s') (hf:X.fn x=true\/X.env.scope.names.lookup x=some .local:=by first | exact .inl rfl | exact .inr rfl | assumption):wpAny M A (storeName X.env x u) Q E s:=by
 obtain ⟨m,hn,hl⟩:=id I.loc;have hcls:(X.env.scope.kind == .class || (X.env.scope.kind == .module && X.env.locals != X.env.globals))=false:=by rw [I.ok.kind]; rfl
 have hiσ:i < σ.length:=by rw [I.len]; exact (List.getElem?_eq_some_iff.mp hi).1
 have cne:=I.cne;have tracked:∀ {a:Addr} {h':Heap},(∃ o,s.heap.get? a=some o/\H a=none)->Heap.SameBut a s.heap h'->HOk X.prog X.w H h':=fun {a h'} ha hs b ob e=>by
  obtain ⟨_,_,hfree⟩:=ha;refine (I.hok b ob e).stay (fun c w' hc q=>(hs.2 c ?_).trans q) (fun _ q=>q) fun _ _ q=>q
  rintro rfl;rcases hc with rfl | hc
  ·rw [hfree] at e; cases e
  ·rw [hfree] at hc; cases hc
 rcases hx with hk | hk
 ·refine wpAny_storeName_local hk hn (fun h' hn' hs=>?_) hcls;obtain ⟨oL,_,_,hoL,_⟩:=id hn;refine h _ ⟨I.ok,I.os,I.bare,⟨fun b o e n hb hx=>?_,fun b o e n hb hx=>?_,I.base.free,fun b o e hx=>?_,I.base.tups,I.base.frzs,I.base.tbls⟩,⟨_,hn',fun j y v' e1 e2 e3=>?_⟩,fun y c e=>?_,I.free,I.freeC,fun p hp=>?_,tracked ⟨oL,hoL,I.free⟩ hs,by simpa using I.len,(by first | exact Nat.succ_pos _ | exact I.tk)⟩ ⟨_,hs,.inl rfl⟩
  ·exact (hs.2 b (Nat.ne_of_lt (Nat.lt_of_lt_of_le (Heap.lt_size e) I.ok.above))).trans (I.base.keep b o e n hb hx)
  ·obtain ⟨sl,e1⟩:=I.base.slot b o e n hb hx;exact ⟨sl,(hs.2 b (Nat.ne_of_lt (Nat.lt_of_lt_of_le (Heap.lt_size e) I.ok.above))).trans e1⟩
  ·obtain ⟨o',e1⟩:=I.base.there b o e hx;exact ⟨o',(hs.2 b (Nat.ne_of_lt (Nat.lt_of_lt_of_le (Heap.lt_size e) I.ok.above))).trans e1⟩
  ·by_cases hj:j=i
   ·subst hj;rw [hi] at e1; cases e1;rw [List.getElem?_set_self hiσ] at e2;cases e2;exact ⟨u,r,.inl ⟨hk,by simp⟩⟩
   ·rw [List.getElem?_set_ne (Ne.symm hj)] at e2;obtain ⟨u',r',q⟩:=hl j y v' e1 e2 e3;refine ⟨u',r',?_⟩;rcases q with ⟨k,e⟩ | ⟨k,c,e,z⟩
    ·refine .inl ⟨k,?_⟩;have:y≠x:=fun e=>hj (mE hN e1 (e ▸ hi))
     simp [this,e]
    ·exact .inr ⟨k,c,e,z.sameBut hs (cne y c e)⟩
  ·obtain ⟨w',z⟩:=I.cell y c e;exact ⟨w',z.sameBut hs (cne y c e)⟩
  ·obtain ⟨e,n,ne,nf,d⟩:=I.pin p hp;exact ⟨(hs.2 p.1 ne).trans e,n,ne,nf,d⟩
 ·have hfn:X.fn x=true:=by
   rcases hf with z | z
   ·exact z
   ·rw [z] at hk; cases hk
  obtain ⟨c,hc⟩:=I.ok.has x (.inl hk);obtain ⟨w',z⟩:=I.cell x c hc;refine wpAny_storeName_cell I.ok.kind hk hc z (fun h' hc' hs=>?_);obtain ⟨oc,hoc,hocd⟩:=id z;refine h { s with heap:=h' } ⟨I.ok,I.os,I.bare,⟨fun b o e n hb hx=>?_,fun b o e n hb hx=>?_,I.base.free,fun b o e hx=>?_,I.base.tups,I.base.frzs,I.base.tbls⟩,⟨m,hn.sameBut hs (Ne.symm (cne x c hc)),fun j y v' e1 e2 e3=>?_⟩,fun y c' e=>?_,I.free,I.freeC,fun p hp=>?_,tracked ⟨oc,hoc,I.freeC x c hc⟩ hs,by simpa using I.len,I.tk⟩ ⟨c,hs,.inr hc⟩
  ·exact (hs.2 b (Nat.ne_of_lt (Nat.lt_of_lt_of_le (Heap.lt_size e) (I.ok.cab x c hfn hc)))).trans (I.base.keep b o e n hb hx)
  ·obtain ⟨sl,e1⟩:=I.base.slot b o e n hb hx;exact ⟨sl,(hs.2 b (Nat.ne_of_lt (Nat.lt_of_lt_of_le (Heap.lt_size e) (I.ok.cab x c hfn hc)))).trans e1⟩
  ·obtain ⟨o',e1⟩:=I.base.there b o e hx;exact ⟨o',(hs.2 b (Nat.ne_of_lt (Nat.lt_of_lt_of_le (Heap.lt_size e) (I.ok.cab x c hfn hc)))).trans e1⟩
  ·by_cases hj:j=i
   ·subst hj;rw [hi] at e1; cases e1;rw [List.getElem?_set_self hiσ] at e2;cases e2;exact ⟨u,r,.inr ⟨.inl hk,c,hc,hc'⟩⟩
   ·rw [List.getElem?_set_ne (Ne.symm hj)] at e2;obtain ⟨u',r',q⟩:=hl j y v' e1 e2 e3;refine ⟨u',r',?_⟩;rcases q with q | ⟨k,c',e,z'⟩
    ·exact .inl q
    ·refine .inr ⟨k,c',e,z'.sameBut hs ?_⟩;rintro rfl;exact hj (mE hN e1 (I.ok.inj _ _ _ e hc ▸ hi))
  ·by_cases hcc:c'=c
   ·subst hcc; exact ⟨_,hc'⟩
   ·obtain ⟨w2,z2⟩:=I.cell y c' e;exact ⟨w2,z2.sameBut hs hcc⟩
  ·obtain ⟨e,n,ne,nf,d⟩:=I.pin p hp;refine ⟨(hs.2 p.1 ?_).trans e,n,ne,nf,d⟩;intro q;rw [q,hoc] at e;have q':oc=p.2:=Option.some.inj e;exact d w' (by rw [<- q']; exact hocd)
theorem m9 {M:Model} {A:Around} {E:Value->Shared->Prop} {i:Nat} {x:Str} {v:V} {u:Value} {Q:Unit->Shared->Prop} (I:Inv X pins σ H s) (hN:X.N.Nodup) (hi:X.N[i]? = some x) (hx:Loc X.env.scope x) (r:RelV v u)
  (h:∀ s',Inv X pins (σ.set i (some v)) H s'->Q () s') (hf:X.fn x=true\/X.env.scope.names.lookup x=some .local:=by first | exact .inl rfl | exact .inr rfl | assumption):wpAny M A (storeName X.env x u) Q E s:=
 kZ I hN hi hx r (fun s' I' _=>h s' I') hf
theorem Inv.call' {s':Shared} {ch:List Addr} (I:Inv X pins σ H s) (ho:s'.os=s.os) (u:Un (frs X.stack) ch H H' s.heap s'.heap) (hok:HOk X.prog X.w H' s'.heap) (hg:AllBare s'.gens)
  (hch:∀ b ∈ ch,(b ∈ X.ex\/X.s₀.heap.objs.size<=b)/\b≠X.env.locals/\(∀ x c,X.env.cells.lookup x=some c->c≠b)/\∀ p ∈ X.pn++pins,p.1≠b) (ht:0 < s'.toks:=by first | assumption | exact Nat.succ_pos _ | (apply Inv.tk; assumption) | omega):Inv X pins σ H' s':=by
 obtain ⟨h',g',d',t',o'⟩:=s';have e:o'=s.os:=ho;subst e;exact I.call (g':=g') (t':=t') (d':=d') u hok hg hch ht
end
noncomputable abbrev XK:=Value->Option Addr->Hp->Prop
noncomputable abbrev St:=List (Option V)
noncomputable abbrev VK:=V->Hp->Prop
noncomputable abbrev TE:=St->Hp->VK->Prop
noncomputable abbrev TT:=St->Hp->(Bool->Hp->Prop)->Prop
noncomputable abbrev TA:=St->Hp->(List V->Hp->Prop)->Prop
structure Ends where
 nx:St->Hp->Prop
 rt:VK
 bk:St->Hp->Prop:=fun _ _=>False
 ct:St->Hp->Prop:=fun _ _=>False
noncomputable abbrev TS:=Ends->St->Hp->Prop
def EP (X:Cx) (pins:List (Addr × Obj)) (σ:St) (Q:VK) (u:Value) (s':Shared):Prop:=∃ v H',Inv X pins σ H' s'/\RelV v u/\Q v H'
def TP (X:Cx) (pins:List (Addr × Obj)) (σ:St) (Q:Bool->Hp->Prop) (b:Bool) (s':Shared):Prop:=∃ H',Inv X pins σ H' s'/\Q b H'
def AP (X:Cx) (pins:List (Addr × Obj)) (σ:St) (Q:List V->Hp->Prop) (us:List Value) (s':Shared):Prop:=∃ vs H',Inv X pins σ H' s'/\Vals vs us/\Q vs H'
def SP (X:Cx) (pins:List (Addr × Obj)) (D:Ends) (f:Flow) (s':Shared):Prop:=
 match f with
 | .next=>∃ σ' H',Inv X pins σ' H' s'/\D.nx σ' H'
 | .brk=>∃ σ' H',Inv X pins σ' H' s'/\D.bk σ' H'
 | .cont=>∃ σ' H',Inv X pins σ' H' s'/\D.ct σ' H'
 | .ret u=>∃ v σ' H',Inv X pins σ' H' s'/\RelV v u/\D.rt v H'
def PE (X:Cx) (e:Expr) (t:TE):Prop:=
 ∀ (pins:List (Addr × Obj)) (s:Shared) (σ:St) (H:Hp) (Q:VK),Inv X pins σ H s->t σ H Q->wpAny (model X.prog X.w) X.A (eval e X.env) (EP X pins σ Q) X.xe s
def PT (X:Cx) (e:Expr) (t:TT):Prop:=
 ∀ (pins:List (Addr × Obj)) (s:Shared) (σ:St) (H:Hp) (Q:Bool->Hp->Prop),Inv X pins σ H s->t σ H Q->wpAny (model X.prog X.w) X.A (isTrue e X.env (eval e X.env)) (TP X pins σ Q) X.xe s
def PW (X:Cx) (e:Expr) (t:TT):Prop:=
 ∀ (whole:Sem Value) (pins:List (Addr × Obj)) (s:Shared) (σ:St) (H:Hp) (Q:Bool->Hp->Prop),Inv X pins σ H s->t σ H Q->wpAny (model X.prog X.w) X.A (isTrue e X.env whole) (TP X pins σ Q) X.xe s
theorem PW.pt {X:Cx} {e:Expr} {t:TT} (h:PW X e t):PT X e t:=h _
def PA (X:Cx) (es:List Expr) (t:TA):Prop:=
 ∀ (pos:Pos) (pins:List (Addr × Obj)) (s:Shared) (σ:St) (H:Hp) (Q:List V->Hp->Prop),Inv X pins σ H s->t σ H Q->wpAny (model X.prog X.w) X.A (spliced (backTo pos (starEach es X.env))) (AP X pins σ Q) X.xe s
def PS (X:Cx) (st:Stmt) (t:TS):Prop:=
 ∀ (pins:List (Addr × Obj)) (s:Shared) (σ:St) (H:Hp) (D:Ends),Inv X pins σ H s->t D σ H->wpAny (model X.prog X.w) X.A (exec st X.env) (SP X pins D) X.xe s
def PSs (X:Cx) (st:List Stmt) (t:TS):Prop:=
 ∀ (pins:List (Addr × Obj)) (s:Shared) (σ:St) (H:Hp) (D:Ends),Inv X pins σ H s->t D σ H->wpAny (model X.prog X.w) X.A (execs st X.env) (SP X pins D) X.xe s
theorem thn {α:Type} {t:Sem α} {Q Q':α -> Shared->Prop} {M:Model} {A:Around} {E:Value->Shared->Prop} {s:Shared} (h:wpAny M A t Q E s) (hQ:∀ a s,Q a s->Q' a s):wpAny M A t Q' E s:=wpAny_mono h hQ fun _ _ x=>x
theorem tokQ {α:Type} {t:Sem α} {Q:α -> Shared->Prop} {M:Model} {A:Around} {E:Value->Shared->Prop} {s:Shared} (h0:0 < s.toks) (h:wpAny M A t (fun a s'=>0 < s'.toks->Q a s') E s):wpAny M A t Q E s:=
 wpAny_mono (wpAny_toks_of (n:=1) h0 h) (fun _ _ z=>z.2 z.1) fun _ _ z=>z.2
section
variable {X:Cx}
noncomputable def tVar (i:Nat):TE:=fun σ H Q=>∃ v,σ[i]? = some (some v)/\Q v H
noncomputable def tC (v:V):TE:=fun _ H Q=>Q v H
theorem vZ {i:Nat} {x:Str} {pos:Pos} (hN:X.N[i]? = some x) (hv:Vis X.env.scope x) (hd:(x == ("__debug__" : Str))=false:=by decide) (hcd:(x == ("__classdict__" : Str))=false:=by decide):PE X (.Name x pos) (tVar i):=by
 intro pins s σ H Q I h;obtain ⟨v,e,h⟩:=h;obtain ⟨m,hn,hl⟩:=I.loc;obtain ⟨u,r,l⟩:=hl i x v hN e hv;have fin:EP X pins σ Q u s:=⟨v,H,I,r,h⟩;rcases l with ⟨hk,hm⟩ | ⟨hk,c,hc,hcell⟩
 ·exact wpAny_Name (wpAny_loadName_local I.ok.kind hk hn hm fin) hd
 ·rcases hk with hk | hk
  ·exact wpAny_Name (wpAny_loadName_cell I.ok.kind hk hc hcell fin) hd
  ·exact wpAny_Name (wpAny_loadName_free I.ok.kind hk hc hcell fin hcd) hd
theorem ae {i j pos}:PE X (.Constant (.int i) j pos) (tC (.int i)):=fun _ _ _ H _ I h=>wpAny_Constant_int ⟨.int i,H,I.tok _,⟨_,rfl⟩,h⟩
theorem dt {b j pos}:PE X (.Constant (.bool b) j pos) (tC (.bl b)):=fun _ _ _ H _ I h=>Constant_bool ⟨.bl b,H,I,rfl,h⟩
theorem fh {j pos}:PE X (.Constant .none j pos) (tC .non):=fun _ _ _ H _ I h=>Constant_none ⟨.non,H,I,rfl,h⟩
theorem rW {x j pos}:PE X (.Constant (.str x) j pos) (tC (.str x)):=fun _ _ _ H _ I h=>Calls.Constant_str ⟨.str x,H,I.tok _,⟨_,rfl⟩,h⟩
def Gl (X:Cx) (x:Str):Prop:=X.env.kindOf x=some .globalImplicit
theorem pF {E:Value->Shared->Prop} {pins:List (Addr × Obj)} {s:Shared} {σ:St} {H:Hp} {x:Str} {u:Value} {pos:Pos} {Q:Value->Shared->Prop} (I:Inv X pins σ H s) (hg:Gl X x) (hm:X.mg x=some u) (h:Q u s)
  (hd:(x == ("__debug__" : Str))=false:=by decide):wpAny (model X.prog X.w) X.A (eval (.Name x pos) X.env) Q E s:=
 Calls.Name_function_global I.ok.kind hg (Calls.loadGlobal_global (by rw [I.ok.glob]; exact I.mod.glob.keeps I.bk) hm h) hd
theorem fq {E:Value->Shared->Prop} {pins:List (Addr × Obj)} {s:Shared} {σ:St} {H:Hp} {x:Str} {u:Value} {pos:Pos} {Q:Value->Shared->Prop} (I:Inv X pins σ H s) (hg:Gl X x) (hm:X.mg x=none) (hv:bootBuiltins x=some u) (h:Q u s)
  (hn:x ≠ "__name__" := by decide) (hd:(x == ("__debug__" : Str))=false:=by decide):wpAny (model X.prog X.w) X.A (eval (.Name x pos) X.env) Q E s:=by
 obtain ⟨mb,h1,h2⟩:=I.mod.blt;exact Calls.Name_function_global I.ok.kind hg (Calls.loadGlobal_builtin (by rw [I.ok.glob]; exact I.mod.glob.keeps I.bk) hm (by rw [I.ok.blt]; exact h1.keeps I.bk) ((h2 x hn).trans hv) h) hd
theorem ug {x:Str} {v:V} {u:Value} {pos:Pos} (hg:Gl X x) (hm:X.mg x=none) (hv:bootBuiltins x=some u) (r:RelV v u) (hn:x ≠ "__name__" := by decide) (hd:(x == ("__debug__" : Str))=false:=by decide):PE X (.Name x pos) (tC v):=
 fun _ _ _ H _ I h=>fq I hg hm hv ⟨v,H,I,r,h⟩ hn hd
variable {a b:Expr} {ta tb:TE} {pos:Pos}
def PC (X:Cx) (op:CmpOp) (a b:Expr) (t:TE):Prop:=
 ∀ (pins:List (Addr × Obj)) (s:Shared) (σ:St) (H:Hp) (Q:VK),Inv X pins σ H s->t σ H Q ->
  wpAny (model X.prog X.w) X.A (eval a X.env) (fun v s₁=>wpAny (model X.prog X.w) X.A (eval b X.env) (fun u s₂=>wpAny (model X.prog X.w) X.A (compareOp op v u) (EP X pins σ Q) X.xe s₂) X.xe s₁) X.xe s
theorem nobehind (b:Expr) {op:CmpOp} (h:op≠.In) (h2:op≠.NotIn):behindInMarks op b=false:=by
 have e1:(op == CmpOp.In)=false:=by cases op <;> first | rfl | exact absurd rfl h
 have e2:(op == CmpOp.NotIn)=false:=by cases op <;> first | rfl | exact absurd rfl h2
 cases b <;> simp [behindInMarks,e1,e2]
noncomputable def tB (t:TE):TT:=fun σ H Q=>t σ H fun x H1=>∃ c,x=.bl c/\Q c H1
theorem sB {op:CmpOp} {t:TE} (h:PC X op a b t) (h1:behindInMarks op b=false:=by first | exact nobehind _ (by decide) (by decide) | rfl):PT X (.Compare a [op] [b] pos) (tB t):=by
 intro pins s σ H Q I hw;refine wpAny_isTrue_Compare1 (thn (h pins s σ H _ I hw) fun v s1 h1=>thn h1 fun u s2 h2=>thn h2 fun c s3 ⟨x,H1,I1,r1,q1⟩=>?_) h1;obtain ⟨d,rfl,q⟩:=q1;cases r1;exact wpAny_truthy_bool ⟨H1,I1,q⟩
theorem wx {e:Expr} {t:TE} (h:PE X e t) (he:∀ whole,isTrue e X.env whole=(do let v <- whole; standAt e.pos; holding [v] (truthy v)):=by intro _; rfl):PT X e (tB t):=by
 intro pins s σ H Q I hw;refine isTrue_plain (thn (h pins s σ H _ I hw) fun v s1 ⟨x,H1,I1,r1,q1⟩=>?_) (he _);obtain ⟨d,rfl,q⟩:=q1;cases r1;exact wpAny_truthy_bool ⟨H1,I1,q⟩
variable {tA tB':TT} {rest:List Expr}
noncomputable def tAnd (t u:TT):TT:=fun σ H Q=>t σ H fun c H1=>if c=true then u σ H1 Q else Q false H1
noncomputable def tOr (t u:TT):TT:=fun σ H Q=>t σ H fun c H1=>if c=true then Q true H1 else u σ H1 Q
noncomputable def tNot (t:TT):TT:=fun σ H Q=>t σ H fun c H1=>Q (!c) H1
theorem i9 (ha:PT X a tA):PW X (.BoolOp .And [a] pos) tA:=by
 intro wh pins s σ H Q I h;refine isTrue_and (thn (ha pins s σ H Q I h) fun c s1 e=>?_);cases c with
 | true=>exact isTrue_and_nil e
 | false=>exact e
theorem ol (ha:PT X a tA):PW X (.BoolOp .Or [a] pos) tA:=by
 intro wh pins s σ H Q I h;refine isTrue_or (thn (ha pins s σ H Q I h) fun c s1 e=>?_);cases c with
 | false=>exact isTrue_or_nil e
 | true=>exact e
theorem lW (ha:PT X a tA) (hb:PW X (.BoolOp .And (b::rest) pos) tB'):PW X (.BoolOp .And (a::b::rest) pos) (tAnd tA tB'):=by
 intro wh pins s σ H Q I h;refine isTrue_and (thn (ha pins s σ H _ I h) fun c s1 ⟨H1,I1,q1⟩=>?_);cases c with
 | true=>exact hb wh pins s1 σ H1 Q I1 q1
 | false=>exact ⟨H1,I1,q1⟩
theorem sd (ha:PT X a tA) (hb:PW X (.BoolOp .Or (b::rest) pos) tB'):PW X (.BoolOp .Or (a::b::rest) pos) (tOr tA tB'):=by
 intro wh pins s σ H Q I h;refine isTrue_or (thn (ha pins s σ H _ I h) fun c s1 ⟨H1,I1,q1⟩=>?_);cases c with
 | true=>exact ⟨H1,I1,q1⟩
 | false=>exact hb wh pins s1 σ H1 Q I1 q1
theorem ic (ha:PT X a tA):PT X (.UnaryOp .Not a pos) (tNot tA):=by
 intro pins s σ H Q I h;exact isTrue_not (ha pins s σ H (fun c H1=>Q (!c) H1) I h)
noncomputable def tAndV (ta tb:TE):TE:=fun σ H Q=>ta σ H fun x H1=>∃ c,x=.bl c/\if c=true then tb σ H1 Q else Q (.bl false) H1
noncomputable def tOrV (ta tb:TE):TE:=fun σ H Q=>ta σ H fun x H1=>∃ c,x=.bl c/\if c=true then Q (.bl true) H1 else tb σ H1 Q
theorem lO {op} {t:TE} (h:PE X a t):PE X (.BoolOp op [a] pos) t:=fun pins s σ H Q I hw=>BoolOp_one (h pins s σ H Q I hw)
theorem vv (ha:PE X a ta) (hb:PE X (.BoolOp .And (b::rest) pos) tb):PE X (.BoolOp .And (a::b::rest) pos) (tAndV ta tb):=by
 intro pins s σ H Q I h;refine BoolOp_and (thn (ha pins s σ H _ I h) fun v s1 ⟨x,H1,I1,r1,q1⟩=>?_);obtain ⟨c,rfl,q1⟩:=q1;cases r1;refine wpAny_truthy_bool ?_;cases c with
 | true=>exact hb pins s1 σ H1 Q I1 q1
 | false=>exact ⟨.bl false,H1,I1,rfl,q1⟩
theorem xf (ha:PE X a ta) (hb:PE X (.BoolOp .Or (b::rest) pos) tb):PE X (.BoolOp .Or (a::b::rest) pos) (tOrV ta tb):=by
 intro pins s σ H Q I h;refine BoolOp_or (thn (ha pins s σ H _ I h) fun v s1 ⟨x,H1,I1,r1,q1⟩=>?_);obtain ⟨c,rfl,q1⟩:=q1;cases r1;refine wpAny_truthy_bool ?_;cases c with
 | false=>exact hb pins s1 σ H1 Q I1 q1
 | true=>exact ⟨.bl true,H1,I1,rfl,q1⟩
noncomputable def tIf (t:TT) (ta tb:TE):TE:=fun σ H Q=>t σ H fun c H1=>if c=true then ta σ H1 Q else tb σ H1 Q
theorem gG {c:Expr} (hc:PT X c tA) (ha:PE X a ta) (hb:PE X b tb):PE X (.IfExp c a b pos) (tIf tA ta tb):=by
 intro pins s σ H Q I h;refine wpAny_IfExp (thn (hc pins s σ H _ I h) fun d s1 ⟨H1,I1,q1⟩=>?_);cases d with
 | true=>exact ha pins s1 σ H1 Q I1 q1
 | false=>exact hb pins s1 σ H1 Q I1 q1
end
def SqL (K:Frag) (H:Hp) (a:Addr) (xs:List V):Prop:=
 Rd H a (.lst xs) \/
  ∃ (o:Obj) (its:Array Value) (n:Nat),K.lookup a=some o/\o.cls=.type "list" /\ o.dict=none/\o.data=.seq its n/\its.size<=sizeLine/\Vals xs its.toList
def SqT (K:Frag) (H:Hp) (a:Addr) (xs:List V):Prop:=
 Rd H a (.tup xs) \/
  ∃ (o:Obj) (its:Array Value) (n:Nat),K.lookup a=some o/\o.cls=.type "tuple" /\ o.data=.seq its n/\its.size<=sizeLine/\Vals xs its.toList
noncomputable def absV:Value->Option V
 | .none=>some .non
 | .bool b=>some (.bl b)
 | .int i _=>some (.int i)
 | .str x _=>some (.str x)
 | .bytes b _=>some (.byt b)
 | .float b _=>some (.flt b)
 | .ref a=>some (.ref a)
 | .type n=>some (.ty n)
 | _=>none
theorem RelV.abs {x:V} {u:Value} (r:RelV x u):absV u=some x:=by
 cases x with
 | non=>cases r; rfl
 | bl _=>cases r; rfl
 | int _=>obtain ⟨t,rfl⟩:=r; rfl
 | str _=>obtain ⟨t,rfl⟩:=r; rfl
 | byt _=>obtain ⟨t,rfl⟩:=r; rfl
 | flt _=>obtain ⟨t,rfl⟩:=r; rfl
 | ref _=>cases r; rfl
 | ty _=>cases r; rfl
theorem RelV.inj {x y:V} {u:Value} (r:RelV x u) (q:RelV y u):x=y:=Option.some.inj (r.abs.symm.trans q.abs)
theorem Vals.inj:∀ {xs ys:List V} {us:List Value},Vals xs us->Vals ys us->xs=ys
 | _,_,_,.nil,.nil=>rfl
 | _,_,_,.cons r t,.cons r' t'=>by rw [r.inj r',Vals.inj t t']
section
variable {X:Cx} {pins:List (Addr × Obj)} {σ:St} {H:Hp} {s:Shared} {a:Addr} {xs ys:List V}
theorem SqL.of {K:Frag} (h:H a=some (.lst xs)):SqL K H a xs:=.inl (.inl h)
theorem SqT.of {K:Frag} (h:H a=some (.tup xs)):SqT K H a xs:=.inl (.inl h)
theorem Inv.list (I:Inv X pins σ H s) (h:SqL X.K H a xs):∃ its:List Value,Vals xs its/\PlainL s.heap a its.toArray/\xs.length<=sizeLine:=by
 rcases h with h | ⟨o,its,n,hk,hc,hd,hs,hz,r⟩
 ·obtain ⟨z,its,n,r,e⟩:=h.ok I.hok;exact ⟨its,r,⟨_,n,e,rfl,rfl,rfl⟩,z⟩
 ·refine ⟨its.toList,r,⟨o,n,I.kIn a o hk,hc,hd,by simpa using hs⟩,?_⟩;have e:=r.length;simp only [Array.length_toList] at e;omega
theorem Inv.tuple (I:Inv X pins σ H s) (h:SqT X.K H a xs):∃ its:List Value,Vals xs its/\IsTup s.heap a its.toArray/\xs.length<=sizeLine:=by
 rcases h with h | ⟨o,its,n,hk,hc,hs,hz,r⟩
 ·obtain ⟨z,its,r,p⟩:=h.ok I.hok;exact ⟨its,r,p,z⟩
 ·refine ⟨its.toList,r,⟨o,I.kIn a o hk,hc,n,by simpa using hs⟩,?_⟩;have e:=r.length;simp only [Array.length_toList] at e;omega
theorem Inv.list_inj (I:Inv X pins σ H s) (h:SqL X.K H a xs) (h':SqL X.K H a ys):xs=ys:=by
 obtain ⟨its,r,⟨o,n,e,_,_,d⟩,_⟩:=I.list h;obtain ⟨its',r',⟨o',n',e',_,_,d'⟩,_⟩:=I.list h';rw [e] at e'; cases e';rw [d] at d';injection d' with d1 _
 have:its=its':=by simpa using congrArg Array.toList d1
 subst this;exact r.inj r'
theorem Inv.tuple_inj (I:Inv X pins σ H s) (h:SqT X.K H a xs) (h':SqT X.K H a ys):xs=ys:=by
 obtain ⟨its,r,⟨o,e,_,n,d⟩,_⟩:=I.tuple h;obtain ⟨its',r',⟨o',e',_,n',d'⟩,_⟩:=I.tuple h';rw [e] at e'; cases e';rw [d] at d';injection d' with d1 _
 have:its=its':=by simpa using congrArg Array.toList d1
 subst this;exact r.inj r'
end
noncomputable abbrev Cx.wish (X:Cx) (E:Value->Shared->Prop):Cx:={ X with xe:=E }
noncomputable abbrev Cx.nox (X:Cx):Cx:=X.wish fun _ _=>False
theorem Cx.Ok.wish {X:Cx} (ok:X.Ok) (E:Value->Shared->Prop):(X.wish E).Ok:=
 ⟨ok.mod,ok.kind,ok.glob,ok.blt,ok.above,ok.inj,ok.has,ok.cab,ok.hd,ok.frames,ok.stk,ok.exf,ok.bs,ok.bsz,ok.noex,ok.exfs,ok.funs,ok.frf⟩
theorem Cx.Ok.unwish {X:Cx} {E:Value->Shared->Prop} (ok:(X.wish E).Ok):X.Ok:=
 ⟨ok.mod,ok.kind,ok.glob,ok.blt,ok.above,ok.inj,ok.has,ok.cab,ok.hd,ok.frames,ok.stk,ok.exf,ok.bs,ok.bsz,ok.noex,ok.exfs,ok.funs,ok.frf⟩
section
variable {X:Cx} {pins:List (Addr × Obj)} {σ:St} {H:Hp} {s:Shared} {E:Value->Shared->Prop}
theorem Inv.wish (I:Inv X pins σ H s) (E:Value->Shared->Prop):Inv (X.wish E) pins σ H s:=⟨I.ok.wish E,I.os,I.bare,I.base,I.loc,I.cell,I.free,I.freeC,I.pin,I.hok,I.len,I.tk⟩
theorem Inv.unwish (I:Inv (X.wish E) pins σ H s):Inv X pins σ H s:=⟨I.ok.unwish,I.os,I.bare,I.base,I.loc,I.cell,I.free,I.freeC,I.pin,I.hok,I.len,I.tk⟩
theorem SP.unwish {D:Ends} {f:Flow} {s':Shared} (h:SP (X.wish E) pins D f s'):SP X pins D f s':=by
 cases f with
 | next=>obtain ⟨σ',H',I,q⟩:=h; exact ⟨σ',H',I.unwish,q⟩
 | brk=>obtain ⟨σ',H',I,q⟩:=h; exact ⟨σ',H',I.unwish,q⟩
 | cont=>obtain ⟨σ',H',I,q⟩:=h; exact ⟨σ',H',I.unwish,q⟩
 | ret u=>obtain ⟨v,σ',H',I,r,q⟩:=h; exact ⟨v,σ',H',I.unwish,r,q⟩
theorem PSs.nox {st:List Stmt} {t:TS} (h:PSs X.nox st t):PSs X st t:=fun pins s σ H D I hw=>
 wpAny_mono (h pins s σ H D (I.wish _) hw) (fun _ _ q=>q.unwish) fun _ _ z=>False.elim z
end
section
variable {X:Cx} {st:Stmt} {rest:List Stmt} {t u:TS} {e:Expr} {te:TE} {pos:Pos}
noncomputable def tNext:TS:=fun D σ H=>D.nx σ H
noncomputable def tSeq (t u:TS):TS:=fun D σ H=>t { D with nx:=u D } σ H
theorem au:PSs X [] tNext:=fun _ _ σ H _ I h=>wpAny_execs_nil ⟨σ,H,I,h⟩
theorem af (h1:PS X st t) (h2:PSs X rest u):PSs X (st::rest) (tSeq t u):=by
 intro pins s σ H D I h;refine wpAny_execs_cons (thn (h1 pins s σ H { D with nx:=u D } I h) fun f s1 q=>?_);cases f with
 | next=>
  obtain ⟨σ',H',I',q⟩:=q;exact h2 pins s1 σ' H' D I' q
 | ret v=>exact q
 | brk=>exact q
 | cont=>exact q
theorem ai (h1:PS X st t):PSs X [st] t:=by
 intro pins s σ H D I h;refine wpAny_execs_cons (thn (h1 pins s σ H D I h) fun f s1 q=>?_);cases f with
 | next=>exact wpAny_execs_nil q
 | ret v=>exact q
 | brk=>exact q
 | cont=>exact q
theorem Inv.quiet {pins:List (Addr × Obj)} {σ:St} {H:Hp} {s:Shared} (I:Inv X pins σ H s):interactive X.env=false:=by simp [interactive,I.ok.kind]
noncomputable def tDrop (te:TE):TS:=fun D σ H=>te σ H fun _ H1=>D.nx σ H1
theorem bI (he:PE X e te) (hs:swapsWith e none pos.line X.env=pure false:=by rfl):PS X (.Expr e pos) (tDrop te):=by
 intro pins s σ H D I h;exact wpAny_Expr_any (thn (he pins s σ H _ I h) fun v s1 ⟨x,H1,I1,r1,q1⟩=>⟨σ,H1,I1,q1⟩) I.quiet hs
noncomputable def tRet (te:TE):TS:=fun D σ H=>te σ H D.rt
theorem ap (he:PE X e te):PS X (.Return (some e) pos) (tRet te):=by
 intro pins s σ H D I h;exact wpAny_Return_some (thn (he pins s σ H _ I h) fun v s1 ⟨x,H1,I1,r1,q1⟩=>⟨x,σ,H1,I1,r1,q1⟩)
noncomputable def tIfS (c:TT) (t u:TS):TS:=fun D σ H=>c σ H fun b H1=>if b=true then t D σ H1 else u D σ H1
theorem aI {c:Expr} {a b:List Stmt} {tc:TT} (hc:PT X c tc) (ha:PSs X a t) (hb:PSs X b u):PS X (.If c a b pos) (tIfS tc t u):=by
 intro pins s σ H D I h;refine wpAny_If (thn (hc pins s σ H _ I h) fun d s1 ⟨H1,I1,q1⟩=>?_);cases d with
 | true=>exact ha pins s1 σ H1 D I1 q1
 | false=>exact hb pins s1 σ H1 D I1 q1
end
noncomputable abbrev TG:=V->St->Hp->(St->Hp->Prop)->Prop
noncomputable abbrev TGs:=List V->St->Hp->(St->Hp->Prop)->Prop
def PG (X:Cx) (target:Expr) (t:TG):Prop:=
 ∀ (pins:List (Addr × Obj)) (s:Shared) (σ:St) (H:Hp) (v:V) (u:Value) (Q:St->Hp->Prop),Inv X pins σ H s->RelV v u->t v σ H Q ->
  wpAny (model X.prog X.w) X.A (assign target X.env u) (fun _ s'=>∃ σ' H',Inv X pins σ' H' s'/\Q σ' H') X.xe s
def PGs (X:Cx) (ts:List Expr) (t:TGs):Prop:=
 ∀ (pins:List (Addr × Obj)) (s:Shared) (σ:St) (H:Hp) (vs:List V) (us:List Value) (Q:St->Hp->Prop),Inv X pins σ H s->Vals vs us->t vs σ H Q ->
  wpAny (model X.prog X.w) X.A (assignInOrder ((assignEach ts X.env).map (·.2)) us) (fun _ s'=>∃ σ' H',Inv X pins σ' H' s'/\Q σ' H') X.xe s
noncomputable abbrev TSet:=V->V->V->Hp->(Hp->Prop)->Prop
def PSet (X:Cx) (t:TSet):Prop:=
 ∀ (pins:List (Addr × Obj)) (s:Shared) (σ:St) (H:Hp) (o i v:V) (ov iv u:Value) (Q:Hp->Prop),Inv X pins σ H s->RelV o ov->RelV i iv->RelV v u->t o i v H Q ->
  wpAny (model X.prog X.w) X.A (setItem ov iv u) (fun _ s'=>∃ H',Inv X pins σ H' s'/\Q H') X.xe s
section
variable {X:Cx} {pos:Pos}
noncomputable def gName (i:Nat):TG:=fun v σ H Q=>Q (σ.set i (some v)) H
theorem aj {i:Nat} {x:Str} (hN:X.N.Nodup) (hi:X.N[i]? = some x) (hx:Loc X.env.scope x) (hf:X.fn x=true\/X.env.scope.names.lookup x=some .local:=by first | exact .inl rfl | exact .inr rfl | assumption):PG X (.Name x pos) (gName i):=by
 intro pins s σ H v u Q I r h;exact wpAny_assign_Name (m9 I hN hi hx r (fun s' I'=>⟨_,H,I',h⟩) hf)
noncomputable def gNil:TGs:=fun vs σ H Q=>vs=[]/\Q σ H
noncomputable def gCons (t:TG) (u:TGs):TGs:=fun vs σ H Q=>∃ v r,vs=v::r/\t v σ H fun σ' H'=>u r σ' H' Q
theorem aK:PGs X [] gNil:=by
 intro pins s σ H vs us Q I r h;obtain ⟨e,h⟩:=h;subst e;cases r;exact assignInOrder_nil ⟨σ,H,I,h⟩
theorem ao {e:Expr} {es:List Expr} {t:TG} {u:TGs} (h1:PG X e t) (h2:PGs X es u)
  (hs:(assignEach (e::es) X.env).map (·.2)=assign e X.env::(assignEach es X.env).map (·.2):=by rfl):PGs X (e::es) (gCons t u):=by
 intro pins s σ H vs us Q I r h;obtain ⟨v,vr,e1,h⟩:=h;subst e1;cases r with
 | cons r rr=>
  rw [hs];refine assignInOrder_cons (thn (h1 pins s σ H _ _ _ I r h) fun _ s1 ⟨σ1,H1,I1,q1⟩=>?_);exact h2 pins s1 σ1 H1 _ _ Q I1 rr q1
noncomputable def gTup (K:Frag) (n:Nat) (t:TGs):TG:=fun v σ H Q=>∃ a xs,v=.ref a/\SqT K H a xs/\xs.length=n/\t xs σ H Q
theorem sr {es:List Expr} {k:Nat} {t:TGs} {n:Nat} (hc:X.calm=true) (h:PGs X es t)
  (hn:(assignEach es X.env).length=n:=by rfl) (hst:(assignEach es X.env).findIdx? (·.1)=none:=by rfl):PG X (.Tuple es k pos) (gTup X.K n t):=by
 intro pins s σ H v u Q I r hw;obtain ⟨a,xs,e1,hq,hl,hw⟩:=hw;subst e1;cases r;obtain ⟨its,rv,ht,hz⟩:=I.tuple hq;refine assign_Tuple_tuple (I.ok.hd hc) ht (by simp [hn,<- hl,rv.length]) hst fun h' hx=>?_
 have I1:Inv X pins σ H { s with heap:=h' }:=I.kept (t':=s.toks) fun b o e=>hx b o (Nat.ne_of_lt (Heap.lt_size e)) e
 exact h pins _ σ H xs _ Q I1 (by simpa using rv) hw
noncomputable def gSub (to ti:TE) (t:TSet):TG:=fun v σ H Q=>to σ H fun o H1=>ti σ H1 fun i H2=>t o i v H2 fun H3=>Q σ H3
theorem vp {o i:Expr} {to ti:TE} {t:TSet} (ho:PE X o to) (hi:PE X i ti) (hs:PSet X t)
  (ha:∀ v,assign (.Subscript o i pos) X.env v=(do
   let ov <- holding [v] (eval o X.env)
   let iv <- holding [v,ov] (eval i X.env)
   standAt pos
   holding [v,ov,iv] (setItem ov iv v)
   release [v,ov,iv] []):=by intro _; rfl):PG X (.Subscript o i pos) (gSub to ti t):=by
 intro pins s σ H v u Q I r h;rw [ha];refine wpAny_bind (wpAny_holding (thn (ho pins s σ H _ I h) fun ov s1 ⟨x,H1,I1,r1,q1⟩=>?_));refine wpAny_bind (wpAny_holding (thn (hi pins s1 σ H1 _ I1 q1) fun iv s2 ⟨y,H2,I2,r2,q2⟩=>?_));refine wpAny_bind (wpAny_standAt (wpAny_bind (wpAny_holding (thn (hs pins s2 σ H2 x y v ov iv u _ I2 r1 r2 r q2) fun _ s3 ⟨H3,I3,q3⟩=>?_))));exact wpAny_release ⟨σ,H3,I3,q3⟩
noncomputable def tAsg (te:TE) (g:TG):TS:=fun D σ H=>te σ H fun x H1=>g x σ H1 D.nx
theorem ig {tg e:Expr} {te:TE} {g:TG} (he:PE X e te) (hg:PG X tg g) (hs:swapsWithSole [tg] e pos.line X.env=pure false:=by rfl) (hw:swappedStores [tg] e X.env=pure none:=by rfl)
  (h1:(assignEach [tg] X.env).map (·.2)=[assign tg X.env]:=by rfl):PS X (.Assign [tg] e pos) (tAsg te g):=by
 intro pins s σ H D I h;refine wpAny_Assign_stores (thn (he pins s σ H _ I h) fun v s1 ⟨x,H1,I1,r1,q1⟩=>?_) hs hw;rw [h1];exact thn (hg pins s1 σ H1 x v _ I1 r1 q1) fun _ s2 q=>q
theorem am {i:Nat} {x:Str} {e:Expr} {te:TE} {pos':Pos} (hN:X.N.Nodup) (hi:X.N[i]? = some x) (hx:Loc X.env.scope x) (he:PE X e te) (hs:swapsWith e (some (.Name x pos')) pos.line X.env=pure false:=by rfl) (hf:X.fn x=true\/X.env.scope.names.lookup x=some .local:=by first | exact .inl rfl | exact .inr rfl | assumption):
  PS X (.Assign [.Name x pos'] e pos) (tAsg te (gName i)):=by
 intro pins s σ H D I h;refine wpAny_Assign_Name (thn (he pins s σ H _ I h) fun v s1 ⟨y,H1,I1,r1,q1⟩=>?_) hs;exact m9 I1 hN hi hx r1 (fun s2 I2=>⟨_,H1,I2,q1⟩) hf
end
section
variable {X:Cx} {pos:Pos}
noncomputable def tWhile (c:TT) (tb:TS):TS:=fun D σ H=>∃ W:Nat->St->Hp->Prop,(∃ m,W m σ H)/\∀ m σ H,W m σ H ->
 c σ H fun b H1=>if b=true then ∃ N:St->Hp->Prop,(∀ σ' H',N σ' H'->∃ m',m' < m/\W m' σ' H')/\tb { D with nx:=N,ct:=N,bk:=D.nx } σ H1 else D.nx σ H1
theorem nB {c:Expr} {body:List Stmt} {tc:TT} {tb:TS} (hp:PassesOwn (model X.prog X.w) X.A X.env X.xe) (hc:PT X c tc) (hb:PSs X body tb):PS X (.While c body [] pos) (tWhile tc tb):=by
 intro pins s σ H D I h;obtain ⟨W,⟨m0,w0⟩,turn⟩:=h;refine wpAny_While (codeAny_whileLoop (fun n s'=>∃ σ' H',Inv X pins σ' H' s'/\W n σ' H') ?_ m0 ⟨σ,H,I,w0⟩);rintro n s1 ⟨σ1,H1,I1,w1⟩;refine wpAny_passesOwn hp (thn (hc pins s1 σ1 H1 _ I1 (turn n σ1 H1 w1)) fun b s2 ⟨H2,I2,q2⟩=>?_);cases b with
 | true=>
  obtain ⟨N,hN,q2⟩:=q2;rw [if_pos rfl];refine wpAny_passesOwn hp (thn (hb pins s2 σ1 H2 _ I2 q2) fun f s3 q3=>?_);cases f with
  | next=>
   obtain ⟨σ3,H3,I3,n3⟩:=q3;obtain ⟨m',hm,w3⟩:=hN σ3 H3 n3;exact ⟨m',hm,σ3,H3,I3,w3⟩
  | cont=>
   obtain ⟨σ3,H3,I3,n3⟩:=q3;obtain ⟨m',hm,w3⟩:=hN σ3 H3 n3;exact ⟨m',hm,σ3,H3,I3,w3⟩
  | brk=>exact q3
  | ret v=>exact q3
 | false=>
  rw [if_neg Bool.false_ne_true];exact wpAny_execs_nil ⟨σ1,H2,I2,q2⟩
end
structure It where
 go:Nat->Hp->Prop
 yld:Nat->Hp->V->Hp->Prop
 stop:Nat->Hp->Prop
def FpOk (X:Cx) (pins:List (Addr × Obj)) (H:Hp) (b:Addr):Prop:=
 H b=none/\b≠X.env.locals/\b ∉ X.fs/\(b ∈ X.ex\/X.s₀.heap.objs.size<=b)/\(∀ x c,X.env.cells.lookup x=some c->c≠b)/\∀ p ∈ X.pn++pins,p.1≠b
theorem Inv.fpOk {X:Cx} {pins:List (Addr × Obj)} {σ:St} {H H':Hp} {s:Shared} {b:Addr} (I:Inv X pins σ H s) (hb:s.heap.objs.size<=b) (hn:H' b=none):FpOk X pins H' b:=by
 refine ⟨hn,Nat.ne_of_gt (Nat.lt_of_lt_of_le I.lt hb),I.nofs hb,.inr (Nat.le_trans I.sz hb),fun x c e z=>?_,fun p hp z=>?_⟩
 ·obtain ⟨v,q⟩:=I.cell x c e;exact absurd (Nat.lt_of_lt_of_le q.lt (by rw [z]; exact hb)) (Nat.lt_irrefl _)
 ·exact absurd (Nat.lt_of_lt_of_le (Heap.lt_size (I.pin p hp).1) (by rw [z]; exact hb)) (Nat.lt_irrefl _)
structure Turn (P:Program) (w:World) (K:Frag) (tg:Expr) (J:It) (fp:List Addr) (it:Addr) (tn:Nat->Heap->Prop):Prop where
 mem:it ∈ fp
 obj:∀ i h,tn i h->∀ b ∈ fp,∃ o,h.get? b=some o/\∀ v,o.data≠.cell v
 keep:∀ i h h',tn i h->(∀ b ∈ fp,∀ o,h.get? b=some o->h'.get? b=some o)->tn i h'
 item:∀ (X:Cx),X.prog=P->X.w=w->X.K=K->X.calm=true->∀ (i:Nat) (pins:List (Addr × Obj)) (s:Shared) (σ:St) (H:Hp) (E:Value->Shared->Prop),Inv X pins σ H s->(∀ b ∈ fp,FpOk X pins H b)->tn i s.heap->J.go i H ->
  wpAny (model P w) X.A (pyNext (.ref it)) (fun r s1=>∃ u,r=some u /\
   wpAny (model P w) X.A (letOwnedTupleGo tg (.ref it) u) (fun _ s2=>∃ x H',Inv X pins σ H' s2/\RelV x u/\J.yld i H x H'/\tn (i+1) s2.heap/\∀ b ∈ fp,H' b=none) E s1) E s
 done:∀ (X:Cx),X.prog=P->X.w=w->X.K=K->X.calm=true->∀ (i:Nat) (pins:List (Addr × Obj)) (s:Shared) (σ:St) (H:Hp) (E:Value->Shared->Prop),Inv X pins σ H s->(∀ b ∈ fp,FpOk X pins H b)->tn i s.heap->J.stop i H ->
  wpAny (model P w) X.A (pyNext (.ref it)) (fun r s1=>r=none/\Inv X pins σ H s1) E s
 self:∀ (A:Around) (i:Nat) (s:Shared) (Q:Value->Shared->Prop) (E:Value->Shared->Prop),tn i s.heap->Q (.ref it) s->wpAny (model P w) A (pyIter (.ref it)) Q E s
noncomputable abbrev TI:=St->Hp->(It->Hp->Prop)->Prop
def PIE (X:Cx) (pins:List (Addr × Obj)) (σ:St) (tg:Expr) (R:It->Hp->Prop) (itv:Value) (s2:Shared):Prop:=
 ∃ (it:Addr) (fp:List Addr) (tn:Nat->Heap->Prop) (J:It) (H':Hp),itv=.ref it/\Inv X pins σ H' s2/\Turn X.prog X.w X.K tg J fp it tn/\tn 0 s2.heap/\(∀ b ∈ fp,FpOk X pins H' b)/\R J H'
def PI (X:Cx) (tg iter:Expr) (wi:TI):Prop:=
 ∀ (pins:List (Addr × Obj)) (s:Shared) (σ:St) (H:Hp) (R:It->Hp->Prop),Inv X pins σ H s->wi σ H R ->
  wpAny (model X.prog X.w) X.A (eval iter X.env) (fun v s1=>wpAny (model X.prog X.w) X.A (pyIter v) (PIE X pins σ tg R) X.xe s1) X.xe s
theorem oW {M:Model} {A:Around} {E:Value->Shared->Prop} {s:Shared} {tg:Expr} {it:Addr} {u:Value} {o:Obj} {n:String} {vs:Array Value} {Q:Unit->Shared->Prop} (ho:s.heap.get? it=some o) (hc:o.cls=.type n) (hd:o.data=.fields vs)
  (hn:["enumerate", "zip", "dict_itemiterator", "dict_reverseitemiterator", "odict_iterator", "itertools.zip_longest", "itertools.pairwise"].contains n=false) (hQ:Q () s):wpAny M A (letOwnedTupleGo tg (.ref it) u) Q E s:=by
 unfold letOwnedTupleGo;cases tg <;> first
  | exact wpAny_pure hQ
  | (cases u <;> first
    | exact wpAny_pure hQ
    | (refine wpAny_bind (wpAny_load ho ?_); rw [hc,hd]; show wpAny M A (if (["enumerate", "zip", "dict_itemiterator", "dict_reverseitemiterator", "odict_iterator", "itertools.zip_longest", "itertools.pairwise"].contains n && vs[0]? == some (rawInt _))=true then _ else _) Q E s; rw [if_neg (by intro h; rw [hn,Bool.false_and] at h; cases h)]; exact wpAny_pure hQ))
noncomputable def Itl (K:Frag) (a:Addr):It:=
 ⟨fun i H=>∃ xs x,SqL K H a xs/\xs[i]? = some x,fun i H x H'=>H'=H/\∀ xs,SqL K H a xs->xs[i]? = some x,fun i H=>∃ xs,SqL K H a xs/\xs.length<=i⟩
noncomputable def Itt (K:Frag) (a:Addr):It:=
 ⟨fun i H=>∃ xs x,SqT K H a xs/\xs[i]? = some x,fun i H x H'=>H'=H/\∀ xs,SqT K H a xs->xs[i]? = some x,fun i H=>∃ xs,SqT K H a xs/\xs.length<=i⟩
noncomputable def Itr (lo:Int) (n:Nat):It:=⟨fun i _=>i < n,fun i H x H'=>H'=H/\x=.int (lo+i),fun i _=>n<=i⟩
theorem qx {P:Program} {w:World} {K:Frag} {tg:Expr} (a it:Addr):Turn P w K tg (Itl K a) [it] it (fun i h=>h.IsListIter it a i) where
 mem:=by simp
 obj:=fun i h st b hb=>by
  have e:b=it:=by simpa using hb
  subst e;obtain ⟨o,e,c,d⟩:=st;exact ⟨o,e,fun v z=>by rw [d] at z; cases z⟩
 keep:=fun i h h' st k=>st.at fun o e=>k it (by simp) o e
 item:=by
  intro X hP hw hK hc i pins s σ H E I hf st hg;subst hP hw hK;obtain ⟨xs,x,hq,hx⟩:=hg;obtain ⟨its,rv,p,hz⟩:=I.list hq;obtain ⟨u,hu,ru⟩:=rv.get hx;obtain ⟨f0,f1,f2,f3,f4,f5⟩:=hf it (by simp);refine wpAny_pyNext_list_item st p.isList (x:=u) (by simpa using hu) fun h' st' sb=>?_
  have I1:Inv X pins σ H { s with heap:=h' }:=I.turned (t':=s.toks) (fun b o hb e=>(sb.2 b hb).trans e) f0 f1 f3 f4 f5;obtain ⟨o,e,c,d⟩:=id st';exact ⟨u,rfl,oW (s:={ s with heap:=h' }) e c d (by decide) ⟨x,H,I1,ru,⟨rfl,fun ys hy=>by rw [I.list_inj hy hq]; exact hx⟩,st',fun b hb=>(hf b hb).1⟩⟩
 done:=by
  intro X hP hw hK hc i pins s σ H E I hf st hg;subst hP hw hK;obtain ⟨xs,hq,hx⟩:=hg;obtain ⟨its,rv,p,hz⟩:=I.list hq;obtain ⟨f0,f1,f2,f3,f4,f5⟩:=hf it (by simp);have hl:=rv.length;exact wpAny_pyNext_list_end (I.ok.hd hc) st p.isList (by simp; omega) fun h' eb=>⟨rfl,I.turned (t':=s.toks) (fun b o hb e=>eb b o hb e) f0 f1 f3 f4 f5⟩
 self:=fun _ _ _ _ _ st h=>wpAny_pyIter_listiter st h
theorem oH {P:Program} {w:World} {K:Frag} {tg:Expr} (a it:Addr):Turn P w K tg (Itt K a) [it] it (fun i h=>h.IsTupleIter it a i) where
 mem:=by simp
 obj:=fun i h st b hb=>by
  have e:b=it:=by simpa using hb
  subst e;obtain ⟨o,e,c,d⟩:=st;exact ⟨o,e,fun v z=>by rw [d] at z; cases z⟩
 keep:=fun i h h' st k=>st.at fun o e=>k it (by simp) o e
 item:=by
  intro X hP hw hK hc i pins s σ H E I hf st hg;subst hP hw hK;obtain ⟨xs,x,hq,hx⟩:=hg;obtain ⟨its,rv,p,hz⟩:=I.tuple hq;obtain ⟨u,hu,ru⟩:=rv.get hx;obtain ⟨f0,f1,f2,f3,f4,f5⟩:=hf it (by simp);refine wpAny_pyNext_tuple_item st (show s.heap.IsTuple a its.toArray from p) (x:=u) (by simpa using hu) fun h' st' sb=>?_
  have I1:Inv X pins σ H { s with heap:=h' }:=I.turned (t':=s.toks) (fun b o hb e=>(sb.2 b hb).trans e) f0 f1 f3 f4 f5;obtain ⟨o,e,c,d⟩:=id st';exact ⟨u,rfl,oW (s:={ s with heap:=h' }) e c d (by decide) ⟨x,H,I1,ru,⟨rfl,fun ys hy=>by rw [I.tuple_inj hy hq]; exact hx⟩,st',fun b hb=>(hf b hb).1⟩⟩
 done:=by
  intro X hP hw hK hc i pins s σ H E I hf st hg;subst hP hw hK;obtain ⟨xs,hq,hx⟩:=hg;obtain ⟨its,rv,p,hz⟩:=I.tuple hq;obtain ⟨f0,f1,f2,f3,f4,f5⟩:=hf it (by simp);have hl:=rv.length;exact wpAny_pyNext_tuple_end (I.ok.hd hc) st (show s.heap.IsTuple a its.toArray from p) (by simp; omega) fun h' eb=>⟨rfl,I.turned (t':=s.toks) (fun b o hb e=>eb b o hb e) f0 f1 f3 f4 f5⟩
 self:=fun _ _ _ _ _ st h=>wpAny_pyIter_tupleiter st h
theorem oh {P:Program} {w:World} {K:Frag} {tg:Expr} (it:Addr) (lo:Int) (n:Nat):Turn P w K tg (Itr lo n) [it] it (fun i h=>IsRangeIter h it (lo+(i:Nat)*1) ((n:Int) - (i:Nat)) 1) where
 mem:=by simp
 obj:=fun i h st b hb=>by
  have e:b=it:=by simpa using hb
  subst e;exact ⟨_,st,fun v z=>by
   have z':Data.fields _=Data.cell v:=z;cases z'⟩
 keep:=fun i h h' st k=>k it (by simp) _ st
 item:=by
  intro X hP hw hK hc i pins s σ H E I hf st hg;subst hP hw hK;obtain ⟨f0,f1,f2,f3,f4,f5⟩:=hf it (by simp);have W:=Walks.range (prog:=X.prog) (w:=X.w) (I.ok.hd hc) it lo 1 n;refine tokQ I.tk (W.item i s _ _ hg st fun v h' tk hv st' kk (htk:0 < tk)=>?_);obtain ⟨t,rfl⟩:=hv;have I1:Inv X pins σ H { s with heap:=h',toks:=tk }:=I.turned (fun b o hb e=>kk b o (by simpa using hb) e) f0 f1 f3 f4 f5;refine ⟨_,rfl,oW (s:={ s with heap:=h',toks:=tk }) (n := "range_iterator") st' rfl rfl (by decide) ⟨.int (lo+i),H,I1,⟨t,?_⟩,⟨rfl,rfl⟩,st',fun b hb=>(hf b hb).1⟩⟩;rw [Int.mul_one]
 done:=by
  intro X hP hw hK hc i pins s σ H E I hf st hg;subst hP hw hK;obtain ⟨f0,f1,f2,f3,f4,f5⟩:=hf it (by simp);exact wpAny_pyNext_range_end (I.ok.hd hc) st (by have:n<=i:=hg; omega) fun h' eb=>⟨rfl,I.turned (t':=s.toks) (fun b o hb e=>eb b o hb e) f0 f1 f3 f4 f5⟩
 self:=fun _ _ _ _ _ st h=>wpAny_pyIter_rangeiter st h
section
variable {X:Cx} {tg:Expr}
theorem mB {pins:List (Addr × Obj)} {σ:St} {H:Hp} {s:Shared} {R:It->Hp->Prop} {E:Value->Shared->Prop} {lo hi:Int} {t u v:Tok} {tk:Nat} (I:Inv X pins σ H s) (h1:-(2 ^ 62)<=lo) (h2:lo < 2 ^ 62) (h3:-(2 ^ 62)<=hi) (h4:hi < 2 ^ 62)
  (q:R (Itr lo (hi - lo).toNat) H) (htk:0 < tk:=by first | assumption | exact Nat.succ_pos _ | (apply Inv.tk; assumption) | omega):wpAny (model X.prog X.w) X.A (pyIter (.ref s.heap.objs.size)) (PIE X pins σ tg R) E { s with heap:=s.heap.push { cls:=.type "range",data:=.fields #[.int lo t,.int hi u,.int 1 v] },toks:=tk }:=by
 refine wpAny_pyIter_range (IsRange.new ..) (small_one h1 h2 h3 h4) ?_;have I1:Inv X pins σ H { s with heap:=s.heap.push { cls:=.type "range",data:=.fields #[.int lo t,.int hi u,.int 1 v] },toks:=tk }:=I.kept fun b o e=>Heap.get?_push_of_some _ e
 refine ⟨(s.heap.push { cls:=.type "range",data:=.fields #[.int lo t,.int hi u,.int 1 v] }).objs.size,[(s.heap.push { cls:=.type "range",data:=.fields #[.int lo t,.int hi u,.int 1 v] }).objs.size],_,_,H,rfl,
  I1.kept (t':=tk) fun b o e=>Heap.get?_push_of_some _ e,oh _ lo (hi - lo).toNat,?_,fun b hb=>?_,q⟩
 ·have e1:lo+((0:Nat):Int)*1=lo:=by simp
  have e2:(((hi - lo).toNat:Nat):Int) - ((0:Nat):Int)=Builtin.Range.rangeSize lo hi 1:=by rw [rangeSize_one]; split <;> omega
  show IsRangeIter _ _ (lo+((0:Nat):Int)*1) ((((hi - lo).toNat:Nat):Int) - ((0:Nat):Int)) 1;rw [e1,e2];exact Heap.get?_push_size _ rfl
 ·have e:b=(s.heap.push { cls:=.type "range",data:=.fields #[.int lo t,.int hi u,.int 1 v] }).objs.size:=by simpa using hb
  subst e;exact I1.fpOk (Nat.le_refl _) (I1.hok.fresh (Nat.le_refl _))
noncomputable def iRng1 (ta:TA):TI:=fun σ H R=>ta σ H fun vs H1=>∃ j:Int,vs=[.int j] /\ -(2 ^ 62)<=j/\j < 2 ^ 62/\R (Itr 0 j.toNat) H1
noncomputable def iRng2 (ta:TA):TI:=fun σ H R=>ta σ H fun vs H1=>∃ i j:Int,vs=[.int i,.int j]/\(-(2 ^ 62)<=i/\i < 2 ^ 62 /\ -(2 ^ 62)<=j/\j < 2 ^ 62)/\R (Itr i (j - i).toNat) H1
theorem qQ {a:Expr} {ta:TA} {p pos:Pos} (hg:Gl X "range") (hm:X.mg "range" = none) (ha:PA X [a] ta) (hs:starEach [a] X.env=[(false,eval a X.env)]:=by rfl):PI X tg (.Call (.Name "range" p) [a] [] pos) (iRng1 ta):=by
 intro pins s σ H R I h;refine Call_ (fq I hg hm boot_range (PyProof.Rows.callWith_type1 (thn (ha pos pins s σ H _ I h) fun us s1 ⟨vs,H1,I1,r1,q1⟩=>?_) hs rfl));obtain ⟨j,e,q1,q2,q⟩:=q1;subst e;cases r1 with
 | cons r rr=>
  cases rr;obtain ⟨t,rfl⟩:=r;exact call_range_1 (mB I1 (by omega) (by omega) q1 q2 (by simpa using q))
theorem qk {a b:Expr} {ta:TA} {p pos:Pos} (hg:Gl X "range") (hm:X.mg "range" = none) (ha:PA X [a,b] ta) (hs:starEach [a,b] X.env=[(false,eval a X.env),(false,eval b X.env)]:=by rfl) (hs2:starEach [b] X.env=[(false,eval b X.env)]:=by rfl):
  PI X tg (.Call (.Name "range" p) [a,b] [] pos) (iRng2 ta):=by
 intro pins s σ H R I h;refine Call_ (fq I hg hm boot_range (PyProof.Rows.callWith_type1 (thn (ha pos pins s σ H _ I h) fun us s1 ⟨vs,H1,I1,r1,q1⟩=>?_) (by rw [hs,hs2]) (by rw [hs2]; rfl)));obtain ⟨i,j,e,⟨q1,q2,q3,q4⟩,q⟩:=q1;subst e;cases r1 with
 | cons r rr=>
  cases rr with
  | cons r' rr=>
   cases rr;obtain ⟨t,rfl⟩:=r;obtain ⟨t',rfl⟩:=r';exact call_range_2 (mB I1 q1 q2 q3 q4 q)
noncomputable def tFor (wi:TI) (g:TG) (tb:TS):TS:=fun D σ H=>wi σ H fun J H1=>∃ W:Nat->Nat->St->Hp->Prop,(∃ m,W 0 m σ H1)/\∀ i m σ H,W i m σ H ->
 (J.stop i H/\D.nx σ H)\/(J.go i H/\∃ N:St->Hp->Prop,(∀ σ' H',N σ' H'->∃ m',m' < m/\W (i+1) m' σ' H')/\∀ x H',J.yld i H x H'->g x σ H' fun σ2 H2=>tb { D with nx:=N,ct:=N,bk:=D.nx } σ2 H2)
noncomputable def pinsAt (fp:List Addr) (h:Heap):List (Addr × Obj):=fp.filterMap fun b=>(h.get? b).map fun o=>(b,o)
theorem cf {fp:List Addr} {h:Heap} {b:Addr} {o:Obj} (hb:b ∈ fp) (e:h.get? b=some o):(b,o) ∈ pinsAt fp h:=List.mem_filterMap.mpr ⟨b,hb,by rw [e]; rfl⟩
theorem qr {fp:List Addr} {h:Heap} {p:Addr × Obj} (hp:p ∈ pinsAt fp h):p.1 ∈ fp/\h.get? p.1=some p.2:=by
 obtain ⟨b,hb,e⟩:=List.mem_filterMap.mp hp;cases q:h.get? b with
 | none=>rw [q] at e; cases e
 | some o=>
  rw [q] at e;have e':(b,o)=p:=Option.some.inj e;subst e';exact ⟨hb,q⟩
theorem Inv.pinned {pins:List (Addr × Obj)} {σ:St} {H:Hp} {s:Shared} {fp:List Addr} (I:Inv X pins σ H s) (hf:∀ b ∈ fp,FpOk X pins H b) (ho:∀ b ∈ fp,∃ o,s.heap.get? b=some o/\∀ v,o.data≠.cell v):Inv X (pins++pinsAt fp s.heap) σ H s:=
 I.pins_of fun p hp=>(List.mem_append.mp hp).elim (fun z=>I.pin p (List.mem_append_right _ z)) fun z=>by
  obtain ⟨hb,e⟩:=qr z;obtain ⟨f0,f1,f2,_⟩:=hf p.1 hb;obtain ⟨o,e',d⟩:=ho p.1 hb;rw [e] at e'; cases e';exact ⟨e,f0,f1,f2,d⟩
theorem Inv.unpinned {pins pl:List (Addr × Obj)} {σ:St} {H:Hp} {s:Shared} (I:Inv X (pins++pl) σ H s):Inv X pins σ H s:=I.pins_of fun p hp=>I.pin p (List.mem_append_right _ (List.mem_append_left _ hp))
theorem wj {iter:Expr} {body:List Stmt} {wi:TI} {g:TG} {tb:TS} {pos:Pos} (hp:PassesOwn (model X.prog X.w) X.A X.env X.xe) (hc:X.calm=true) (hi:PI X tg iter wi) (hg:PG X tg g) (hb:PSs X body tb)
  (hs:∀ x,foldedSetIterable iter X.env x=pure x:=by intro _; rfl):PS X (.For tg iter body [] pos) (tFor wi g tb):=by
 intro pins s σ H D I h;refine wpAny_For (thn (hi pins s σ H _ I h) fun v s1 h1=>thn h1 fun itv s2 h2=>?_) hs;obtain ⟨it,fp,tn,J,H2,e,I2,T,st2,f2,W,⟨m0,w0⟩,turn⟩:=h2;subst e;have stat:∀ {H':Hp},(∀ b ∈ fp,H' b=none)->∀ b ∈ fp,FpOk X pins H' b:=fun hn b hb=>⟨hn b hb,(f2 b hb).2⟩
 refine codeAny_forLoop_any (fun n s'=>∃ i σ' H',Inv X pins σ' H' s'/\tn i s'.heap/\(∀ b ∈ fp,H' b=none)/\W i n σ' H') ?_ m0 ⟨0,σ,H2,I2,st2,fun b hb=>(f2 b hb).1,w0⟩;rintro n s3 ⟨i,σ3,H3,I3,st3,fr3,w3⟩;rcases turn i n σ3 H3 w3 with ⟨stop,qn⟩ | ⟨go,N,hN,step⟩
 ·refine wpAny_passesOwn hp (thn (T.done X rfl rfl rfl hc i pins s3 σ3 H3 X.xe I3 (stat fr3) st3 stop) fun r s4 ⟨hr,I4⟩=>?_);subst hr;exact wpAny_execs_nil ⟨σ3,H3,I4,qn⟩
 ·refine wpAny_passesOwn hp (thn (T.item X rfl rfl rfl hc i pins s3 σ3 H3 X.xe I3 (stat fr3) st3 go) fun r s4 ⟨u,hr,h4⟩=>?_);subst hr;refine wpAny_passesOwn hp (thn h4 fun _ s5 ⟨x,H5,I5,r5,y5,st5,fr5⟩=>?_);have I5':=I5.pinned (stat fr5) (T.obj _ _ st5);refine wpAny_passesOwn hp (thn (hg _ s5 σ3 H5 x u _ I5' r5 (step x H5 y5)) fun _ s6 ⟨σ6,H6,I6,q6⟩=>?_);refine wpAny_passesOwn hp (thn (hb _ s6 σ6 H6 _ I6 q6) fun f s7 q7=>?_);have again:∀ {σ7:St} {H7:Hp},Inv X (pins++pinsAt fp s5.heap) σ7 H7 s7->N σ7 H7->∃ m,m < n/\∃ i σ' H',Inv X pins σ' H' s7/\tn i s7.heap/\(∀ b ∈ fp,H' b=none)/\W i m σ' H':=fun {σ7 H7} I7 n7=>by
   obtain ⟨m',hm,w7⟩:=hN σ7 H7 n7;refine ⟨m',hm,i+1,σ7,H7,I7.unpinned,T.keep _ _ _ st5 fun b hb o e=>(I7.pin (b,o) (List.mem_append_right _ (List.mem_append_right _ (cf hb e)))).1,fun b hb=>?_,w7⟩;obtain ⟨o,e,d⟩:=T.obj _ _ st5 b hb;exact (I7.pin (b,o) (List.mem_append_right _ (List.mem_append_right _ (cf hb e)))).2.1
  cases f with
  | next=>obtain ⟨σ7,H7,I7,n7⟩:=q7; exact again I7 n7
  | cont=>obtain ⟨σ7,H7,I7,n7⟩:=q7; exact again I7 n7
  | brk=>obtain ⟨σ7,H7,I7,q7⟩:=q7; exact ⟨σ7,H7,I7.unpinned,q7⟩
  | ret v=>obtain ⟨x7,σ7,H7,I7,r7,q7⟩:=q7; exact ⟨x7,σ7,H7,I7.unpinned,r7,q7⟩
end
theorem sw {K:Frag} {a:Addr} {xs:List V} {g:TG} {tb:TS} {D:Ends} {σ:St} {H:Hp} (Pv:Nat->St->Hp->Prop) (h0:Pv 0 σ H) (hl:∀ i σ H,i<=xs.length->Pv i σ H->SqL K H a xs)
  (hs:∀ i x σ H,xs[i]? = some x->Pv i σ H->g x σ H fun σ2 H2=>tb { D with nx:=Pv (i+1),ct:=Pv (i+1),bk:=D.nx } σ2 H2) (hd:∀ σ H,Pv xs.length σ H->D.nx σ H):
  ∃ W:Nat->Nat->St->Hp->Prop,(∃ m,W 0 m σ H)/\∀ i m σ H,W i m σ H ->
   ((Itl K a).stop i H/\D.nx σ H)\/((Itl K a).go i H/\∃ N:St->Hp->Prop,(∀ σ' H',N σ' H'->∃ m',m' < m/\W (i+1) m' σ' H')/\∀ x H',(Itl K a).yld i H x H'->g x σ H' fun σ2 H2=>tb { D with nx:=N,ct:=N,bk:=D.nx } σ2 H2):=by
 refine ⟨fun i m σ H=>m=xs.length - i/\i<=xs.length/\Pv i σ H,⟨xs.length,by simp,Nat.zero_le _,h0⟩,?_⟩;rintro i m σ H ⟨rfl,hi,p⟩;have q:=hl i σ H hi p;by_cases hlt:i < xs.length
 ·refine .inr ⟨⟨xs,xs[i],q,by simp [hlt]⟩,Pv (i+1),fun σ' H' p'=>⟨xs.length - (i+1),by omega,rfl,hlt,p'⟩,fun x H' y=>?_⟩;obtain ⟨e,y⟩:=y;subst e;exact hs i x σ _ (y xs q) p
 ·have e:i=xs.length:=by omega
  subst e;exact .inl ⟨⟨xs,q,Nat.le_refl _⟩,hd σ H p⟩
theorem pU {lo:Int} {n:Nat} {g:TG} {tb:TS} {D:Ends} {σ:St} {H:Hp} (Pv:Nat->St->Hp->Prop) (h0:Pv 0 σ H)
  (hs:∀ i σ H,i < n->Pv i σ H->g (.int (lo+i)) σ H fun σ2 H2=>tb { D with nx:=Pv (i+1),ct:=Pv (i+1),bk:=D.nx } σ2 H2) (hd:∀ σ H,Pv n σ H->D.nx σ H):
  ∃ W:Nat->Nat->St->Hp->Prop,(∃ m,W 0 m σ H)/\∀ i m σ H,W i m σ H ->
   ((Itr lo n).stop i H/\D.nx σ H)\/((Itr lo n).go i H/\∃ N:St->Hp->Prop,(∀ σ' H',N σ' H'->∃ m',m' < m/\W (i+1) m' σ' H')/\∀ x H',(Itr lo n).yld i H x H'->g x σ H' fun σ2 H2=>tb { D with nx:=N,ct:=N,bk:=D.nx } σ2 H2):=by
 refine ⟨fun i m σ H=>m=n - i/\i<=n/\Pv i σ H,⟨n,by simp,Nat.zero_le _,h0⟩,?_⟩;rintro i m σ H ⟨rfl,hi,p⟩;by_cases hlt:i < n
 ·refine .inr ⟨hlt,Pv (i+1),fun σ' H' p'=>⟨n - (i+1),by omega,rfl,hlt,p'⟩,fun x H' y=>?_⟩;obtain ⟨e,y⟩:=y;subst e y;exact hs i σ _ hlt p
 ·have e:i=n:=by omega
  subst e;exact .inl ⟨Nat.le_refl _,hd σ H p⟩
noncomputable abbrev R2:=V->V->Hp->VK->Prop
def OpR (X:Cx) (f:Value->Value->Sem Value) (r:R2):Prop:=
 ∀ (pins:List (Addr × Obj)) (s:Shared) (σ:St) (H:Hp) (x y:V) (v u:Value) (Q:VK),Inv X pins σ H s->RelV x v->RelV y u->r x y H Q ->
  wpAny (model X.prog X.w) X.A (f v u) (EP X pins σ Q) X.xe s
def UnR (X:Cx) (f:Value->Sem Value) (r:V->Hp->VK->Prop):Prop:=
 ∀ (pins:List (Addr × Obj)) (s:Shared) (σ:St) (H:Hp) (x:V) (v:Value) (Q:VK),Inv X pins σ H s->RelV x v->r x H Q ->
  wpAny (model X.prog X.w) X.A (f v) (EP X pins σ Q) X.xe s
def CallR (X:Cx) (f:Value) (r:List V->Hp->VK->Prop):Prop:=
 ∀ (pins:List (Addr × Obj)) (s:Shared) (σ:St) (H:Hp) (xs:List V) (us:List Value) (Q:VK),Inv X pins σ H s->Vals xs us->r xs H Q ->
  wpAny (model X.prog X.w) X.A (call f us) (EP X pins σ Q) X.xe s
noncomputable def tOp (r:R2) (ta tb:TE):TE:=fun σ H Q=>ta σ H fun x H1=>tb σ H1 fun y H2=>r x y H2 Q
noncomputable def tUn (r:V->Hp->VK->Prop) (ta:TE):TE:=fun σ H Q=>ta σ H fun x H1=>r x H1 Q
noncomputable def rI (C:Int->Int->Prop) (g:Int->Int->V):R2:=fun x y H Q=>∃ i j,x=.int i/\y=.int j/\C i j/\Q (g i j) H
noncomputable def rI0 (g:Int->Int->V):R2:=fun x y H Q=>∃ i j,x=.int i/\y=.int j/\Q (g i j) H
noncomputable def rU (g:Int->V):V->Hp->VK->Prop:=fun x H Q=>∃ i,x=.int i/\Q (g i) H
section
variable {X:Cx} {a b c:Expr} {ta tb tc:TE} {pos:Pos}
theorem binT (ha:PE X a ta) (hb:PE X b tb) {pins:List (Addr × Obj)} {s:Shared} {σ:St} {H:Hp} {R:V->V->Hp->Prop} (I:Inv X pins σ H s)
  (h:ta σ H fun x H1=>tb σ H1 fun y H2=>R x y H2) {Q:Value->Shared->Prop} {f:Value->Value->Sem Value}
  (hf:∀ v u s2 x y H2,Inv X pins σ H2 s2->RelV x v->RelV y u->R x y H2->wpAny (model X.prog X.w) X.A (f v u) Q X.xe s2):
  wpAny (model X.prog X.w) X.A (eval a X.env) (fun v s₁=>wpAny (model X.prog X.w) X.A (eval b X.env) (fun u s₂=>wpAny (model X.prog X.w) X.A (f v u) Q X.xe s₂) X.xe s₁) X.xe s:=by
 refine thn (ha pins s σ H _ I h) fun v s1 ⟨x,H1,I1,r1,q1⟩=>?_
 refine thn (hb pins s1 σ H1 _ I1 q1) fun u s2 ⟨y,H2,I2,r2,q2⟩=>?_
 exact hf v u s2 x y H2 I2 r1 r2 q2
theorem aw {op:Operator} {r:R2} (ho:OpR X (binaryOp op) r) (ha:PE X a ta) (hb:PE X b tb):PE X (.BinOp a op b pos) (tOp r ta tb):=by
 intro pins s σ H Q I h;exact wpAny_BinOp (binT ha hb I h fun v u s2 x y H2 I2 rx ry q=>ho pins s2 σ H2 x y v u Q I2 rx ry q)
theorem xm {op:UnaryOp} {r:V->Hp->VK->Prop} (ho:UnR X (unaryOp op) r) (ha:PE X a ta):PE X (.UnaryOp op a pos) (tUn r ta):=by
 intro pins s σ H Q I h;exact UnaryOp_ (thn (ha pins s σ H _ I h) fun v s1 ⟨x,H1,I1,r1,q1⟩=>ho pins s1 σ H1 x v Q I1 r1 q1)
theorem opI {f:Value->Value->Sem Value} {C:Int->Int->Prop} {g:Int->Int->Int}
  (rule:∀ (i j:Int) (t u:Tok) (s:Shared) (Q:Value->Shared->Prop) (E:Value->Shared->Prop),C i j->Q (.int (g i j) s.toks) { s with toks:=s.toks+1 }->wpAny (model X.prog X.w) X.A (f (.int i t) (.int j u)) Q E s):
  OpR X f (rI C fun i j=>.int (g i j)):=by
 intro pins s σ H x y v u Q I rx ry h;obtain ⟨i,j,rfl,rfl,hc,q⟩:=h;obtain ⟨t,rfl⟩:=rx;obtain ⟨t',rfl⟩:=ry;exact rule i j t t' s _ _ hc ⟨.int (g i j),H,I.tok _,⟨_,rfl⟩,q⟩
theorem opI0 {f:Value->Value->Sem Value} {g:Int->Int->Int}
  (rule:∀ (i j:Int) (t u:Tok) (s:Shared) (Q:Value->Shared->Prop) (E:Value->Shared->Prop),Q (.int (g i j) s.toks) { s with toks:=s.toks+1 }->wpAny (model X.prog X.w) X.A (f (.int i t) (.int j u)) Q E s):
  OpR X f (rI0 fun i j=>.int (g i j)):=by
 intro pins s σ H x y v u Q I rx ry h;obtain ⟨i,j,rfl,rfl,q⟩:=h;obtain ⟨t,rfl⟩:=rx;obtain ⟨t',rfl⟩:=ry;exact rule i j t t' s _ _ ⟨.int (g i j),H,I.tok _,⟨_,rfl⟩,q⟩
theorem opB0 {f:Value->Value->Sem Value} {g:Int->Int->Bool}
  (rule:∀ (i j:Int) (t u:Tok) (s:Shared) (Q:Value->Shared->Prop) (E:Value->Shared->Prop),Q (.bool (g i j)) s->wpAny (model X.prog X.w) X.A (f (.int i t) (.int j u)) Q E s):
  OpR X f (rI0 fun i j=>.bl (g i j)):=by
 intro pins s σ H x y v u Q I rx ry h;obtain ⟨i,j,rfl,rfl,q⟩:=h;obtain ⟨t,rfl⟩:=rx;obtain ⟨t',rfl⟩:=ry;exact rule i j t t' s _ _ ⟨.bl (g i j),H,I,rfl,q⟩
def CDiv (i j:Int):Prop:=0 < j/\j < 1073741824
def CPow (i j:Int):Prop:=0<=j/\j<=1000000/\i.natAbs < 2 ^ 64
def CMul (i j:Int):Prop:=(-(2 ^ 64) < i/\i < 2 ^ 64)\/(-(2 ^ 64) < j/\j < 2 ^ 64)
theorem CMul.ok {i j:Int} (h:CMul i j):IntMulOk i j:=by
 rcases h with ⟨h1,h2⟩ | ⟨h1,h2⟩
 ·exact .of_left (intBits_le_64 h1 h2)
 ·exact .of_right (intBits_le_64 h1 h2)
theorem wf:OpR X (binaryOp .Add) (rI0 fun i j=>.int (i+j)):=opI0 fun _ _ _ _ _ _ _ q=>add_int q
theorem vB:OpR X (binaryOp .Sub) (rI0 fun i j=>.int (i - j)):=opI0 fun _ _ _ _ _ _ _ q=>sub_int q
theorem vz:OpR X (binaryOp .Mult) (rI CMul fun i j=>.int (i*j)):=opI fun _ _ _ _ _ _ _ hc q=>mul_int q hc.ok
theorem u3:OpR X (binaryOp .FloorDiv) (rI CDiv fun i j=>.int (i / j)):=opI fun i j _ _ _ _ _ hc q=>by
 have h1:(0:Int) < j:=hc.1;have h2:j < 1073741824:=hc.2;exact floordiv_int (by omega) (by rw [Int.fdiv_eq_ediv_of_nonneg i (by omega)]; exact q) (.inl (PyProof.noPylong_small (by omega)))
theorem vG:OpR X (binaryOp .Mod) (rI (fun _ j=>0 < j) fun i j=>.int (i % j)):=opI fun i j _ _ _ _ _ hc q=>by
 have h1:(0:Int) < j:=hc;exact mod_int' (by omega) (by rw [Int.fmod_eq_emod_of_nonneg i (by omega)]; exact q)
theorem unI {f:Value->Sem Value} {g:Int->Int}
  (rule:∀ (i:Int) (t:Tok) (s:Shared) (Q:Value->Shared->Prop) (E:Value->Shared->Prop),Q (.int (g i) s.toks) { s with toks:=s.toks+1 }->wpAny (model X.prog X.w) X.A (f (.int i t)) Q E s):
  UnR X f (rU fun i=>.int (g i)):=by
 intro pins s σ H x v Q I rx h;obtain ⟨i,rfl,q⟩:=h;obtain ⟨t,rfl⟩:=rx;exact rule i t s _ _ ⟨.int (g i),H,I.tok _,⟨_,rfl⟩,q⟩
theorem vW:UnR X (unaryOp .USub) (rU fun i=>.int (-i)):=unI fun _ _ _ _ _ q=>neg_int q
end
noncomputable def scal:V->V->Bool
 | .non,.non=>true | .non,.int _=>true | .int _,.non=>true | .non,.bl _=>true | .bl _,.non=>true | .non,.str _=>true | .str _,.non=>true
 | .int _,.int _=>true | .bl _,.bl _=>true | .str _,.str _=>true | .byt _,.byt _=>true
 | .int _,.str _=>true | .str _,.int _=>true | .bl _,.str _=>true | .str _,.bl _=>true
 | _,_=>false
noncomputable def rEq:R2:=fun x y H Q=>scal x y=true/\Q (.bl (decide (x=y))) H
noncomputable def rNe:R2:=fun x y H Q=>scal x y=true/\Q (.bl (!decide (x=y))) H
theorem pA {i j:Int}:decide (V.int i=V.int j)=(i == j):=by
 rw [Bool.eq_iff_iff];simp
theorem rP {i j:Bool}:decide (V.bl i=V.bl j)=(i == j):=by
 rw [Bool.eq_iff_iff];simp
theorem pi {i j:Str}:decide (V.str i=V.str j)=(i == j):=by
 rw [Bool.eq_iff_iff];simp
theorem pG {i j:Array UInt8}:decide (V.byt i=V.byt j)=(i.toList == j.toList):=by
 rw [Bool.eq_iff_iff];cases i;cases j;simp
section
variable {X:Cx} {a b c:Expr} {ta tb tc:TE} {pos:Pos}
theorem aJ {pins:List (Addr × Obj)} {σ:St} {H:Hp} {s:Shared} {Q:VK} {k k':Bool} (I:Inv X pins σ H s) (q:Q (.bl k) H) (e:k=k'):EP X pins σ Q (.bool k') s:=by
 subst e;exact ⟨.bl k,H,I,rfl,q⟩
theorem wX:OpR X (compareOp .Eq) rEq:=by
 intro pins s σ H x y v u Q I rx ry h;obtain ⟨hs,q⟩:=h;cases x with
 | non=>
  cases rx;cases y with
  | non=>cases ry; exact PySem.EqNone.eq_none_none (aJ I q (by simp))
  | bl j=>cases ry; exact PySem.EqNone.eq_none_bool (aJ I q (by simp))
  | int j=>obtain ⟨t',rfl⟩:=ry; exact PySem.EqNone.eq_none_int (aJ I q (by simp))
  | str j=>obtain ⟨t',rfl⟩:=ry; exact PySem.EqNone.eq_none_str (aJ I q (by simp))
  | _=>exact absurd (show false=true from hs) Bool.false_ne_true
 | bl i=>
  cases rx;cases y with
  | non=>cases ry; exact PySem.EqNone.eq_bool_none (aJ I q (by simp))
  | bl j=>cases ry; exact eq_bool (aJ I q rP)
  | str j=>obtain ⟨t',rfl⟩:=ry; exact PySem.EqMixed.eq_bool_str (aJ I q (by simp))
  | _=>exact absurd (show false=true from hs) Bool.false_ne_true
 | int i=>
  obtain ⟨t,rfl⟩:=rx;cases y with
  | non=>cases ry; exact PySem.EqNone.eq_int_none (aJ I q (by simp))
  | int j=>obtain ⟨t',rfl⟩:=ry; exact eq_int (aJ I q pA)
  | str j=>obtain ⟨t',rfl⟩:=ry; exact PySem.EqMixed.eq_int_str (aJ I q (by simp))
  | _=>exact absurd (show false=true from hs) Bool.false_ne_true
 | str i=>
  obtain ⟨t,rfl⟩:=rx;cases y with
  | non=>cases ry; exact PySem.EqNone.eq_str_none (aJ I q (by simp))
  | bl j=>cases ry; exact PySem.EqMixed.eq_str_bool (aJ I q (by simp))
  | int j=>obtain ⟨t',rfl⟩:=ry; exact PySem.EqMixed.eq_str_int (aJ I q (by simp))
  | str j=>obtain ⟨t',rfl⟩:=ry; exact eq_str (aJ I q pi)
  | _=>exact absurd (show false=true from hs) Bool.false_ne_true
 | byt i=>
  obtain ⟨t,rfl⟩:=rx;cases y with
  | byt j=>obtain ⟨t',rfl⟩:=ry; exact PySem.W.eq_bytes (aJ I q pG)
  | _=>exact absurd (show false=true from hs) Bool.false_ne_true
 | _=>cases y <;> exact absurd (show false=true from hs) Bool.false_ne_true
theorem xu:OpR X (compareOp .NotEq) rNe:=by
 intro pins s σ H x y v u Q I rx ry h;obtain ⟨hs,q⟩:=h;cases x with
 | non=>
  cases rx;cases y with
  | non=>cases ry; exact PySem.EqNone.ne_none_none (aJ I q (by simp))
  | bl j=>cases ry; exact PySem.EqNone.ne_none_bool (aJ I q (by simp))
  | int j=>obtain ⟨t',rfl⟩:=ry; exact PySem.EqNone.ne_none_int (aJ I q (by simp))
  | str j=>obtain ⟨t',rfl⟩:=ry; exact PySem.EqNone.ne_none_str (aJ I q (by simp))
  | _=>exact absurd (show false=true from hs) Bool.false_ne_true
 | bl i=>
  cases rx;cases y with
  | non=>cases ry; exact PySem.EqNone.ne_bool_none (aJ I q (by simp))
  | bl j=>cases ry; exact ne_bool (aJ I q (congrArg not rP))
  | str j=>obtain ⟨t',rfl⟩:=ry; exact PySem.EqMixed.ne_bool_str (aJ I q (by simp))
  | _=>exact absurd (show false=true from hs) Bool.false_ne_true
 | int i=>
  obtain ⟨t,rfl⟩:=rx;cases y with
  | non=>cases ry; exact PySem.EqNone.ne_int_none (aJ I q (by simp))
  | int j=>obtain ⟨t',rfl⟩:=ry; exact ne_int (aJ I q (congrArg not pA))
  | str j=>obtain ⟨t',rfl⟩:=ry; exact PySem.EqMixed.ne_int_str (aJ I q (by simp))
  | _=>exact absurd (show false=true from hs) Bool.false_ne_true
 | str i=>
  obtain ⟨t,rfl⟩:=rx;cases y with
  | non=>cases ry; exact PySem.EqNone.ne_str_none (aJ I q (by simp))
  | bl j=>cases ry; exact PySem.EqMixed.ne_str_bool (aJ I q (by simp))
  | int j=>obtain ⟨t',rfl⟩:=ry; exact PySem.EqMixed.ne_str_int (aJ I q (by simp))
  | str j=>obtain ⟨t',rfl⟩:=ry; exact ne_str (aJ I q (congrArg not pi))
  | _=>exact absurd (show false=true from hs) Bool.false_ne_true
 | byt i=>
  obtain ⟨t,rfl⟩:=rx;cases y with
  | byt j=>obtain ⟨t',rfl⟩:=ry; exact PySem.W.ne_bytes (aJ I q (congrArg not pG))
  | _=>exact absurd (show false=true from hs) Bool.false_ne_true
 | _=>cases y <;> exact absurd (show false=true from hs) Bool.false_ne_true
theorem xo:OpR X (compareOp .Lt) (rI0 fun i j=>.bl (decide (i < j))):=opB0 fun _ _ _ _ _ _ _ q=>lt_int q
theorem wY:OpR X (compareOp .Gt) (rI0 fun i j=>.bl (decide (j < i))):=opB0 fun _ _ _ _ _ _ _ q=>gt_int q
theorem w9:OpR X (compareOp .GtE) (rI0 fun i j=>.bl (decide (j<=i))):=opB0 fun _ _ _ _ _ _ _ q=>ge_int q
theorem vq:OpR X (compareOp .Is) (fun x y H Q=>y=.non/\Q (.bl (decide (x=.non))) H):=by
 intro pins s σ H x y v u Q I rx ry h;obtain ⟨rfl,q⟩:=h;cases ry;refine is_none_gen (aJ I q ?_);cases x <;> first
  | (cases rx; rfl)
  | (obtain ⟨t,rfl⟩:=rx; rfl)
theorem ub:OpR X (compareOp .IsNot) (fun x y H Q=>y=.non/\Q (.bl (!decide (x=.non))) H):=by
 intro pins s σ H x y v u Q I rx ry h;obtain ⟨rfl,q⟩:=h;cases ry;refine isnot_none_gen (aJ I q ?_);cases x <;> first
  | (cases rx; rfl)
  | (obtain ⟨t,rfl⟩:=rx; rfl)
theorem mr:OpR X (compareOp .NotIn) (fun x y H Q=>∃ i j,x=.str i/\y=.str j/\Q (.bl (!(!(Builtin.Str.occurrences j i 0 j.length 1).isEmpty))) H):=by
 intro pins s σ H x y v u Q I rx ry h;obtain ⟨i,j,rfl,rfl,q⟩:=h;obtain ⟨t,rfl⟩:=rx;obtain ⟨t',rfl⟩:=ry;exact notIn_str (aJ I q rfl)
theorem nomark (b:Expr) {op:CmpOp} (h:op≠.In:=by decide) (h2:op≠.NotIn:=by decide):behindInMarks op b=false:=by
 have e1:(op == CmpOp.In)=false:=by cases op <;> first | rfl | exact absurd rfl h
 have e2:(op == CmpOp.NotIn)=false:=by cases op <;> first | rfl | exact absurd rfl h2
 cases b <;> simp [behindInMarks,e1,e2]
theorem uK {op:CmpOp} {r:R2} (ho:OpR X (compareOp op) r) (ha:PE X a ta) (hb:PE X b tb) (hm:behindInMarks op b=false):PE X (.Compare a [op] [b] pos) (tOp r ta tb):=by
 intro pins s σ H Q I h;exact wpAny_Compare1 (binT ha hb I h fun v u s2 x y H2 I2 rx ry q=>ho pins s2 σ H2 x y v u Q I2 rx ry q) hm
noncomputable def tTest (t:TE):TT:=fun σ H Q=>t σ H fun x H'=>∃ k,x=.bl k/\Q k H'
theorem ua {op:CmpOp} {r:R2} (ho:OpR X (compareOp op) r) (ha:PE X a ta) (hb:PE X b tb) (hm:behindInMarks op b=false):PT X (.Compare a [op] [b] pos) (tTest (tOp r ta tb)):=by
 intro pins s σ H Q I h;refine wpAny_isTrue_Compare1 (thn (ha pins s σ H _ I h) fun v s1 ⟨x,H1,I1,r1,q1⟩=>thn (hb pins s1 σ H1 _ I1 q1) fun u s2 ⟨y,H2,I2,r2,q2⟩=>
  thn (ho pins s2 σ H2 x y v u _ I2 r1 r2 q2) fun c s3 ⟨z,H3,I3,r3,k,e,q3⟩=>?_) hm
 subst e;cases r3;exact wpAny_truthy_bool ⟨H3,I3,q3⟩
theorem line63:(sizeLine:Nat) < 2 ^ 63:=by rw [sizeLine_eq]; decide
theorem n4:OpR X (binaryOp .Add) (fun x y H Q=>∃ i j,x=.str i/\y=.str j/\i.length+j.length<=sizeLine/\Q (.str (i++j)) H):=by
 intro pins s σ H x y v u Q I rx ry h;obtain ⟨i,j,rfl,rfl,hz,q⟩:=h;obtain ⟨t,rfl⟩:=rx;obtain ⟨t',rfl⟩:=ry;exact tokQ I.tk (add_str (fun t' tk (htk:0 < tk)=>⟨.str (i++j),H,I.tok _,⟨_,rfl⟩,q⟩) hz)
theorem vals1 {x:V} {us:List Value} (r:Vals [x] us):∃ u,us=[u]/\RelV x u:=by
 cases r with
 | cons r1 r2=>cases r2; exact ⟨_,rfl,r1⟩
theorem vals2 {x y:V} {us:List Value} (r:Vals [x,y] us):∃ u w',us=[u,w']/\RelV x u/\RelV y w':=by
 cases r with
 | cons r1 r2=>
  cases r2 with
  | cons r3 r4=>cases r4; exact ⟨_,_,rfl,r1,r3⟩
theorem pQ (hc:X.calm=true):CallR X (.builtin "min") (fun xs H Q=>∃ i j,xs=[.int i,.int j]/\Q (.int (if j < i then j else i)) H):=by
 intro pins s σ H xs us Q I r h;obtain ⟨i,j,rfl,q⟩:=h;obtain ⟨u,w',rfl,⟨t,rfl⟩,⟨t',rfl⟩⟩:=vals2 r;refine tokQ I.tk (min_two_ints (I.ok.hd hc) fun h' tk k (htk:0 < tk)=>⟨_,H,I.kept k,?_,q⟩);by_cases hj:j < i
 ·rw [if_pos hj,if_pos hj]; exact ⟨_,rfl⟩
 ·rw [if_neg hj,if_neg hj]; exact ⟨_,rfl⟩
theorem kR:CallR X (.type "int") (fun xs H Q=>(∃ i,xs=[.int i]/\Q (.int i) H)\/∃ k,xs=[.bl k]/\Q (.int (if k then 1 else 0)) H):=by
 intro pins s σ H xs us Q I r h;rcases h with ⟨i,rfl,q⟩ | ⟨k,rfl,q⟩
 ·obtain ⟨u,rfl,t,rfl⟩:=vals1 r;exact call_int_int ⟨.int i,H,I,⟨_,rfl⟩,q⟩
 ·obtain ⟨u,rfl,r1⟩:=vals1 r;cases r1;exact call_int_bool ⟨.int (if k then 1 else 0),H,I.tok _,⟨_,rfl⟩,q⟩
end
structure ObjM (h:Heap) (x dx C:Addr) (mA:Str->Option Value):Prop where
 obj:h.get? x=some (PySem.W.instObj C dx)
 ns:h.Ns1 dx mA
 ne:dx≠x
theorem qG {h:Heap} {dx:Addr} {mA:Str->Option Value} (n:h.Ns1 dx mA):∃ od,h.get? dx=some od/\∀ name,PySem.W.lookIn name od=some (mA name):=by
 obtain ⟨o,es,ep,ho,hd,hk,_,hm⟩:=n;refine ⟨o,ho,fun name=>?_⟩;have e:=hm name;unfold nsFind findBy at e;rw [<- Array.find?_toList] at e;unfold PySem.W.lookIn;rw [hd];dsimp only;split
 ·rename_i y q;rw [q] at e;exact congrArg some e
 ·rename_i q;rw [q] at e;have a:es.toList.any (·.refKey)=false:=by
   rw [List.any_eq_false];intro y hy;obtain ⟨z,t,hkey⟩:=hk y (Array.mem_toList_iff.mp hy);simp [DictEntry.refKey,hkey]
  have a':¬ es.toList.any (·.refKey)=true:=by rw [a]; exact Bool.false_ne_true
  rw [if_neg a'];exact congrArg some e
theorem ObjM.look {h:Heap} {x dx C:Addr} {mA:Str->Option Value} (I:ObjM h x dx C mA):∃ od,PySem.W.InstAt h x (PySem.W.instObj C dx) C (some od)/\∀ name,PySem.W.lookIn name od=some (mA name):=
 let ⟨od,ho,hl⟩:=qG I.ns
 ⟨od,⟨I.obj,rfl,rfl,ho⟩,hl⟩
section
variable {prog:Program} {w:World} {A:Around} {E:Value->Shared->Prop} {s:Shared} {K:Frag} {x dx C f:Addr} {mA:Str->Option Value} {name:Str} {v:Value}
end
theorem RelO.some_of {v:V} {o:Option Value} (r:RelO (some v) o):∃ u,o=some u/\RelV v u:=by
 cases o with
 | none=>exact (show False from r).elim
 | some u=>exact ⟨u,rfl,r⟩
section
variable {P:Program} {w:World} {H H':Hp} {h h':Heap} {a C dx:Addr} {fs fs':List (Str × V)}
theorem ur (hok:HOk P w H h) (e:H a=some (.ins C dx fs)):∃ mA,ObjM h a dx C mA/\(∀ f,RelO (fs.lookup f) (mA f))/\PySem.Within mA (fs.map (·.1))/\fs.length<=1000/\H dx=some (.own a):=by
 obtain ⟨d,z,ne,ob,mA,n,r,q⟩:=(show ObjOk P w H h a (.ins C dx fs) from hok a _ e);exact ⟨mA,⟨ob,n,ne⟩,r,q,z,d⟩
end
structure Cls (K:Frag) (C:Addr):Prop where
 pg:PySem.W.plainGet K C Str.empty=true
 hd:PySem.W.hasDictIn K C=true
 po:PySem.W.plainOver K C=true
 sa:findIn K (.ref C) "__setattr__" = some (some (.builtin "object.__setattr__"))
theorem Cls.get {K:Frag} {C:Addr} (c:Cls K C) (f:Str):PySem.W.plainGet K C f=true:=c.pg
section
variable {X:Cx} {pins:List (Addr × Obj)} {σ:St} {H:Hp} {s:Shared} {a C dx:Addr} {fs:List (Str × V)} {f:Str} {v:V} {A:Around} {E:Value->Shared->Prop}
end
section
variable {X:Cx} {o e value:Expr} {f:Str} {pos pos' tpos:Pos} {ta tv:TE}
end
section
variable {X:Cx} {pins:List (Addr × Obj)} {σ:St} {H:Hp} {s:Shared} {A:Around} {E:Value->Shared->Prop} {Q:Value->Shared->Prop} {c:Value} {b:Bool}
inductive TyOf (K:Frag) (H:Hp):V->Value->Prop where
 | non:TyOf K H .non (.type "NoneType")
 | bl (x:Bool):TyOf K H (.bl x) (.type "bool")
 | int (i:Int):TyOf K H (.int i) (.type "int")
 | str (x:Str):TyOf K H (.str x) (.type "str")
 | flt (x:UInt64):TyOf K H (.flt x) (.type "float")
 | lst {a:Addr} {xs:List V} (e:H a=some (.lst xs)):TyOf K H (.ref a) (.type "list")
 | frz {a:Addr} {o:Obj} {xs:List V} (e:H a=some (.frz o (.lst xs))):TyOf K H (.ref a) (.type "list")
 | tup {a:Addr} {xs:List V} (e:H a=some (.tup xs)):TyOf K H (.ref a) (.type "tuple")
 | dK {a:Addr} {kvs:List (Key × V)} (e:H a=some (.dK kvs)):TyOf K H (.ref a) (.type "dict")
 | dT {a:Addr} {kvs:List (List Key × V)} (e:H a=some (.dT kvs)):TyOf K H (.ref a) (.type "dict")
 | ins {a C dx:Addr} {fs:List (Str × V)} (e:H a=some (.ins C dx fs)) (cl:Cls K C) (ha:findIn K (.ref C) "__class__" = some (some (.builtin "object.__class__")))
   (hn:PySem.W.specialIn K (.builtin "object.__class__") "__get__" = some (some (.builtin "getset_descriptor.__get__"))) (htk:PySem.W.takesIn K (.builtin "object.__class__")=some true)
   (hm:PySem.W.mroIn K C (.type "object")=some true):TyOf K H (.ref a) (.ref C)
theorem ql {x:V} {u t:Value} (I:Inv X pins σ H s) (rx:RelV x u) (ty:TyOf X.K H x t) (e:PySem.W.kitOne X.K t c=some b) (h:∀ tk,Q (.bool b) { s with toks:=tk }):
  wpAny (model X.prog X.w) A (call (.builtin "isinstance") [u,c]) Q E s:=by
 cases ty with
 | non=>cases (show u=Value.none from rx); exact PySem.W.kia_one PySem.W.kitx_none I.kIn True.intro e (fun z=>nomatch z) h
 | bl y=>cases (show u=Value.bool y from rx); exact PySem.W.kia_one PySem.W.kitx_bool I.kIn True.intro e (fun z=>nomatch z) h
 | int i=>obtain ⟨t,q⟩:=(show ∃ t,u=Value.int i t from rx); cases q; exact PySem.W.kia_one PySem.W.kitx_int I.kIn True.intro e (fun z=>nomatch z) h
 | str y=>obtain ⟨t,q⟩:=(show ∃ t,u=Value.str y t from rx); cases q; exact PySem.W.kia_one PySem.W.kitx_str I.kIn True.intro e (fun z=>nomatch z) h
 | flt y=>obtain ⟨t,q⟩:=(show ∃ t,u=Value.float y t from rx); cases q; exact PySem.W.kia_one PySem.W.kitx_float I.kIn True.intro e (fun z=>nomatch z) h
 | @lst a xs ea=>
  cases (show u=Value.ref a from rx);obtain ⟨_,_,n,_,h1⟩:=(show ObjOk X.prog X.w H s.heap a (.lst xs) from I.hok a _ ea);exact PySem.W.kia_one PySem.W.kitx_list I.kIn ⟨_,h1,rfl⟩ e (fun z=>nomatch z) h
 | @frz a ob xs ea=>
  cases (show u=Value.ref a from rx);obtain ⟨_,_,_,n,_,h1⟩:=(show ObjOk X.prog X.w H s.heap a (.frz ob (.lst xs)) from I.hok a _ ea);exact PySem.W.kia_one PySem.W.kitx_list I.kIn ⟨_,h1,rfl⟩ e (fun z=>nomatch z) h
 | @tup a xs ea=>
  cases (show u=Value.ref a from rx);obtain ⟨_,_,_,p⟩:=(show ObjOk X.prog X.w H s.heap a (.tup xs) from I.hok a _ ea);obtain ⟨o,h1,h2,_⟩:=p;exact PySem.W.kia_one PySem.W.kitx_tuple I.kIn ⟨o,h1,h2⟩ e (fun z=>nomatch z) h
 | @dK a kvs ea=>
  cases (show u=Value.ref a from rx);obtain ⟨_,_,vs,_,p⟩:=(show ObjOk X.prog X.w H s.heap a (.dK kvs) from I.hok a _ ea);obtain ⟨o,es,ep,h1,h2,_⟩:=p;exact PySem.W.kia_one PySem.W.kitx_dict I.kIn ⟨o,h1,h2.1⟩ e (fun z=>nomatch z) h
 | @dT a kvs ea=>
  cases (show u=Value.ref a from rx);obtain ⟨_,_,xs,_,o,es,ep,h1,h2,_⟩:=(show ObjOk X.prog X.w H s.heap a (.dT kvs) from I.hok a _ ea);exact PySem.W.kia_one PySem.W.kitx_dict I.kIn ⟨o,h1,h2.1⟩ e (fun z=>nomatch z) h
 | @ins a C dx fs ea cl ha hn htk hm=>
  cases (show u=Value.ref a from rx);obtain ⟨mA,O,_⟩:=ur I.hok ea;obtain ⟨od,J,_⟩:=O.look;exact PySem.W.kia_one (PySem.W.kitx_own (cl.get _) cl.hd ha hn htk hm) I.kIn J e (fun z=>nomatch z) h
end
structure Room (k:Nat) (A:Around):Prop where
 hd:A.handled=none
 dp:A.depth+3*k+5 < recursionLimit
 un:A.units+16*k+200 < cLine
 gd:A.guards=some []
theorem Room.mono {j k:Nat} {A:Around} (r:Room k A) (h:j<=k):Room j A:=⟨r.hd,by have:=r.dp; omega,by have:=r.un; omega,r.gd⟩
theorem Room.deeper {k:Nat} {A:Around} (r:Room (k+1) A) (env:Env):Room k (A.deeper env):=
 ⟨r.hd,by have:=r.dp; show A.depth+1+3*k+5 < _; omega,by have:=r.un; show A.units+3+16*k+200 < _; omega,r.gd⟩
theorem Room.depth {k:Nat} {A:Around} (r:Room k A):A.depth < recursionLimit:=by have:=r.dp; omega
theorem Room.units {k:Nat} {A:Around} (r:Room k A):A.units+64 < cLine:=by have:=r.un; omega
theorem Room.units0 {k:Nat} {A:Around} (r:Room k A):A.units < cLine:=by have:=r.un; omega
noncomputable def tNil:TA:=fun _ H Q=>Q [] H
noncomputable def tCons (ta:TE) (tr:TA):TA:=fun σ H Q=>ta σ H fun x H1=>tr σ H1 fun xs H2=>Q (x::xs) H2
section
variable {X:Cx} {e:Expr} {es:List Expr} {te:TE} {t:TA} {pos:Pos}
theorem ad:PA X [] tNil:=fun _ _ _ _ H Q I h=>Calls.spliced_nil ⟨[],H,I,.nil,h⟩
theorem aa (ha:PE X e te) (hr:PA X es t) (hs:starEach (e::es) X.env=(false,eval e X.env)::starEach es X.env:=by rfl):PA X (e::es) (tCons te t):=by
 intro pos pins s σ H Q I h;rw [hs];show wpAny _ _ (spliced ((false,eval e X.env)::backTo pos (starEach es X.env))) _ _ s;refine Calls.spliced_cons (thn (ha pins s σ H _ I h) fun u s1 ⟨x,H1,I1,r1,q1⟩=>?_);exact thn (hr pos pins s1 σ H1 _ I1 q1) fun us s2 ⟨xs,H2,I2,r2,q2⟩=>⟨x::xs,H2,I2,.cons r1 r2,q2⟩
noncomputable def tTup (t:TA):TE:=fun σ H Q=>t σ H fun xs H1=>xs.length<=sizeLine/\∀ p,H1 p=none->Q (.ref p) (upd H1 p (.tup xs))
noncomputable def tLst (t:TA):TE:=fun σ H Q=>t σ H fun xs H1=>xs.length<=sizeLine/\∀ p,H1 p=none->Q (.ref p) (upd H1 p (.lst xs))
theorem aq {x1} (h:PA X es t):PE X (.Tuple es x1 pos) (tTup t):=by
 intro pins s σ H Q I hq;refine wpAny_Tuple_spliced (thn (h pos pins s σ H _ I hq) fun us s1 ⟨xs,H1,I1,r,z,q⟩=>⟨by rw [<- r.length]; exact z,?_⟩);have hf:H1 s1.heap.objs.size=none:=I1.hok.fresh (Nat.le_refl _);refine ⟨.ref s1.heap.objs.size,upd H1 s1.heap.objs.size (.tup xs),I1.laid (t':=s1.toks) (fun b u e=>Heap.get?_push_of_some _ e) (Nat.le_refl _) ?_,rfl,q _ hf⟩;exact ⟨z,us,r,⟨_,Heap.get?_push_size _ rfl,rfl,_,rfl⟩⟩
theorem aZ (h:PA X es t):PE X (.List es pos) (tLst t):=by
 intro pins s σ H Q I hq;refine wpAny_List_spliced (thn (h pos pins s σ H _ I hq) fun us s1 ⟨xs,H1,I1,r,z,q⟩=>⟨by rw [<- r.length]; exact z,?_⟩);have hf:H1 s1.heap.objs.size=none:=I1.hok.fresh (Nat.le_refl _);refine ⟨.ref s1.heap.objs.size,upd H1 s1.heap.objs.size (.lst xs),I1.laid (t':=s1.toks) (fun b u e=>Heap.get?_push_of_some _ e) (Nat.le_refl _) ?_,rfl,q _ hf⟩;exact ⟨z,us,0,r,Heap.get?_push_size _ rfl⟩
end
noncomputable abbrev Sp:=List V->Hp->VK->XK->Prop
noncomputable abbrev CXT:=List Env->Hp->Shared->XK->Value->Shared->Prop
structure Env0 (P:Program) (w:World) (K:Frag) (mg:Str->Option Value) (base:Heap) (A:Around) (outer:List Env) (s:Shared) (H:Hp):Prop where
 frames:A.frames=some outer
 mod:Mod K mg base
 bs:∀ b o,base.get? b=some o->s.heap.get? b=some o/\H b=none
 bsz:base.objs.size<=s.heap.objs.size
 funs:s.heap.FunFrames base outer
 frf:∀ b ∈ frs outer,H b=none
 hok:HOk P w H s.heap
 bare:AllBare s.gens
 tk:0 < s.toks
def CE (outer:List Env) (P:Program) (w:World) (H:Hp) (s:Shared) (Q:VK) (u:Value) (s':Shared):Prop:=
 ∃ v H',0 < s'.toks/\s'.os=s.os/\AllBare s'.gens/\Un (frs outer) [] H H' s.heap s'.heap/\HOk P w H' s'.heap/\RelV v u/\Q v H'
def CR (CX:CXT) (outer:List Env) (P:Program) (w:World) (H:Hp) (s:Shared) (Q:VK) (E:XK) (r:Result) (s':Shared):Prop:=
 match r with
 | .ok (.ret u)=>CE outer P w H s Q u s'
 | .ok _=>False
 | .error e=>CX outer H s E e s'
structure FnOk (P:Program) (w:World) (K:Frag) (mg:Str->Option Value) (base:Heap) (CX:CXT) (k:Nat) (f:Addr) (fd:FuncData) (ps:List Str) (sp:Sp):Prop where
 len:∀ vs H Q E,sp vs H Q E->vs.length=ps.length
 run:∀ (A:Around) (outer:List Env) (s:Shared) (H:Hp) (args:Args) (us:List Value) (vs:List V) (Q:VK) (E:XK),Room k A->Env0 P w K mg base A outer s H->BindsTo s fd args (ps.zip us)->Vals vs us->sp vs H Q E ->
  codeAny (model P w) A (.call (.ref f) args) (CR CX outer P w H s Q E) s
section
variable {X:Cx} {pins:List (Addr × Obj)} {σ:St} {H:Hp} {s s':Shared}
theorem Inv.env0 (I:Inv X pins σ H s):Env0 X.prog X.w X.K X.mg X.base X.A X.stack s H:=
 ⟨I.ok.frames,I.ok.mod,I.bs,Nat.le_trans I.ok.bsz I.sz,I.stack,I.stkFree,I.hok,I.bare,I.tk⟩
theorem Inv.after {Q:VK} {u:Value} (I:Inv X pins σ H s) (h:CE X.stack X.prog X.w H s Q u s'):EP X pins σ Q u s':=by
 obtain ⟨v,H',ht,os,bare,un,hok,r,q⟩:=h;obtain ⟨hh,g,d,t,os'⟩:=s';obtain rfl:os'=s.os:=os;exact ⟨v,H',I.call (h':=hh) (g':=g) (d':=d) (t':=t) (ch:=[]) un hok bare (fun b z=>absurd z (by simp)) ht,r,q⟩
end
noncomputable def tCall (sp:Sp) (dvs:List V) (E:XK) (t:TA):TE:=fun σ H Q=>t σ H fun vs H1=>sp (vs++dvs) H1 Q E
def Binds (K:Frag) (fd:FuncData) (ps:List Str) (ds:List Value):Prop:=
 ∀ (s:Shared) (us:List Value),K.In s.heap->(us++ds).length=ps.length->BindsTo s fd ⟨us,[]⟩ (ps.zip (us++ds))
theorem Binds.all {K:Frag} {fd:FuncData} {ps:List Str} (h:∀ us:List Value,us.length=ps.length->bindArgs fd ⟨us,[]⟩=pure (ps.zip us)):Binds K fd ps []:=fun s us _ hl=>by
 rw [List.append_nil] at hl ⊢;exact .of_eq (h us hl)
def Passes (CX:CXT) (X:Cx) (E:XK):Prop:=∀ (pins:List (Addr × Obj)) (σ:St) (H:Hp) (s:Shared) (e:Value) (s':Shared),Inv X pins σ H s->CX X.stack H s E e s'->X.xe e s'
section
variable {X:Cx} {CX:CXT} {k:Nat} {f C:Addr} {fd:FuncData} {ps:List Str} {sp:Sp} {dvs:List V} {ds:List Value} {E:XK} {x m:Str} {p pos apos:Pos} {e o:Expr} {es:List Expr} {ta:TE} {t:TA}
theorem wT {pins:List (Addr × Obj)} {σ:St} {H:Hp} {s:Shared} {Q:VK} {us:List Value} {vs:List V} (F:FnOk X.prog X.w X.K X.mg X.base CX k f fd ps sp) (hr:Room k X.A) (hb:Binds X.K fd ps ds) (hd:Vals dvs ds) (hx:Passes CX X E)
  (I:Inv X pins σ H s) (r:Vals vs us) (h:sp (vs++dvs) H Q E):wpAny (model X.prog X.w) X.A (call (.ref f) us) (EP X pins σ Q) X.xe s:=by
 have r2:Vals (vs++dvs) (us++ds):=r.append hd;have hl:(us++ds).length=ps.length:=by rw [<- r2.length]; exact F.len _ _ _ _ h
 refine wpAny_call (codeAny_mono (F.run X.A X.stack s H ⟨us,[]⟩ (us++ds) (vs++dvs) Q E hr I.env0 (hb s us I.kIn hl) r2 h) fun r s' hq=>?_);cases r with
 | error e=>exact hx pins σ H s e s' I hq
 | ok fl=>
  cases fl with
  | ret u=>exact I.after hq
  | next=>exact False.elim hq
  | brk=>exact False.elim hq
  | cont=>exact False.elim hq
theorem pj (F:FnOk X.prog X.w X.K X.mg X.base CX k f fd ps sp) (hr:Room k X.A) (hg:Gl X x) (hm:X.mg x=some (.ref f)) (hk:keepIn X.K (.ref f)=true) (hb:Binds X.K fd ps ds) (hd:Vals dvs ds) (hx:Passes CX X E)
  (ha:PA X (e::es) t) (hdb:(x == ("__debug__" : Str))=false:=by decide) (he:starEach (e::es) X.env=(false,eval e X.env)::starEach es X.env:=by rfl) (hpl:(backTo pos (starEach es X.env)).any (·.1)=false:=by rfl):
  PE X (.Call (.Name x p) (e::es) [] pos) (tCall sp dvs E t):=by
 intro pins s σ H Q I h;refine wpAny_Call_Name_kw (pF I hg hm ?_ hdb);refine PySem.W.callWith_K (h₀:=X.base) I.ok.mod.kin hk (thn (ha pos pins s σ H _ I h) fun us s1 ⟨vs,H1,I1,r,q⟩=>⟨I1.kIn,?_⟩) he hpl;exact wT F hr hb hd hx I1 r q
end
section
variable {X:Cx} {CX:CXT} {k:Nat} {f C:Addr} {fd:FuncData} {ps ks:List Str} {sp:Sp} {E:XK} {x m:Str} {p pos apos kpos:Pos} {e o:Expr} {es:List Expr} {kws:List Keyword} {te ta:TE} {t tk:TA} {nm:Option Str}
variable {g:List Value->List Value->List Value} {gV:List V->List V->List V}
end
structure FnScope (N P:List Str) (sc:Scope):Prop where
 kind:sc.kind=.function
 co:sc.isCoroutine=false
 gen:sc.isGenerator=false
 nd:N.Nodup
 pre:N.take P.length=P
 par:∀ x ∈ P,sc.names.lookup x=some .local\/sc.names.lookup x=some .cell
 nofree:∀ y ∈ sc.names,y.2≠.free
theorem kQ {kindOf:Str->Option NameKind} {x:Str}:∀ {binds:List (Str × Value)} {m:Str->Option Value},(∀ v,(x,v) ∉ binds)->bindL kindOf binds m x=m x
 | [],_,_=>rfl
 | (n,v)::r,m,h=>by
  unfold bindL;rw [kQ fun w hw=>h w (List.mem_cons_of_mem _ hw)];split
  ·have:x≠n:=by rintro rfl; exact h v List.mem_cons_self
   simp [this]
  ·rfl
theorem lr {kindOf:Str->Option NameKind} {x:Str}:∀ {binds:List (Str × Value)} {m:Str->Option Value},(∀ v,(x,v) ∉ binds)->bindC kindOf binds m x=m x
 | [],_,_=>rfl
 | (n,v)::r,m,h=>by
  unfold bindC;rw [lr fun w hw=>h w (List.mem_cons_of_mem _ hw)];split
  ·rfl
  ·have:x≠n:=by rintro rfl; exact h v List.mem_cons_self
   simp [this]
theorem kJ {kindOf:Str->Option NameKind} {x:Str} {v:Value}:∀ {P:List Str} {vs:List Value} {i:Nat} {m:Str->Option Value},P.Nodup->P[i]? = some x->vs[i]? = some v->kindOf x=some .local ->
  bindL kindOf (P.zip vs) m x=some v
 | [],_,_,_,_,h,_,_=>by simp at h
 | _::_,[],_,_,_,_,h,_=>by simp at h
 | p::P,w::vs,0,m,nd,h1,h2,hk=>by
  simp at h1 h2; subst h1; subst h2;show bindL kindOf ((p,w)::P.zip vs) m p=_;unfold bindL;rw [kQ fun v hv=>(List.nodup_cons.mp nd).1 (List.of_mem_zip hv).1,if_pos hk];simp
 | p::P,w::vs,i+1,m,nd,h1,h2,hk=>by
  show bindL kindOf ((p,w)::P.zip vs) m x=_;unfold bindL;exact kJ (i:=i) (List.nodup_cons.mp nd).2 (by simpa using h1) (by simpa using h2) hk
theorem ln {kindOf:Str->Option NameKind} {x:Str} {v:Value}:∀ {P:List Str} {vs:List Value} {i:Nat} {m:Str->Option Value},P.Nodup->P[i]? = some x->vs[i]? = some v->kindOf x≠some .local ->
  bindC kindOf (P.zip vs) m x=some v
 | [],_,_,_,_,h,_,_=>by simp at h
 | _::_,[],_,_,_,_,h,_=>by simp at h
 | p::P,w::vs,0,m,nd,h1,h2,hk=>by
  simp at h1 h2; subst h1; subst h2;show bindC kindOf ((p,w)::P.zip vs) m p=_;unfold bindC;rw [lr fun v hv=>(List.nodup_cons.mp nd).1 (List.of_mem_zip hv).1,if_neg hk];simp
 | p::P,w::vs,i+1,m,nd,h1,h2,hk=>by
  show bindC kindOf ((p,w)::P.zip vs) m x=_;unfold bindC;exact ln (i:=i) (List.nodup_cons.mp nd).2 (by simpa using h1) (by simpa using h2) hk
noncomputable def start (N:List Str) (vs:List V):St:=vs.map some++List.replicate (N.length - vs.length) none
noncomputable def cxOf (CX:CXT) (P:Program) (w:World) (K:Frag) (mg:Str->Option Value) (base:Heap) (N:List Str) (qual:Str) (scope:Scope) (f:Addr) (cd:Value) (A:Around) (outer:List Env) (s:Shared) (H:Hp) (E:XK):Cx where
 prog:=P
 w:=w
 K:=K
 mg:=mg
 base:=base
 A:=A.deeper (envOfC qual scope s.heap.objs.size f cd)
 N:=N
 s₀:=s
 H₀:=H
 env:=envOfC qual scope s.heap.objs.size f cd
 outer:=outer
 stack:=envOfC qual scope s.heap.objs.size f cd::outer
 ex:=[]
 calm:=true
 fn:=fun _=>true
 pn:=[]
 xe:=fun e s'=>wpAny (model P w) (A.deeper (envOfC qual scope s.heap.objs.size f cd)) (leaving (envOfC qual scope s.heap.objs.size f cd) e) (fun _ s''=>CX outer H s E e s'') (fun e' s''=>CX outer H s E e' s'') s'
theorem mK {sc:Scope} {n:Nat} {x:Str} (h:sc.names.lookup x=some .cell):∃ c,(cellsFrom n sc.names []).lookup x=some c:=by
 have q:=PySem.W.cellsFrom_some sc.names n [] (.inl h);exact Option.isSome_iff_exists.mp q
theorem qt {CX:CXT} {P:Program} {w:World} {K:Frag} {mg:Str->Option Value} {base:Heap} {N ps:List Str} {qual:Str} {scope:Scope} {f:Addr} {cd:Value} {A:Around} {outer:List Env} {s s1:Shared} {H:Hp} {E:XK} {us:List Value} {vs:List V}
  (S:FnScope N ps scope) (hd:A.handled=none) (e0:Env0 P w K mg base A outer s H) (hl:vs.length=ps.length) (r:Vals vs us)
  (x:InCallC s s.heap.objs.size (bindL (envOfC qual scope s.heap.objs.size f cd).kindOf (ps.zip us) fun _=>none) (cellsFrom (s.heap.objs.size+1) scope.names []) (bindC (envOfC qual scope s.heap.objs.size f cd).kindOf (ps.zip us) fun _=>none) s1) (htk:0 < s1.toks):
  Inv (cxOf CX P w K mg base N qual scope f cd A outer s H E) [] (start N vs) H s1:=by
 have hpl:ps.length<=N.length:=by have:=congrArg List.length S.pre; rw [List.length_take] at this; omega
 obtain ⟨h1,tk,rfl,hk⟩:=x.done;have noA:∀ b:Addr,b ∉ (cxOf CX P w K mg base N qual scope f cd A outer s H E).ex:=fun b z=>absurd (show b ∈ ([]:List Addr) from z) (by simp)
 refine ⟨⟨e0.mod,S.kind,rfl,rfl,Nat.le_refl _,fun y z c h1 h2=>?_,fun y hy=>?_,fun y c _ h=>?_,fun _=>hd,Around.frames_deeper e0.frames,.inr ⟨rfl,rfl⟩,fun b z=>absurd z (noA b),e0.bs,e0.bsz,fun b _ _=>noA b,fun b z=>absurd z (noA b),e0.funs,e0.frf⟩,
  rfl,e0.bare,Un.kept hk,⟨_,x.toInCall.ns,fun i y v h1 h2 h3=>?_⟩,fun y c h=>⟨_,x.cell y c h⟩,e0.hok.fresh (Nat.le_refl _),fun y c h=>?_,fun p hp=>absurd (show p ∈ ([]:List (Addr × Obj)) from hp) (by simp),e0.hok.kept hk,?_,htk⟩
 ·exact name_of_addr x.apart (PySem.mem_of_lookup h1) (PySem.mem_of_lookup h2)
 ·have hy:scope.names.lookup y=some .cell\/scope.names.lookup y=some .free:=hy;rcases hy with hy | hy
  ·exact mK hy
  ·exact absurd rfl (S.nofree _ (PySem.mem_of_lookup hy))
 ·exact Nat.le_of_lt (x.above y c (PySem.mem_of_lookup h))
 ·have hi:i < vs.length:=by
   unfold start at h2;by_cases hi:i < vs.length
   ·exact hi
   ·rw [List.getElem?_append_right (by simpa using hi)] at h2;rw [List.getElem?_replicate] at h2;split at h2 <;> cases h2
  have ha:vs[i]? = some v:=by
   unfold start at h2;rw [List.getElem?_append_left (by simpa using hi),List.getElem?_map] at h2;cases e:vs[i]? with
   | none=>rw [e] at h2; cases h2
   | some a=>rw [e] at h2; cases h2; rfl
  obtain ⟨u,hu,rv⟩:=r.get ha;have hp:ps[i]? = some y:=by
   rw [<- S.pre,List.getElem?_take_of_lt (by omega)]; exact h1
  have ndP:ps.Nodup:=by rw [<- S.pre]; exact S.nd.sublist (List.take_sublist _ _)
  refine ⟨u,rv,?_⟩;rcases S.par y (List.mem_of_getElem? hp) with k | k
  ·exact .inl ⟨k,kJ ndP hp hu k⟩
  ·obtain ⟨c,e⟩:=mK (n:=s.heap.objs.size+1) k;refine .inr ⟨.inl k,c,e,?_⟩;have q:=x.cell y c e;rw [ln ndP hp hu (by show scope.names.lookup y≠_; rw [k]; decide)] at q;exact q
 ·exact e0.hok.fresh (Nat.le_of_lt (x.above y c (PySem.mem_of_lookup h)))
 ·unfold start;show _=N.length;rw [List.length_append,List.length_map,List.length_replicate];omega
theorem vg {CX:CXT} {P:Program} {w:World} {K:Frag} {mg:Str->Option Value} {base:Heap} {k:Nat} {f:Addr} {name qual:Str} {params:Arguments} {body:List Stmt} {scope:Scope} {dV kV doc pm cdv ct oc:Value} {an od:Option Addr}
  {osl:Array (Option Value)} {N ps:List Str} {sp:Sp} (lk:K.lookup f=some ⟨oc,od,.func (fnOf name qual params body scope dV kV doc pm an cdv ct),osl⟩) (hcd:codeIn K cdv qual=true) (S:FnScope N ps scope)
  (len:∀ vs H Q E,sp vs H Q E->vs.length=ps.length)
  (hbody:∀ (A:Around) (outer:List Env) (s:Shared) (H:Hp) (vs:List V) (Q:VK) (E:XK),Room k (A.deeper (envOfC qual scope s.heap.objs.size f cdv))->sp vs H Q E ->
   ∃ t,PSs (cxOf CX P w K mg base N qual scope f cdv A outer s H E) body t/\t { nx:=fun _ H'=>Q .non H',rt:=Q } (start N vs) H):
  FnOk P w K mg base CX (k+1) f (fnOf name qual params body scope dV kV doc pm an cdv ct) ps sp:=by
 refine ⟨len,fun A outer s H args us vs Q E hr e0 hb r hsp=>?_⟩;have hl:=len _ _ _ _ hsp;have KX:K.In s.heap:=e0.mod.kin.keeps fun b o e=>(e0.bs b o e).1
 have lim:s.heap.NoLimit:=e0.mod.nolimit.keeps fun b o e=>(e0.bs b o e).1
 have hkind:∀ y ∈ ps.zip us,scope.names.lookup y.1=some .local\/(scope.names.lookup y.1=some .cell/\((cellsFrom (s.heap.objs.size+1) scope.names []).lookup y.1).isSome=true):=fun ⟨n,v⟩ hy=>by
  rcases S.par n (List.of_mem_zip hy).1 with q | q
  ·exact .inl q
  ·exact .inr ⟨q,PySem.W.cellsFrom_some _ _ _ (.inl q)⟩
 refine codeAny_call_function hr.depth (KX _ _ lk) rfl S.co S.gen rfl (PySem.W.codeRec_of KX hcd) (hb _ _ _ _ ?_);refine tokQ e0.tk (wpAny_newFunctionEnv_cells S.kind hkind fun env he s1 x htk=>?_);subst he;refine ⟨lim.keeps x.toInCall.keep,codeAny_func ?_⟩;obtain ⟨t,ht,hq⟩:=hbody A outer s H vs Q E (hr.deeper _) hsp;have I:Inv (cxOf CX P w K mg base N qual scope f cdv A outer s H E) [] (start N vs) H s1:=qt S hr.hd e0 hl r x htk;refine wpAny_mono (ht [] s1 (start N vs) H _ I hq) (fun fl s' hs=>?_) fun e s' hs=>hs
 have fin:∀ {σ':St} {H':Hp} {v:V} {u:Value},Inv (cxOf CX P w K mg base N qual scope f cdv A outer s H E) [] σ' H' s'->RelV v u->Q v H'->CE outer P w H s Q u s':=
  fun {σ' H' v u} J rv q=>⟨v,H',J.tk,J.os,J.bare,J.base,J.hok,rv,q⟩
 cases fl with
 | ret u=>
  obtain ⟨v,σ',H',J,rv,q⟩:=hs;exact fin J rv q
 | next=>
  obtain ⟨σ',H',J,q⟩:=hs;exact fin (v:=V.non) (u:=Value.none) J rfl q
 | brk=>
  obtain ⟨_,_,_,q⟩:=hs;exact False.elim q
 | cont=>
  obtain ⟨_,_,_,q⟩:=hs;exact False.elim q
section
variable {X:Cx} {x:Str} {p pos:Pos} {e:Expr} {es:List Expr} {t:TA} {id T:String} {r:List V->Hp->VK->Prop}
noncomputable def tCB (r:List V->Hp->VK->Prop) (t:TA):TE:=fun σ H Q=>t σ H fun vs H1=>r vs H1 Q
theorem aE (hc:CallR X (.builtin id) r) (hg:Gl X x) (hm:X.mg x=none) (hv:bootBuiltins x=some (.builtin id)) (ha:PA X (e::es) t) (hn:x ≠ "__name__" := by decide) (hdb:(x == ("__debug__" : Str))=false:=by decide)
  (he:starEach (e::es) X.env=(false,eval e X.env)::starEach es X.env:=by rfl) (hpl:(backTo pos (starEach es X.env)).any (·.1)=false:=by rfl):PE X (.Call (.Name x p) (e::es) [] pos) (tCB r t):=by
 intro pins s σ H Q I h;refine wpAny_Call_Name_kw (fq I hg hm hv ?_ hn hdb);exact PyProof.Rows.callWith_builtin1 (thn (ha pos pins s σ H _ I h) fun us s1 ⟨vs,H1,I1,r1,q1⟩=>hc pins s1 σ H1 vs us Q I1 r1 q1) he hpl
theorem bO (hc:CallR X (.type T) r) (hg:Gl X x) (hm:X.mg x=none) (hv:bootBuiltins x=some (.type T)) (ha:PA X (e::es) t) (hn:x ≠ "__name__" := by decide) (hdb:(x == ("__debug__" : Str))=false:=by decide)
  (he:starEach (e::es) X.env=(false,eval e X.env)::starEach es X.env:=by rfl) (hpl:(backTo pos (starEach es X.env)).any (·.1)=false:=by rfl):PE X (.Call (.Name x p) (e::es) [] pos) (tCB r t):=by
 intro pins s σ H Q I h;refine wpAny_Call_Name_kw (fq I hg hm hv ?_ hn hdb);exact PyProof.Rows.callWith_type1 (thn (ha pos pins s σ H _ I h) fun us s1 ⟨vs,H1,I1,r1,q1⟩=>hc pins s1 σ H1 vs us Q I1 r1 q1) he hpl
end
end L2
namespace HT
open PySem PyProof.Rows
section
open PySem.SeqAt
open PySem.AutoSeq1 (wpAny_loadPart')
open PySem.MeetsSeq PySem.MeetsSeq2 PySem.MeetsSeq3
end
section
variable {prog:Program} {w:World} {A:Around} {E:Value->Shared->Prop} {s:Shared}
theorem cat_tup {t b:Addr} {vs ws:List Value} {Q:Value->Shared->Prop} (ht:IsTup s.heap t vs.toArray) (hb:IsTup s.heap b ws.toArray) (hv:vs≠[])
  (h1:ws=[]->Q (.ref t) s) (h2:ws≠[]->Q (.ref s.heap.objs.size) { s with heap:=s.heap.push { cls:=.type "tuple",data:=.seq (vs++ws).toArray } })
  (hsz:vs.length+ws.length<=sizeLine):wpAny (model prog w) A (binaryOp .Add (.ref t) (.ref b)) Q E s:=by
 obtain ⟨⟨cls,dd,data,sl⟩,ho,hc,n,hd⟩:=id ht;obtain ⟨⟨cls2,dd2,data2,sl2⟩,ho2,hc2,n2,hd2⟩:=id hb;simp only at hc hd hc2 hd2;subst hc hd hc2 hd2;have e:vs.toArray++ws.toArray=(vs++ws).toArray:=by simp
 by_cases hw:ws=[]
 ·exact concat_meets ⟨_,ho,rfl⟩ ⟨_,ho2,rfl⟩ noFill_tuple_add seq_tuple_add PySem.F.slot_tuple_add PySem.F.entry_tuple_add (PySem.F.args_tuple_add_2 _ _)
   (tuple_addW1 t b vs.toArray ws.toArray n n2 dd dd2 sl sl2 (by simpa using hv) (by simp [hw])) ⟨ho,ho2,h1 hw⟩
 ·refine concat_meets ⟨_,ho,rfl⟩ ⟨_,ho2,rfl⟩ noFill_tuple_add seq_tuple_add PySem.F.slot_tuple_add PySem.F.entry_tuple_add (PySem.F.args_tuple_add_2 _ _)
   (tuple_addW2 t b vs.toArray ws.toArray n n2 dd dd2 sl sl2 (by simpa using hv) (by simpa using hw) (by rw [List.size_toArray,List.size_toArray]; exact hsz)) ⟨ho,ho2,?_⟩
  rw [e];exact h2 hw
noncomputable def sIx (n d:Nat):Option Int->Nat
 | none=>d
 | some v=>if v < 0 then (v+(n:Int)).toNat else min v.toNat n
theorem sIx_none (n d:Nat):sIx n d none=d:=rfl
theorem sIx_nat (n d k:Nat):sIx n d (some (k:Int))=min k n:=by
 show (if (k:Int) < 0 then ((k:Int)+(n:Int)).toNat else min (k:Int).toNat n)=min k n;rw [if_neg (by omega),Int.toNat_natCast]
end
end HT
namespace L2
open PySem PySem.Spec PyProof.Rows
noncomputable abbrev TO:=St->Hp->(Option Int->Hp->Prop)->Prop
def PO (X:Cx) (e:Option Expr) (t:TO):Prop:=
 ∀ (pins:List (Addr × Obj)) (s:Shared) (σ:St) (H:Hp) (Q:Option Int->Hp->Prop),Inv X pins σ H s->t σ H Q ->
  wpAny (model X.prog X.w) X.A (evalPart e X.env) (fun u s'=>∃ o H',Inv X pins σ H' s'/\IsPart u o/\Q o H') X.xe s
noncomputable def tNoPart:TO:=fun _ H Q=>Q none H
noncomputable def tPart (t:TE):TO:=fun σ H Q=>t σ H fun x H1=>∃ i,x=.int i/\Q (some i) H1
theorem oI {ns:List Int}:∀ {us:List Value},Vals (ns.map V.int) us->IntsAre us ns:=by
 induction ns with
 | nil=>intro us r; rw [List.map_nil] at r; cases r; exact .nil
 | cons n ns ih=>
  intro us r;rw [List.map_cons] at r;cases r with
  | cons r1 r2=>
   obtain ⟨t,e⟩:=r1;subst e;exact .cons n t (ih r2)
section
variable {X:Cx} {e:Expr} {te:TE} {lo hi:Option Expr} {tl th:TO} {pos p2:Pos}
theorem cp:PO X none tNoPart:=by
 intro pins s σ H Q I h;rw [evalPart_none];exact wpAny_pure ⟨none,H,I,.none,h⟩
theorem uA (h:PE X e te):PO X (some e) (tPart te):=by
 intro pins s σ H Q I hw;rw [evalPart_some];refine thn (h pins s σ H _ I hw) fun u s1 ⟨x,H1,I1,r1,q1⟩=>?_
 obtain ⟨i,rfl,q⟩:=q1;obtain ⟨t,rfl⟩:=r1;exact ⟨some i,H1,I1,.int i t,q⟩
def SlR (X:Cx) (r:V->Option Int->Option Int->Hp->VK->Prop):Prop:=
 ∀ (pins:List (Addr × Obj)) (s:Shared) (σ:St) (H:Hp) (x:V) (v vl vu:Value) (lo hi:Option Int) (sl:Addr) (Q:VK),Inv X pins σ H s->RelV x v->s.heap.IsSliceOf sl vl vu .none->IsPart vl lo->IsPart vu hi->r x lo hi H Q ->
  ∃ T id,typeLookup (.type T) "__getitem__" = pure (some (.builtin id))/\s.TypeIs v T/\wpAny (model X.prog X.w) X.A (getItem v (.ref sl)) (EP X pins σ Q) X.xe s
theorem SlR.or {r r':V->Option Int->Option Int->Hp->VK->Prop} (h:SlR X r) (h':SlR X r'):SlR X (fun x lo hi H Q=>r x lo hi H Q\/r' x lo hi H Q):=by
 intro pins s σ H x v vl vu lo hi sl Q I rx hs pl pu q;rcases q with q | q
 ·exact h pins s σ H x v vl vu lo hi sl Q I rx hs pl pu q
 ·exact h' pins s σ H x v vl vu lo hi sl Q I rx hs pl pu q
noncomputable def tSl (r:V->Option Int->Option Int->Hp->VK->Prop) (te:TE) (tl th:TO):TE:=fun σ H Q=>te σ H fun x H1=>tl σ H1 fun l H2=>th σ H2 fun u H3=>r x l u H3 Q
theorem bp {r:V->Option Int->Option Int->Hp->VK->Prop} (hr:SlR X r) (he:PE X e te) (hl:PO X lo tl) (hu:PO X hi th):PE X (.Subscript e (.Slice lo hi none p2) pos) (tSl r te tl th):=by
 intro pins s σ H Q I h;refine Subscript_ (thn (he pins s σ H _ I h) fun v s1 ⟨x,H1,I1,r1,q1⟩=>?_);refine wpAny_Slice (thn (hl pins s1 σ H1 _ I1 q1) fun vl s2 ⟨l,H2,I2,pl,q2⟩=>thn (hu pins s2 σ H2 _ I2 q2) fun vu s3 ⟨u,H3,I3,pu,q3⟩=>?_);rw [evalPart_none];refine wpAny_pure ?_;have I4:Inv X pins σ H3 { s3 with heap:=s3.heap.push { cls:=.type "slice",data:=.fields #[vl,vu,.none] } }:=I3.kept (t':=s3.toks) fun b ob q=>Heap.get?_push_of_some _ q
 obtain ⟨T,id,hT,ht,hg⟩:=hr pins { s3 with heap:=s3.heap.push { cls:=.type "slice",data:=.fields #[vl,vu,.none] } } σ H3 x v vl vu l u s3.heap.objs.size Q I4 r1 (Heap.IsSliceOf.new ..) pl pu q3;show wpAny (model X.prog X.w) X.A (subscriptTail e (.Slice lo hi none p2) v (.ref s3.heap.objs.size)) (EP X pins σ Q) X.xe { s3 with heap:=s3.heap.push { cls:=.type "slice",data:=.fields #[vl,vu,.none] } };exact tail_any (ops:=[.ref s3.heap.objs.size,v]) ht hT hg (by with_unfolding_all rfl)
noncomputable def cutV (xs:List V) (lo hi:Option Int):List V:=(xs.drop (HT.sIx xs.length 0 lo)).take (HT.sIx xs.length xs.length hi - HT.sIx xs.length 0 lo)
theorem mF (xs:List V) (lo hi:Option Int):(cutV xs lo hi).length<=xs.length:=by
 unfold cutV;rw [List.length_take,List.length_drop];omega
noncomputable def rCatT (K:Frag):R2:=fun x y H Q=>∃ a b xs ys,x=.ref a/\y=.ref b/\SqT K H a xs/\SqT K H b ys/\xs≠[]/\xs.length+ys.length<=sizeLine /\
 (ys=[]->Q (.ref a) H)/\(ys≠[]->∀ p,H p=none->Q (.ref p) (upd H p (.tup (xs++ys))))
theorem Vals.nil_iff {xs:List V} {us:List Value} (r:Vals xs us):us=[] ↔ xs=[]:=by
 cases r with
 | nil=>simp
 | cons _ _=>simp
theorem tZ:OpR X (binaryOp .Add) (rCatT X.K):=by
 intro pins s σ H x y v u Q I rx ry h;obtain ⟨a,b,xs,ys,rfl,rfl,ha,hb,hx,hz,q1,q2⟩:=h;cases rx;cases ry;obtain ⟨its,r1,p1,_⟩:=I.tuple ha;obtain ⟨its2,r2,p2,_⟩:=I.tuple hb;refine HT.cat_tup p1 p2 (fun z=>hx (r1.nil_iff.mp z)) (fun z=>⟨.ref a,H,I,rfl,q1 (r2.nil_iff.mp z)⟩) (fun z=>?_) (by rw [<- r1.length,<- r2.length]; exact hz);refine ⟨.ref s.heap.objs.size,_,I.laid (t':=s.toks) (o:=.tup (xs++ys)) (fun b ob q=>Heap.get?_push_of_some _ q) (Nat.le_refl _) ?_,rfl,q2 (fun w=>z (r2.nil_iff.mpr w)) _ (I.hok.fresh (Nat.le_refl _))⟩;exact ⟨by rw [List.length_append]; exact hz,_,r1.append r2,IsTup.new _ _⟩
end
noncomputable def ixN (n:Nat) (i:Int):Option Nat:=if 0<=i then (if i < n then some i.toNat else none) else if -(n:Int)<=i then some (i+n).toNat else none
noncomputable def atI {α:Type} (xs:List α) (i:Int):Option α:=(ixN xs.length i).bind fun j=>xs[j]?
theorem pq {n:Nat} {i:Int} {j:Nat} (h:ixN n i=some j):seqIndex? i n=some j/\j < n /\ -(n:Int)<=i/\i < n:=by
 unfold ixN at h;by_cases h0:0<=i
 ·rw [if_pos h0] at h;by_cases h1:i < n
  ·rw [if_pos h1] at h;have e:i.toNat=j:=Option.some.inj h;exact ⟨by rw [seqIndex_of h0 h1,e],by omega,by omega,h1⟩
  ·rw [if_neg h1] at h; cases h
 ·rw [if_neg h0] at h;by_cases h1:-(n:Int)<=i
  ·rw [if_pos h1] at h;have e:(i+n).toNat=j:=Option.some.inj h;exact ⟨by rw [seqIndex_neg (by omega) h1,e],by omega,h1,by omega⟩
  ·rw [if_neg h1] at h; cases h
theorem lG {α:Type} {xs:List α} {i:Int} {v:α} (h:atI xs i=some v):∃ j,seqIndex? i xs.length=some j/\xs[j]? = some v/\j < xs.length /\ -(xs.length:Int)<=i/\i < xs.length:=by
 unfold atI at h;cases e:ixN xs.length i with
 | none=>rw [e] at h; cases h
 | some j=>
  rw [e] at h;obtain ⟨h1,h2,h3,h4⟩:=pq e;exact ⟨j,h1,h,h2,h3,h4⟩
theorem bo {α:Type} {xs:List α} {j:Nat} {v:α} (h:xs[j]? = some v):atI xs (j:Int)=some v:=by
 have hj:j < xs.length:=(List.getElem?_eq_some_iff.mp h).1;have e:ixN xs.length (j:Int)=some j:=by
  unfold ixN;rw [if_pos (by omega),if_pos (by omega)]; simp
 unfold atI; rw [e]; exact h
def PlainIx (b:Expr):Prop:=∀ o i,subscripted b false o i=operate [o,i] (getItem o i)
def IxR (X:Cx) (r:R2):Prop:=
 ∀ (value slice:Expr) (pins:List (Addr × Obj)) (s:Shared) (σ:St) (H:Hp) (x y:V) (v u:Value) (Q:VK),Inv X pins σ H s->RelV x v->RelV y u->r x y H Q ->
  subscripted slice false v u=operate [v,u] (getItem v u)->wpAny (model X.prog X.w) X.A (subscriptTail value slice v u) (EP X pins σ Q) X.xe s
def MtR (X:Cx) (id:String) (r:V->List V->Hp->VK->Prop):Prop:=
 ∀ (pins:List (Addr × Obj)) (s:Shared) (σ:St) (H:Hp) (x:V) (xs:List V) (v:Value) (us:List Value) (Q:VK),Inv X pins σ H s->RelV x v->Vals xs us->r x xs H Q ->
  wpAny (model X.prog X.w) X.A (call (.builtin id) (v::us)) (EP X pins σ Q) X.xe s
section
variable {X:Cx} {a b:Expr} {ta tb:TE} {pos:Pos}
theorem IxR.or {r r':R2} (h:IxR X r) (h':IxR X r'):IxR X (fun x y H Q=>r x y H Q\/r' x y H Q):=by
 intro value slice pins s σ H x y v u Q I rx ry q hs;rcases q with q | q
 ·exact h value slice pins s σ H x y v u Q I rx ry q hs
 ·exact h' value slice pins s σ H x y v u Q I rx ry q hs
theorem ak {r:R2} (hr:IxR X r) (ha:PE X a ta) (hb:PE X b tb) (hs:PlainIx b):PE X (.Subscript a b pos) (tOp r ta tb):=by
 intro pins s σ H Q I h;exact Subscript_ (binT ha hb I h fun v u s2 x y H2 I2 rx ry q=>hr a b pins s2 σ H2 x y v u Q I2 rx ry q (hs _ _))
noncomputable def rIxL (K:Frag):R2:=fun x y H Q=>∃ p xs i v,x=.ref p/\y=.int i/\SqL K H p xs/\atI xs i=some v/\Q v H
noncomputable def rIxT (K:Frag):R2:=fun x y H Q=>∃ p xs i v,x=.ref p/\y=.int i/\SqT K H p xs/\atI xs i=some v/\Q v H
noncomputable def rIxS:R2:=fun x y H Q=>∃ z i c,x=.str z/\y=.int i/\z.length<=sizeLine/\atI z.cps.toList i=some c/\Q (.str ⟨#[c]⟩) H
theorem ud:IxR X (rIxL X.K):=by
 intro value slice pins s σ H x y v u Q I rx ry h hs;obtain ⟨p,xs,i,z,rfl,rfl,hq,he,q⟩:=h;cases rx;obtain ⟨t,rfl⟩:=ry;obtain ⟨its,r,pl,hz⟩:=I.list hq;obtain ⟨j,h1,h2,h3,h4,h5⟩:=lG he;obtain ⟨w,ew,rw'⟩:=r.get h2;have hl:=r.length;have hn:=line63;have fin:EP X pins σ Q w s:=⟨z,H,I,rw',q⟩;by_cases h0:0<=i
 ·have hj:i.toNat=j:=by
   rw [seqIndex_of h0 h5] at h1;exact Option.some.inj h1
  exact item_listR pl.isList h0 (by omega) (by rw [hj]; simpa using ew) fin hs
 ·have hj:(i+(its.toArray.size:Int)).toNat=j:=by
   rw [seqIndex_neg (by omega) h4] at h1;rw [List.size_toArray,<- hl];exact Option.some.inj h1
  exact subscriptTail_builtinR (x:=w) pl.isList.typeIs slot_list_getitem.lookup
   (wpAny_getItem_list_neg (Q:=fun r s'=>r=w/\EP X pins σ Q r s') pl.isList (by omega) (by rw [List.size_toArray] <;> omega) (by omega) (by rw [hj]; simpa using ew) ⟨rfl,fin⟩) hs
theorem wl:IxR X (rIxT X.K):=by
 intro value slice pins s σ H x y v u Q I rx ry h hs;obtain ⟨p,xs,i,z,rfl,rfl,hq,he,q⟩:=h;cases rx;obtain ⟨t,rfl⟩:=ry;obtain ⟨its,r,pl,hz⟩:=I.tuple hq;obtain ⟨j,h1,h2,h3,h4,h5⟩:=lG he;obtain ⟨w,ew,rw'⟩:=r.get h2;have hl:=r.length;have hn:=line63;have fin:EP X pins σ Q w s:=⟨z,H,I,rw',q⟩;exact subscriptTail_builtinR (x:=w) pl.typeIs slot_tuple_getitem.lookup
  (getItem_tuple (j:=j) (Q:=fun r s'=>r=w/\EP X pins σ Q r s') pl (by omega) (by omega) (by rw [List.size_toArray,<- hl]; exact h1) (by simpa using ew) ⟨rfl,fin⟩) hs
theorem we:IxR X rIxS:=by
 intro value slice pins s σ H x y v u Q I rx ry h hs;obtain ⟨z,i,c,rfl,rfl,hz,he,q⟩:=h;obtain ⟨t,rfl⟩:=rx;obtain ⟨t',rfl⟩:=ry;obtain ⟨j,h1,h2,h3,h4,h5⟩:=lG he;have hl:z.cps.toList.length=z.length:=by simp [Str.length]
 rw [hl] at h1 h4 h5;have hn:=line63;exact tail_any (typeIs_str s z t) slot_str_getitem.lookup (getItem_str (c:=c) (by
  have e1:decide (i < -(2 ^ 63:Int))=false:=decide_eq_false (by omega);have e2:decide (i >= 2 ^ 63)=false:=decide_eq_false (by omega);rw [e1,e2,Bool.or_false]) (by rw [h1]; simpa using h2) ⟨.str ⟨#[c]⟩,H,I.tok _,⟨_,rfl⟩,q⟩) hs
noncomputable def rIx (K:Frag):R2:=fun x y H Q=>rIxL K x y H Q\/rIxT K x y H Q\/rIxS x y H Q
theorem wG:IxR X (rIx X.K):=ud.or (wl.or we)
theorem nX (its:List Value) (n j:Nat) (u:Value):Obj.mapSeq (·.setIfInBounds j u) { cls:=.type "list",data:=.seq its.toArray n }={ cls:=.type "list",data:=.seq (its.set j u).toArray n }:=by
 simp [Obj.mapSeq]
theorem Inv.lst {pins:List (Addr × Obj)} {σ:St} {H:Hp} {s:Shared} {p:Addr} {xs:List V} (I:Inv X pins σ H s) (h:H p=some (.lst xs)):
  ∃ (its:List Value) (n:Nat),Vals xs its/\s.heap.get? p=some { cls:=.type "list",data:=.seq its.toArray n }/\xs.length<=sizeLine:=by
 obtain ⟨z,its,n,r,e⟩:=I.hok p _ h;exact ⟨its,n,r,e,z⟩
theorem Inv.lstUpd {pins:List (Addr × Obj)} {σ:St} {H:Hp} {s:Shared} {p:Addr} {xs ys:List V} {its its':List Value} {n n':Nat} {f:Obj->Obj} (I:Inv X pins σ H s) (h:H p=some (.lst xs))
  (ho:s.heap.get? p=some { cls:=.type "list",data:=.seq its.toArray n }) (hf:f { cls:=.type "list",data:=.seq its.toArray n }={ cls:=.type "list",data:=.seq its'.toArray n' }) (r:Vals ys its') (hz:ys.length<=sizeLine) (t:Nat) (ht:0 < t:=by first | assumption | exact Nat.succ_pos _ | (apply Inv.tk; assumption) | omega):
  Inv X pins σ (upd H p (.lst ys)) { s with heap:=s.heap.update p f,toks:=t }:=by
 have e:(s.heap.update p f).get? p=some { cls:=.type "list",data:=.seq its'.toArray n' }:=by
  rw [Heap.get?_update_self f ho (by rw [hf] <;> rfl),hf]
 refine I.write (x:=p) (e:=p) (by rw [h]; trivial) (.inl rfl) (fun b u hb q=>(Heap.get?_update_other _ _ (Ne.symm hb)).trans q) ⟨_,e⟩ ?_;exact ⟨hz,its',n',r,e⟩
noncomputable def rSetL:V->V->V->Hp->(Hp->Prop)->Prop:=fun o i v H Q=>∃ p xs k j,o=.ref p/\i=.int k/\H p=some (.lst xs)/\ixN xs.length k=some j/\Q (upd H p (.lst (xs.set j v)))
theorem sG:PSet X rSetL:=by
 intro pins s σ H o i v ov iv u Q I ro ri rv h;obtain ⟨p,xs,k,j,rfl,rfl,hp,hj,q⟩:=h;cases ro;obtain ⟨t,rfl⟩:=ri;obtain ⟨its,n,r,ho,hz⟩:=I.lst hp;obtain ⟨h1,h2,h3,h4⟩:=pq hj;have hl:=r.length;have hn:=line63;have I':Inv X pins σ (upd H p (.lst (xs.set j v))) { s with heap:=s.heap.update p (Obj.mapSeq (·.setIfInBounds j u)) }:=
  I.lstUpd hp ho (nX its n j u) (r.set rv j) (by rw [List.length_set]; exact hz) s.toks
 by_cases h0:0<=k
 ·have hk:k.toNat=j:=by
   rw [seqIndex_of h0 h4] at h1;exact Option.some.inj h1
  exact PySem.W.ki_setAt ho h0 (by omega) (by rw [List.size_toArray,<- hl]; exact h4) (by rw [hk]; exact ⟨_,I',q⟩)
 ·have hk:(k+(its.toArray.size:Int)).toNat=j:=by
   rw [seqIndex_neg (by omega) h3] at h1;rw [List.size_toArray,<- hl];exact Option.some.inj h1
  exact PySem.W.ki_setBack ho (by omega) (by rw [List.size_toArray,<- hl]; exact h3) (by omega) (by rw [hk]; exact ⟨_,I',q⟩)
theorem mf (lo hi:Option Int) (n:Nat):(sliceBounds lo hi none n).1=((HT.sIx n 0 lo:Nat):Int)/\(sliceBounds lo hi none n).2.1=((HT.sIx n n hi:Nat):Int)/\(sliceBounds lo hi none n).2.2=1:=by
 refine ⟨?_,?_,rfl⟩
 ·cases lo with
  | none=>simp [sliceBounds,HT.sIx]
  | some i=>
   simp only [sliceBounds,HT.sIx,Option.getD_none,show (1:Int) > 0 by decide,if_true];by_cases h:i < 0
   ·simp only [h,if_true] <;> omega
   ·simp only [h,if_false] <;> omega
 ·cases hi with
  | none=>simp [sliceBounds,HT.sIx]
  | some i=>
   simp only [sliceBounds,HT.sIx,Option.getD_none,show (1:Int) > 0 by decide,if_true];by_cases h:i < 0
   ·simp only [h,if_true] <;> omega
   ·simp only [h,if_false] <;> omega
theorem kb (its:List Value) (lo hi:Option Int):slicePick its.toArray lo hi none=((its.drop (HT.sIx its.length 0 lo)).take (HT.sIx its.length its.length hi - HT.sIx its.length 0 lo)).toArray:=by
 obtain ⟨h1,h2,h3⟩:=mf lo hi its.toArray.size;unfold slicePick;rw [h1,h2,h3];simp only [sliceRange_one,pick_run,List.size_toArray] <;> rfl
noncomputable def rSlL (K:Frag):V->Option Int->Option Int->Hp->VK->Prop:=fun x lo hi H Q=>∃ a xs,x=.ref a/\SqL K H a xs/\∀ p,H p=none->Q (.ref p) (upd H p (.lst (cutV xs lo hi)))
theorem tD:SlR X (rSlL X.K):=by
 intro pins s σ H x v vl vu lo hi sl Q I rx hs pl pu h;obtain ⟨a,xs,rfl,hx,q⟩:=h;cases rx;obtain ⟨its,r,ht,hz⟩:=I.list hx;have hlen:=r.length;refine ⟨"list",_,slot_list_getitem.lookup,ht.isList.typeIs,?_⟩;refine wpAny_getItem_list_slice ht.isList hs pl pu .none (by simp) ?_ (by rw [List.size_toArray] <;> omega);rw [kb,<- hlen];refine ⟨.ref s.heap.objs.size,_,I.laid (t':=s.toks) (o:=.lst (cutV xs lo hi)) (fun b ob q=>Heap.get?_push_of_some _ q) (Nat.le_refl _) ?_,rfl,q _ (I.hok.fresh (Nat.le_refl _))⟩;exact ⟨Nat.le_trans (mF xs lo hi) hz,_,0,(r.drop (HT.sIx xs.length 0 lo)).take (HT.sIx xs.length xs.length hi - HT.sIx xs.length 0 lo),Heap.get?_push_size _ rfl⟩
noncomputable def flatV:V->Bool
 | .non=>true
 | .bl _=>true
 | .int _=>true
 | .str _=>true
 | _=>false
noncomputable def eqV:V->V->Bool
 | .non,.non=>true
 | .bl a,.bl b=>a == b
 | .bl a,.int b=>(if a then 1 else 0) == b
 | .int a,.bl b=>a == (if b then 1 else 0)
 | .int a,.int b=>a == b
 | .str a,.str b=>a == b
 | _,_=>false
theorem oi {A:Around} {s:Shared} {y x:V} {u v:Value} (ry:RelV y u) (rx:RelV x v) (fy:flatV y=true) (fx:flatV x=true):SeqAt.EqAt A s u v (eqV y x):=by
 cases y with
 | non=>
  cases ry;cases x with
  | non=>cases rx; exact SeqAt.EqAt.same _
  | bl b=>cases rx; exact SeqAt.EqAt.none_bool b
  | int b=>obtain ⟨t,rfl⟩:=rx; exact SeqAt.EqAt.none_int b t
  | str b=>obtain ⟨t,rfl⟩:=rx; exact SeqAt.EqAt.none_str b t
  | _=>exact absurd (show false=true from fx) Bool.false_ne_true
 | bl a=>
  cases ry;cases x with
  | non=>cases rx; exact SeqAt.EqAt.bool_none a
  | bl b=>cases rx; exact SeqAt.EqAt.bool_bool a b
  | int b=>obtain ⟨t,rfl⟩:=rx; exact SeqAt.EqAt.bool_int a b t
  | str b=>obtain ⟨t,rfl⟩:=rx; exact SeqAt.EqAt.bool_str a b t
  | _=>exact absurd (show false=true from fx) Bool.false_ne_true
 | int a=>
  obtain ⟨t',rfl⟩:=ry;cases x with
  | non=>cases rx; exact SeqAt.EqAt.int_none a t'
  | bl b=>cases rx; exact SeqAt.EqAt.int_bool a t' b
  | int b=>obtain ⟨t,rfl⟩:=rx; exact SeqAt.EqAt.int_int a t' b t
  | str b=>obtain ⟨t,rfl⟩:=rx; exact SeqAt.EqAt.int_str a t' b t
  | _=>exact absurd (show false=true from fx) Bool.false_ne_true
 | str a=>
  obtain ⟨t',rfl⟩:=ry;cases x with
  | non=>cases rx; exact SeqAt.EqAt.str_none a t'
  | bl b=>cases rx; exact SeqAt.EqAt.str_bool a t' b
  | int b=>obtain ⟨t,rfl⟩:=rx; exact SeqAt.EqAt.str_int a t' b t
  | str b=>obtain ⟨t,rfl⟩:=rx; exact SeqAt.EqAt.str_str a t' b t
  | _=>exact absurd (show false=true from fx) Bool.false_ne_true
 | _=>exact absurd (show false=true from fy) Bool.false_ne_true
noncomputable def eqU (x:V) (u:Value):Bool:=match u with
 | .none=>eqV .non x
 | .bool b=>eqV (.bl b) x
 | .int i _=>eqV (.int i) x
 | .str z _=>eqV (.str z) x
 | _=>false
theorem rE {x y:V} {u:Value} (r:RelV y u) (f:flatV y=true):eqU x u=eqV y x:=by
 cases y with
 | non=>cases r; rfl
 | bl b=>cases r; rfl
 | int i=>obtain ⟨t,rfl⟩:=r; rfl
 | str z=>obtain ⟨t,rfl⟩:=r; rfl
 | _=>exact absurd (show false=true from f) Bool.false_ne_true
theorem lY {x:V}:∀ {xs:List V} {us:List Value},Vals xs us->xs.all flatV=true->us.any (eqU x)=xs.any fun y=>eqV y x
 | _,_,.nil,_=>rfl
 | y::xs,u::us,.cons r t,f=>by
  rw [List.all_cons,Bool.and_eq_true] at f;rw [List.any_cons,List.any_cons,rE r f.1,lY t f.2]
theorem jg {A:Around} {s:Shared} {x:V} {v:Value} (rx:RelV x v) (fx:flatV x=true):∀ {xs:List V} {us:List Value},Vals xs us->xs.all flatV=true->∀ u ∈ us,SeqAt.EqAt A s u v (eqU x u)
 | _,_,.nil,_=>fun u hu=>by cases hu
 | y::xs,u::us,.cons r t,f=>fun u' hu=>by
  rw [List.all_cons,Bool.and_eq_true] at f;rcases List.mem_cons.mp hu with rfl | hu
  ·rw [rE r f.1]; exact oi r rx f.1 fx
  ·exact jg rx fx t f.2 u' hu
noncomputable def inV (x:V) (xs:List V):Bool:=xs.any fun y=>eqV y x
noncomputable def rIn (K:Frag) (neg:Bool):R2:=fun x y H Q=>∃ p xs,y=.ref p/\(SqL K H p xs\/SqT K H p xs)/\flatV x=true/\xs.all flatV=true/\Q (.bl (if neg then !inV x xs else inV x xs)) H
theorem lA:OpR X (compareOp .NotIn) (rIn X.K true):=by
 intro pins s σ H x y v u Q I rx ry h;obtain ⟨p,xs,rfl,hq,fx,fs,q⟩:=h;cases ry;rcases hq with hq | hq
 ·obtain ⟨its,r,pl,hz⟩:=I.list hq;refine SeqAt.notIn_listAt (eqU x) pl.isList (fun w hw=>jg rx fx r fs w (by simpa using hw)) ⟨.bl _,H,I,rfl,?_⟩;rw [show its.toArray.any (eqU x)=its.any (eqU x) by simp,lY r fs];exact q
 ·obtain ⟨its,r,pl,hz⟩:=I.tuple hq;refine SeqAt.notIn_tupleAt (eqU x) pl (fun w hw=>jg rx fx r fs w (by simpa using hw)) ⟨.bl _,H,I,rfl,?_⟩;rw [show its.toArray.any (eqU x)=its.any (eqU x) by simp,lY r fs];exact q
theorem lR:CallR X (.builtin "len") (fun xs H Q=>∃ p ys,xs=[.ref p]/\(SqL X.K H p ys\/SqT X.K H p ys)/\Q (.int ys.length) H):=by
 intro pins s σ H xs us Q I r h;obtain ⟨p,ys,rfl,hq,q⟩:=h;obtain ⟨u,rfl,rx⟩:=vals1 r;cases rx;have hn:=line63;rcases hq with hq | hq
 ·obtain ⟨its,r',pl,hz⟩:=I.list hq;have hlen:=r'.length;exact Calls.call_len_list pl.isList (by simp only [List.size_toArray] <;> omega) ⟨.int ys.length,H,I.tok _,⟨s.toks+1,by rw [List.size_toArray,hlen]⟩,q⟩
 ·obtain ⟨its,r',pl,hz⟩:=I.tuple hq;have hlen:=r'.length;exact len_tuple pl (by simp only [List.size_toArray] <;> omega) ⟨.int ys.length,H,I.tok _,⟨s.toks+1,by rw [List.size_toArray,hlen]⟩,q⟩
theorem lU:CallR X (.builtin "len") (fun xs H Q=>∃ z,xs=[.str z]/\z.length<=sizeLine/\Q (.int z.length) H):=by
 intro pins s σ H xs us Q I r h;obtain ⟨z,rfl,hz,q⟩:=h;obtain ⟨u,rfl,t,rfl⟩:=vals1 r;have hn:=line63;exact len_str (by omega) ⟨.int z.length,H,I.tok _,⟨_,rfl⟩,q⟩
theorem mt:CallR X (.type "list") (fun xs H Q=>∃ p ys,xs=[.ref p]/\(SqL X.K H p ys\/SqT X.K H p ys)/\∀ l,H l=none->Q (.ref l) (upd H l (.lst ys))):=by
 intro pins s σ H xs us Q I r h;obtain ⟨p,ys,rfl,hq,q⟩:=h;obtain ⟨u,rfl,rx⟩:=vals1 r;cases rx;have fin:∀ (its:List Value),Vals ys its->ys.length<=sizeLine->∀ (h':Heap) (c':Nat),(∀ b o',s.heap.get? b=some o'->h'.get? b=some o') ->
   h'.get? s.heap.objs.size=some { cls:=.type "list",dict:=none,data:=.seq its.toArray c',slots:=#[] }->EP X pins σ Q (.ref s.heap.objs.size) { s with heap:=h' }:=fun its r' hz h' c' kp e=>
  ⟨.ref s.heap.objs.size,_,I.laid (t':=s.toks) kp (Nat.le_refl _) (show ObjOk X.prog X.w _ h' _ (.lst ys) from ⟨hz,its,c',r',e⟩),rfl,q _ (I.hok.fresh (Nat.le_refl _))⟩
 rcases hq with hq | hq
 ·obtain ⟨its,r',pl,hz⟩:=I.list hq;have hlen:=r'.length;obtain ⟨o,ho,hc,n,hd⟩:=pl.isList;exact call_list_seq p (.inl rfl) ho hc hd (fun h' c' kp e=>fin its r' hz h' c' kp e) (by simp only [List.size_toArray] <;> omega)
 ·obtain ⟨its,r',pl,hz⟩:=I.tuple hq;have hlen:=r'.length;obtain ⟨o,ho,hc,n,hd⟩:=pl;exact call_list_seq p (.inr rfl) ho hc hd (fun h' c' kp e=>fin its r' hz h' c' kp e) (by simp only [List.size_toArray] <;> omega)
theorem ky:CallR X (.type "tuple") (fun xs H Q=>∃ p ys,xs=[.ref p]/\((SqL X.K H p ys/\∀ l,H l=none->Q (.ref l) (upd H l (.tup ys)))\/(SqT X.K H p ys/\Q (.ref p) H))):=by
 intro pins s σ H xs us Q I r h;obtain ⟨p,ys,rfl,h⟩:=h;obtain ⟨u,rfl,rx⟩:=vals1 r;cases rx;rcases h with ⟨hq,q⟩ | ⟨hq,q⟩
 ·obtain ⟨its,r',pl,hz⟩:=I.list hq;have hlen:=r'.length;refine call_tuple_list pl.isList (fun h' kp=>?_) (by simp only [List.size_toArray] <;> omega);have I1:Inv X pins σ H { s with heap:=h' }:=I.kept (t':=s.toks) kp;have I2:Inv X pins σ (upd H h'.objs.size (.tup ys)) { s with heap:=h'.push { cls:=.type "tuple",data:=.seq its.toArray } }:=
   I1.laid (t':=s.toks) (fun b o e=>Heap.get?_push_of_some _ e) (Nat.le_refl _) (show ObjOk X.prog X.w _ _ _ (.tup ys) from ⟨hz,its,r',IsTup.new _ _⟩)
  exact ⟨.ref h'.objs.size,_,I2,rfl,q _ (I1.hok.fresh (Nat.le_refl _))⟩
 ·obtain ⟨its,r',pl,hz⟩:=I.tuple hq;exact call_tuple_same pl ⟨.ref p,H,I,rfl,q⟩
def tyV (K:Frag) (T:String) (x:V) (H:Hp):Prop:=match x with
 | .str _=>T = "str"
 | .int _=>T = "int"
 | .ref p=>(T = "list" /\ ∃ xs,SqL K H p xs)\/(T = "tuple" /\ ∃ o,K.lookup p=some o/\o.cls=.type "tuple" /\ o.dict=none) \/
   (T = "dict" /\ ((∃ kvs,H p=some (.dK kvs))\/∃ kvs,H p=some (.dT kvs)))\/(T = "set" /\ ∃ S n,H p=some (.set S n))
 | _=>False
theorem vS {pins:List (Addr × Obj)} {σ:St} {H:Hp} {s:Shared} {T:String} {x:V} {v:Value} (I:Inv X pins σ H s) (r:RelV x v) (ty:tyV X.K T x H):
  s.TypeIs v T/\∀ a,v=.ref a->∃ ob,s.heap.get? a=some ob/\ob.dict=none:=by
 cases x with
 | str z=>
  obtain ⟨t,rfl⟩:=r;cases (show T = "str" from ty);exact ⟨typeIs_str s z t,fun _ e=>nomatch e⟩
 | int i=>
  obtain ⟨t,rfl⟩:=r;cases (show T = "int" from ty);exact ⟨typeIs_int s i t,fun _ e=>nomatch e⟩
 | ref p=>
  cases r;rcases ty with ⟨rfl,xs,hq⟩ | ⟨rfl,o,hk,hc,hd⟩ | ⟨rfl,hk⟩ | ⟨rfl,S,n,hk⟩
  ·obtain ⟨its,_,pl,_⟩:=I.list hq;refine ⟨pl.isList.typeIs,fun a e=>?_⟩;cases e;obtain ⟨o,n,e,c,hd,_⟩:=pl;exact ⟨o,e,hd⟩
  ·refine ⟨⟨o,I.kIn p o hk,hc⟩,fun a e=>?_⟩;cases e;exact ⟨o,I.kIn _ o hk,hd⟩
  ·have z:∃ o,s.heap.get? p=some o/\o.ExactDict:=by
    rcases hk with ⟨kvs,hk⟩ | ⟨kvs,hk⟩
    ·obtain ⟨_,_,_,_,o,_,_,e,ex,_⟩:=I.hok p _ hk;exact ⟨o,e,ex⟩
    ·obtain ⟨_,_,_,_,o,_,_,e,ex,_⟩:=I.hok p _ hk;exact ⟨o,e,ex⟩
   obtain ⟨o,e,ex⟩:=z;refine ⟨⟨o,e,ex.1⟩,fun a e2=>?_⟩;cases e2;exact ⟨o,e,ex.2.1⟩
  ·obtain ⟨o,_,_,_,e,ex,_⟩:=I.hok p _ hk;refine ⟨⟨o,e,ex.1⟩,fun a e2=>?_⟩;cases e2;exact ⟨o,e,ex.2.1⟩
 | _=>exact False.elim ty
noncomputable def tBM (K:Frag) (T:String) (r:V->List V->Hp->VK->Prop) (to:TE) (t:TA):TE:=fun σ H Q=>to σ H fun x H1=>tyV K T x H1/\t σ H1 fun xs H2=>r x xs H2 Q
variable {o e:Expr} {es:List Expr} {to:TE} {t:TA} {name:Str} {apos cpos:Pos} {T id:String} {r:V->List V->Hp->VK->Prop}
theorem lb (pa:PlainAttrs T) (slot:Slot T name id) (hty:typeOf (.builtin id)=pure (.type "method_descriptor")) (hm:MtR X id r) (ho:PE X o to) (ha:PA X (e::es) t)
  (hbase:attributeBase o name X.env (eval o X.env)=eval o X.env:=by rfl)
  (hfew:((backTo cpos (starEach (e::es) X.env)).all (fun x=>!x.1) && (backToKw cpos (keywordEach [] X.env)).all (fun x=>x.1.isSome)
   && decide ((e::es).length+([]:List Keyword).length+(if ([]:List Keyword).isEmpty then 0 else 1) < 30))=true:=by rfl)
  (hline:(apos.endLine == cpos.line)=true:=by rfl) (hs:starEach (e::es) X.env=(false,eval e X.env)::starEach es X.env:=by rfl) (hplain:(backTo cpos (starEach es X.env)).any (·.1)=false:=by rfl):
  PE X (.Call (.Attribute o name apos) (e::es) [] cpos) (tBM X.K T r to t):=by
 intro pins s σ H Q I h;refine wpAny_Call_method_late hbase hfew hline rfl (thn (ho pins s σ H _ I h) fun v s1 ⟨x,H1,I1,r1,ty,q1⟩=>?_);obtain ⟨h1,h2⟩:=vS I1 r1 ty;refine ⟨T,id,pa,slot,hty,h1,h2,?_⟩;have hA:=ha cpos pins s1 σ H1 _ I1 q1;rw [hs] at hA ⊢;refine Calls.callWith_builtin (by show (false || (backTo cpos (starEach es X.env)).any (·.1))=false; rw [hplain] <;> rfl) (Calls.evalArgs_plain ?_);exact thn hA fun us s2 ⟨vs,H2,I2,r2,q2⟩=>hm pins s2 σ H2 x vs v us Q I2 r1 r2 q2
end
def MtM (X:Cx) (id:String) (r:V->List V->Hp->VK->Prop):Prop:=
 ∀ (pins:List (Addr × Obj)) (s:Shared) (σ:St) (H:Hp) (x:V) (xs:List V) (v:Value) (us:List Value) (Q:VK),Inv X pins σ H s->RelV x v->Vals xs us->r x xs H Q ->
  wpAny (model X.prog X.w) X.A (call (.builtin id) (v::us)) (EP X pins σ Q) X.xe s
theorem Vals.one:∀ {x:V} {us:List Value},Vals [x] us->∃ u,us=[u]/\RelV x u
 | _,_,.cons r .nil=>⟨_,rfl,r⟩
theorem Vals.two:∀ {x y:V} {us:List Value},Vals [x,y] us->∃ u v,us=[u,v]/\RelV x u/\RelV y v
 | _,_,_,.cons r (.cons q .nil)=>⟨_,_,rfl,r,q⟩
theorem Vals.eraseIdx:∀ {xs:List V} {us:List Value} (i:Nat),Vals xs us->Vals (xs.eraseIdx i) (us.eraseIdx i)
 | _,_,_,.nil=>.nil
 | _,_,0,.cons _ t=>t
 | _,_,i+1,.cons r t=>.cons r (Vals.eraseIdx i t)
theorem Vals.rep {xs:List V} {us:List Value} (h:Vals xs us):∀ k:Nat,Vals (List.replicate k xs).flatten (List.replicate k us).flatten
 | 0=>.nil
 | k+1=>by
  rw [List.replicate_succ,List.replicate_succ,List.flatten_cons,List.flatten_cons];exact Vals.append h (Vals.rep h k)
theorem kF {α:Type}:∀ (l:List α) (i:Nat),(l.eraseIdx i).length<=l.length
 | [],_=>Nat.le_refl _
 | _::_,0=>Nat.le_succ _
 | _::r,i+1=>Nat.succ_le_succ (kF r i)
theorem kU (its:List Value):∀ (k:Nat) (acc:List Value),
  List.foldl (fun x1 x2=>x1++x2) acc.toArray (List.replicate k its.toArray)=(acc++(List.replicate k its).flatten).toArray
 | 0,acc=>by simp
 | k+1,acc=>by
  have e:acc.toArray++its.toArray=(acc++its).toArray:=by simp
  have e2:(acc++its)++(List.replicate k its).flatten=acc++(List.replicate (k+1) its).flatten:=by
   rw [List.replicate_succ,List.flatten_cons,List.append_assoc]
  rw [<- e2,<- kU its k (acc++its),<- e,List.replicate_succ,List.foldl_cons]
section
variable {X:Cx} {pins:List (Addr × Obj)} {σ:St} {H:Hp} {s:Shared} {l b:Addr} {xs ys zs:List V}
theorem Inv.lset {its its':List Value} {n:Nat} {f:Array Value->Array Value} {t':Nat} (I:Inv X pins σ H s) (hH:H l=some (.lst xs))
  (e:s.heap.get? l=some { cls:=.type "list",data:=.seq its.toArray n }) (hf:f its.toArray=its'.toArray) (hv:Vals ys its') (hz:ys.length<=sizeLine) (ht:0 < t':=by first | assumption | exact Nat.succ_pos _ | (apply Inv.tk; assumption) | omega):
  Inv X pins σ (upd H l (.lst ys)) { s with heap:=s.heap.update l (Obj.mapSeq f),toks:=t' }:=by
 have q:=PySem.IsL.update e f;rw [hf] at q;refine I.write (x:=l) (e:=l) (by rw [hH]; exact trivial) (.inl rfl) (fun b' u hb hu=>(Heap.get?_update_other s.heap (Obj.mapSeq f) (Ne.symm hb)).trans hu) ⟨_,q⟩ ?_;exact ⟨hz,its',_,hv,q⟩
theorem Inv.lnew {its:List Value} {t':Nat} (I:Inv X pins σ H s) (hv:Vals ys its) (hz:ys.length<=sizeLine) (ht:0 < t':=by first | assumption | exact Nat.succ_pos _ | (apply Inv.tk; assumption) | omega):
  Inv X pins σ (upd H s.heap.objs.size (.lst ys)) { s with heap:=s.heap.push { cls:=.type "list",data:=.seq its.toArray },toks:=t' }:=
 I.laid (fun _ _ q=>Heap.get?_push_of_some _ q) (Nat.le_refl _) ⟨hz,its,0,hv,Heap.get?_push_size _ rfl⟩
theorem Inv.fresh (I:Inv X pins σ H s):H s.heap.objs.size=none:=I.hok.fresh (Nat.le_refl _)
theorem Inv.lstM (I:Inv X pins σ H s) (hH:H l=some (.lst xs)):xs.length<=sizeLine/\∃ (its:List Value) (n:Nat),Vals xs its/\xs.length=its.length/\s.heap.get? l=some { cls:=.type "list",data:=.seq its.toArray n }:=by
 obtain ⟨z,its,n,r,e⟩:=I.hok l _ hH;exact ⟨z,its,n,r,r.length,e⟩
theorem notLongL {n:Nat} (h:n<=sizeLine):Builtin.List.listTooLong n=false:=by
 unfold Builtin.List.listTooLong;exact decide_eq_false (by omega)
end
section
variable {X:Cx}
noncomputable def rAppend:V->List V->Hp->VK->Prop:=fun x vs H Q=>∃ l xs y,x=.ref l/\vs=[y]/\H l=some (.lst xs)/\xs.length < sizeLine/\Q .non (upd H l (.lst (xs++[y])))
theorem ip:MtM X "list.append" rAppend:=by
 intro pins s σ H x vs v us Q I rx rv h;obtain ⟨l,xs,y,rfl,rfl,hH,hz,q⟩:=h;cases rx;obtain ⟨u,rfl,ru⟩:=rv.one;obtain ⟨z,its,n,r,hl,e⟩:=I.lstM hH;refine call_meets F.slot_list_append ⟨_,e,rfl⟩ F.entry_list_append (F.args_list_append_2 _ _) (PySem.list_append l its.toArray n u (by rw [List.size_toArray]; omega)) ⟨e,?_⟩;refine ⟨.non,_,I.lset (its':=its++[u]) hH e (by simp) (r.append (.cons ru .nil)) ?_,rfl,q⟩;rw [List.length_append,List.length_singleton];omega
noncomputable def rPopAt:V->List V->Hp->VK->Prop:=fun x vs H Q=>∃ l xs i k y,x=.ref l/\vs=[.int i]/\H l=some (.lst xs) /\ -(2 ^ 63)<=i/\i < 2 ^ 63/\seqIndex? i xs.length=some k/\xs[k]? = some y/\Q y (upd H l (.lst (xs.eraseIdx k)))
theorem rL:MtM X "list.pop" rPopAt:=by
 intro pins s σ H x vs v us Q I rx rv h;obtain ⟨l,xs,i,k,y,rfl,rfl,hH,h1,h2,hk,hy,q⟩:=h;cases rx;obtain ⟨u,rfl,ru⟩:=rv.one;obtain ⟨t,rfl⟩:=ru;obtain ⟨z,its,n,r,hl,e⟩:=I.lstM hH;obtain ⟨w,hw,rw'⟩:=r.get hy;refine call_meets F.slot_list_pop ⟨_,e,rfl⟩ F.entry_list_pop (F.args_list_pop_2 _ _)
  (MeetsSeq.list_pop_at l its.toArray n i t k w (fitsIndex_both h1 h2) (by rw [List.size_toArray,<- hl]; exact hk) (by rw [<- Array.getElem?_toList]; exact hw) (by rw [List.size_toArray]; omega)) ⟨e,?_⟩
 refine ⟨y,_,I.lset (its':=its.eraseIdx k) hH e ?_ (r.eraseIdx k) ?_,rw',q⟩
 ·show its.toArray.eraseIdxIfInBounds k=(its.eraseIdx k).toArray;rw [List.eraseIdxIfInBounds_toArray]
 ·have:=kF xs k;omega
noncomputable def rCat:R2:=fun x y H Q=>∃ l b xs zs,x=.ref l/\y=.ref b/\H l=some (.lst xs)/\H b=some (.lst zs)/\xs.length+zs.length<=sizeLine/\∀ p,H p=none->Q (.ref p) (upd H p (.lst (xs++zs)))
theorem wc:OpR X (binaryOp .Add) rCat:=by
 intro pins s σ H x y v u Q I rx ry h;obtain ⟨l,b,xs,zs,rfl,rfl,hH,hB,hz,q⟩:=h;cases rx;cases ry;obtain ⟨z,its,n,r,hl,e⟩:=I.lstM hH;obtain ⟨z2,its2,n2,r2,hl2,e2⟩:=I.lstM hB;refine PySem.P.add_list e e2 ?_ (by rw [List.size_toArray,List.size_toArray]; omega);have ea:its.toArray++its2.toArray=(its++its2).toArray:=by simp
 rw [ea];exact ⟨.ref _,_,I.lnew (t':=s.toks) (r.append r2) (by rw [List.length_append]; omega),rfl,q _ I.fresh⟩
noncomputable def rRep:R2:=fun x y H Q=>∃ l k xs,x=.ref l/\y=.int k/\H l=some (.lst xs) /\ -(2 ^ 63)<=k/\k < 2 ^ 63/\xs.length*k.toNat<=sizeLine /\
 ∀ p,H p=none->Q (.ref p) (upd H p (.lst (List.replicate k.toNat xs).flatten))
theorem uu {α:Type} (xs:List α) (k:Nat):(List.replicate k xs).flatten.length=k*xs.length:=by
 induction k with
 | zero=>simp
 | succ k ih=>rw [List.replicate_succ,List.flatten_cons,List.length_append,ih,Nat.succ_mul,Nat.add_comm]
theorem rA:OpR X (binaryOp .Mult) rRep:=by
 intro pins s σ H x y v u Q I rx ry h;obtain ⟨l,k,xs,rfl,rfl,hH,h1,h2,hz,q⟩:=h;cases rx;obtain ⟨t,rfl⟩:=ry;obtain ⟨z,its,n,r,hl,e⟩:=I.lstM hH;have hlen:its.toArray.size*k.toNat<=sizeLine:=by rw [List.size_toArray,<- hl]; exact hz
 have hcap:¬ its.toArray.size*k.toNat > (2 ^ 63 - 1) / 8:=by
  have:(sizeLine:Nat)<=(2 ^ 63 - 1) / 8:=by decide
  omega
 have hfit:¬ (!Builtin.List.listFitsIndex k)=true:=by
  rw [fitsIndex_both h1 h2];exact Bool.false_ne_true
 have hlong:¬ Builtin.List.listTooLong (its.toArray.size*k.toNat)=true:=by
  rw [notLongL hlen];exact Bool.false_ne_true
 have hnew:List.foldl (fun x1 x2=>x1++x2) #[] (List.replicate (if its.toArray.isEmpty=true then 0 else k.toNat) its.toArray)=(List.replicate k.toNat its).flatten.toArray:=by
  have f0:∀ m:Nat,List.foldl (fun x1 x2=>x1++x2) #[] (List.replicate m its.toArray)=(List.replicate m its).flatten.toArray:=fun m=>by
   have:=kU its m [];rw [List.nil_append] at this;exact this
  rw [f0];cases its with
  | nil=>simp
  | cons a r'=>rw [if_neg (by simp)]
 refine wpAny_binaryOp_repeat_ref (T := "list") (U := "int") (by decide) ⟨_,e,rfl⟩ (fun s'=>typeIs_int s' k t) noFill_list_mul F.fills_int_mul F.slot_int_rmul repeat_list F.slot_int_index.lookup
  (call_meets F.slot_int_rmul (typeIs_int s k t) F.entry_int_rmul (F.args_int_rmul_2 _ _) (int___rmul___int_list k t l its.toArray n)
   ⟨e,rfl,⟨_,e,rfl⟩,call_meets F.slot_list_mul ⟨_,e,rfl⟩ F.entry_list_mul (F.args_list_mul_2 _ _) (AutoListH.list___mul___list_int_3 l its.toArray n k t hfit hcap hlong) ⟨e,?_⟩⟩)
 rw [hnew];exact ⟨.ref _,_,I.lnew (t':=s.toks) (r.rep k.toNat) (by rw [uu,Nat.mul_comm]; exact hz),rfl,q _ I.fresh⟩
end
section
variable {prog:Program} {w:World} {A:Around} {E:Value->Shared->Prop} {s:Shared}
end
section
variable {X:Cx}
end
end L2
namespace Att
open PySem PySem.W PySem.Calls PyProof.Rows
theorem i3 {P:Params} {h:Heap}:∀ (ns:List Int) (vs:List Value),WellAll P h vs (ns.map WData.int)->IntsAre vs ns:=by
 intro ns
 induction ns with
 | nil=>
  intro vs w;rw [List.map_nil] at w;cases w;exact .nil
 | cons n ns ih=>
  intro vs w;rw [List.map_cons] at w;cases w with
  | cons a b=>
   cases a;exact .cons _ _ (ih _ b)
theorem script_of {l:OpenLaw} {n:Nat} (hn:l.most=some n) {P:Params} {h:Heap} {args:List WData} {vals:List Value}
  (hpre:l.row.toRowW.claim.pre args=true) (hwl:WellAll P h vals args):
  ∃ a vs ns,vals=[Value.ref a]/\args=[WData.list (ns.map WData.int)]/\h.get? a=some { cls:=.type "list",data:=.seq vs.toArray }/\IntsAre vs ns/\ns.length<=n:=by
 have hsh:WShape.hasAll [] args [.list .int]=true:=(pre_splitW hpre).1;have hc:l.pre.holds [] { args:=args }=true:=(pre_splitW hpre).2;obtain ⟨d,r,rfl,h1,h2⟩:=hasAllW_cons hsh;obtain rfl:=hasAllW_nil h2;obtain ⟨xs,rfl,h3⟩:=hasW_list h1;obtain ⟨ns,rfl⟩:=items_int h3;have hlen:ns.length<=n:=by
  unfold OpenLaw.pre at hc;have h4:(WTm.not (.lt (.lit (.int (n:Int))) (.len (.arg 0)))).holds [] { args:=[.list (ns.map .int)] }=true:=by
   have h4:=(holds_andW hc).1;rw [hn] at h4;exact h4
  have h5:=condW_of h4 (w_not (w_lt w_lit (w_len_list (w_arg rfl))));rw [List.length_map] at h5;refine Nat.le_of_not_lt fun q=>?_
  have q':(n:Int) < ((ns.length:Nat):Int):=by omega
  first
   | (rw [decide_eq_true q'] at h5; exact absurd h5 (by decide))
   | (simp at h5; omega)
 cases hwl with
 | cons w1 w2=>
  cases w2;cases w1 with
  | list ho hall=>exact ⟨_,_,ns,rfl,rfl,ho,i3 ns _ hall,hlen⟩
theorem post_true (l:OpenLaw) (args:List WData):l.row.toRowW.claim.post args (.bool true) args=true:=
 postW_of (r:=l.row.toRowW) (X:=(true == true))
  (show WShape.has [] (.bool true) .bool=true by first | rfl | decide | simp [WShape.has,WShape.arms,WShape.armsAll])
  (show (WTm.eq .res (.lit (.bool true))).value [] { args:=args,res:=some (.bool true),after:=args }=some (.bool (true == true)) from w_eq_bool (w_res rfl) w_lit) rfl
section
variable {prog:Program} {w:World} {A:Around} {E:Value->Shared->Prop} {s:Shared} {K:Frag}
end
end Att
namespace L2
open PySem PySem.Spec PyProof.Rows
theorem kD:∀ {vs:List Value} {ns:List Int},IntsAre vs ns->Vals (ns.map V.int) vs
 | _,_,.nil=>.nil
 | _,_,.cons n t h=>.cons ⟨t,rfl⟩ (kD h)
def Only (H:Hp):Prop:=∀ b,H b=none\/∃ o xs,H b=some (.frz o (.lst xs))
theorem r9 {P:Program} {w:World} {K:Frag} {mg mb:Str->Option Value} {CX:CXT} {k:Nat} {fa a:Addr} {fd:FuncData} {x:Str} {sp:Sp} {s₁:Shared} {vs:List Value} {ns:List Int}
  (KX:K.In s₁.heap) (hns:s₁.heap.Ns mainGlobals mg) (hb:s₁.heap.Ns builtinsNs mb) (hbb:∀ x:Str,x ≠ "__name__" -> mb x=bootBuiltins x) (hlim:s₁.heap.NoLimit) (hg:s₁.gens=#[]) (htk:0 < s₁.toks)
  (ha:s₁.heap.get? a=some { cls:=.type "list",data:=.seq vs.toArray }) (hi:IntsAre vs ns) (hl:ns.length<=sizeLine) (hr:Room k callerA)
  (F:∀ base:Heap,K.In base->base.Ns mainGlobals mg->FnOk P w K mg base CX k fa fd [x] sp) (hbind:∀ (s:Shared) (u:Value),BindsTo s fd ⟨[u],[]⟩ [(x,u)])
  (hsp:∀ H:Hp,Only H->SqL K H a (ns.map V.int)->sp [.ref a] H (fun v _=>v=.bl true) fun _ _ _=>False)
  (hCX:∀ H e s',CX [] H s₁ (fun _ _ _=>False) e s'->False):
  codeAny (model P w) callerA (.call (.ref fa) ⟨[.ref a],[]⟩) (fun r s'=>r=.ok (.ret (.bool true))/\OldK s₁.heap s'.heap/\s'.os=s₁.os/\AllBare s'.gens) s₁:=by
 have rv:=kD hi;have lenV:=hi.length;have core:∀ H:Hp,Only H->SqL K H a (ns.map V.int)->HOk P w H s₁.heap->(∀ b,H b≠none->b=a)->(H a≠none->K.lookup a=none) ->
   codeAny (model P w) callerA (.call (.ref fa) ⟨[.ref a],[]⟩) (fun r s'=>r=.ok (.ret (.bool true))/\OldK s₁.heap s'.heap/\s'.os=s₁.os/\AllBare s'.gens) s₁:=by
  intro H hO hS hok hA hK;have base_of:∀ {b:Addr} {o:Obj},s₁.heap.get? b=some o->H b=none->(hidT s₁.heap H).get? b=some o:=fun e n=>rV e n
  have noA:∀ {b:Addr} {o:Obj} {es:Array DictEntry} {ep:Nat},s₁.heap.get? b=some o->o.data=.dict es ep->H b=none:=fun {b o es ep} e d=>by
   cases q:H b with
   | none=>rfl
   | some u=>
    have e':b=a:=hA b (by rw [q]; simp);subst e';rw [ha] at e; cases e;have d':Data.seq vs.toArray _=Data.dict es ep:=d;cases d'
  have nsK:∀ {b:Addr} {m:Str->Option Value},s₁.heap.Ns b m->(hidT s₁.heap H).Ns b m:=fun {b m} ⟨o,es,ep,e,d,r⟩=>⟨o,es,ep,base_of e (noA e d),d,r⟩
  have hKb:K.In (hidT s₁.heap H):=fun b o e=>base_of (KX b o e) (by
   cases q:H b with
   | none=>rfl
   | some u=>
    have e':b=a:=hA b (by rw [q]; simp);subst e';rw [hK (by rw [q]; simp)] at e; cases e)
  have hM:Mod K mg (hidT s₁.heap H):=⟨hKb,nsK hns,⟨mb,nsK hb,hbb⟩,let ⟨mc,h1,h2⟩:=hlim; ⟨mc,nsK h1,h2⟩⟩;have e0:Env0 P w K mg (hidT s₁.heap H) callerA [] s₁ H:=⟨rfl,hM,fun b o e=>ve e,Nat.le_of_eq (pL _ _),trivial,fun b hb=>absurd (show b ∈ ([]:List Addr) from hb) (by simp),hok,.of_eq hg,htk⟩;refine codeAny_mono ((F _ hKb (nsK hns)).run callerA [] s₁ H ⟨[.ref a],[]⟩ [.ref a] [.ref a] _ _ hr e0 (hbind s₁ (.ref a)) (.cons rfl .nil) (hsp H hO hS)) fun r s' h=>?_
  cases r with
  | error e=>exact (hCX H e s' h).elim
  | ok fl=>
   cases fl with
   | next=>exact False.elim h
   | brk=>exact False.elim h
   | cont=>exact False.elim h
   | ret u=>
    obtain ⟨v,H',_,os,bare,un,hok',r',q⟩:=h;have q':v=.bl true:=q;subst q';obtain rfl:u=Value.bool true:=r';refine ⟨rfl,OldK.of_keep fun b o e=>?_,os,bare⟩;cases q:H b with
    | none=>exact un.keep b o e q (by intro z; exact absurd (show b ∈ ([]:List Addr) from z) (by simp)) (by simp)
    | some u=>
     rcases hO b with z | ⟨ob,xs,z⟩
     ·rw [q] at z; cases z
     ·have z2:=un.frzs b ob _ z;obtain ⟨e1,_⟩:=hok b _ z;obtain ⟨e2,_⟩:=hok' b _ z2;rw [e] at e1; cases e1;exact e2
 cases hk:K.lookup a with
 | some o=>
  have e:=KX a o hk;rw [ha] at e;cases e;refine core (fun _=>none) (fun _=>.inl rfl) (.inr ⟨_,vs.toArray,_,hk,rfl,rfl,rfl,by rw [List.size_toArray,lenV]; exact hl,by simpa using rv⟩) (fun b u z=>by have z':(none:Option HO)=some u:=z; cases z') (fun b z=>absurd rfl z) fun z=>absurd rfl z
 | none=>
  refine core (fun b=>if b=a then some (.frz { cls:=.type "list",data:=.seq vs.toArray } (.lst (ns.map V.int))) else none) (fun b=>?_) (.inl (.inr ⟨{ cls:=.type "list",data:=.seq vs.toArray },if_pos rfl⟩)) (fun b u z=>?_) (fun b z=>?_) fun _=>hk
  ·by_cases hb:b=a
   ·exact .inr ⟨_,_,if_pos hb⟩
   ·exact .inl (if_neg hb)
  ·by_cases hb:b=a
   ·have z':=(if_pos hb).symm.trans z;cases z';subst hb;exact ⟨ha,by rw [List.length_map]; exact hl,vs,_,rv,ha⟩
   ·have z':=(if_neg hb).symm.trans z;cases z'
  ·by_cases hb:b=a
   ·exact hb
   ·exact absurd (if_neg hb) z
noncomputable abbrev KOf {K:Frag} {h:Heap} (_:K.In h):Frag:=K
theorem mi {l:PySem.W.OpenLaw} {n:Nat} {q:Program} {loose:List Str} {XP:(Str->Option Value)->Heap->Prop} {α:Type} {Yf:Shared->α} {Ya:World->α} {d:DefRec}
  (hn:l.most=some n) (hdf:d.params.defaults=[])
  (call:∀ (w:World) (s₀ s₁:Shared) (mg mb:Str->Option Value) (fa a:Addr) (vs:List Value) (ns:List Int),
   PySem.W.Ground q loose [] XP w s₀ mg mb s₁.heap->Yf s₀ = Ya w->(∀ b o,s₀.heap.get? b=some o->s₁.heap.get? b=some o)->s₀.toks<=s₁.toks->mg d.name=some (.ref fa) ->
   s₁.heap.get? a=some { cls:=.type "list",data:=.seq vs.toArray }->IntsAre vs ns->ns.length<=n->s₁.gens=#[] ->
   codeAny (model l.prog w) callerA (.call (.ref fa) ⟨[.ref a],[]⟩) (fun r s'=>r=.ok (.ret (.bool true))/\OldK s₁.heap s'.heap/\s'.os=s₁.os/\AllBare s'.gens) s₁):
  PySem.W.WalkX q loose XP Yf Ya l.row.toRowW d [] (fun f vs=>PySem.call f vs):=by
 intro w s₀ s₁ mg mb G Y fa o pm cd doc dV kV ho hd hcd hD hmg hg args vals as L hpre hlay hrd hwl hlo;obtain ⟨a,vs,ns,rfl,rfl,hobj,hints,hlen⟩:=Att.script_of hn hpre hwl;have ht:s₀.toks<=s₁.toks:=by
  obtain ⟨ord,_,e⟩:=L.laid;exact (PySem.W.layAllW_grows _ _ _ e).toks
 refine PySem.W.enter_call (codeAny_mono (call w s₀ s₁ mg mb fa a vs ns G Y L.keeps ht hmg hobj hints hlen hg) fun r s' hq=>?_);obtain ⟨rfl,h2,h3,h4⟩:=hq;exact ⟨.inl ⟨.bool true,.bool true,[],rfl,fun _=>rfl,.bool true,Att.post_true l _,fun _=>⟨List.Pairwise.nil,fun _ hm=>(nomatch hm)⟩⟩,h2,h3,h4⟩
theorem walk_ofX {l:PySem.W.OpenLaw} {n k:Nat} {q:Program} {loose:List Str} {XP:(Str->Option Value)->Heap->Prop} {α:Type} {Yf:Shared->α} {Ya:World->α} {d:DefRec} {K:Params->Frag} {CX:World->CXT} {sp:World->Sp} {x:Str}
  (hn:l.most=some n) (hn2:n<=sizeLine) (hdf:d.params.defaults=[]) (hr:Room k callerA)
  (hY:∀ (w:World) (s:Shared),Yf s=Ya w->(K w.params).In s.heap/\0 < s.toks)
  (F:∀ (w:World) (mg:Str->Option Value) (fa:Addr) (h:Heap),(K w.params).In h->h.Ns mainGlobals mg->mg d.name=some (.ref fa) ->
   ∃ fd:FuncData,(∀ (s:Shared) (u:Value),BindsTo s fd ⟨[u],[]⟩ [(x,u)]) /\
    ∀ base:Heap,(K w.params).In base->base.Ns mainGlobals mg->FnOk l.prog w (K w.params) mg base (CX w) k fa fd [x] (sp w))
  (hsp:∀ (w:World) (H:Hp) (a:Addr) (ns:List Int),ns.length<=n->Only H->SqL (K w.params) H a (ns.map V.int)->sp w [.ref a] H (fun v _=>v=.bl true) fun _ _ _=>False)
  (hCX:∀ (w:World) (H:Hp) (s:Shared) (e:Value) (s':Shared),CX w [] H s (fun _ _ _=>False) e s'->False):
  PySem.W.WalkX q loose XP Yf Ya l.row.toRowW d [] (fun f vs=>PySem.call f vs):=by
 refine mi hn hdf fun w s₀ s₁ mg mb fa a vs ns G Y kp ht hmg hobj hints hlen hg=>?_
 obtain ⟨K0,t0⟩:=hY w s₀ Y;have KX:(K w.params).In s₁.heap:=fun b o e=>kp b o (K0 b o e)
 obtain ⟨fd,hb,hF⟩:=F w mg fa _ KX G.T.g hmg;exact r9 KX G.T.g G.T.b G.T.builtins G.T.nolimit hg (Nat.lt_of_lt_of_le t0 ht) hobj hints (Nat.le_trans hlen hn2) hr hF hb (fun H hO hS=>hsp w H a ns hlen hO hS) fun H e s'=>hCX w H s₁ e s'
noncomputable def defArgs (s:Stmt):Arguments:=match s with
 | .FunctionDef _ a _ _ _ _ _ _ _ _=>a
 | _=>{ posonlyargs:=[],args:=[],vararg:=none,kwonlyargs:=[],kw_defaults:=[],kwarg:=none,defaults:=[] }
noncomputable def defBody (s:Stmt):List Stmt:=match s with
 | .FunctionDef _ _ b _ _ _ _ _ _ _=>b
 | _=>[]
noncomputable def defScope (s:Stmt):Scope:=match s with
 | .FunctionDef _ _ _ _ _ _ sc _ _ _=>sc
 | _=>{ kind:=.function,names:=[],isGenerator:=false,isCoroutine:=false }
noncomputable abbrev CX0:CXT:=fun _ _ _ _ _ _=>False
noncomputable abbrev E0:XK:=fun _ _ _=>False
theorem pass0 {X:Cx}:Passes CX0 X E0:=fun _ _ _ _ _ _ _ h=>h.elim
structure Fun (K:Frag) (x qual:Str) (st:Stmt) (f:Addr) (fd:FuncData):Prop where
 ex:∃ (oc:Value) (od:Option Addr) (kV doc pm:Value) (an:Option Addr) (cdv ct:Value) (osl:Array (Option Value)),
  fd=fnOf x qual (defArgs st) (defBody st) (defScope st) .none kV doc pm an cdv ct/\K.lookup f=some ⟨oc,od,.func fd,osl⟩/\codeIn K cdv qual=true
 kp:keepIn K (.ref f)=true
section
variable {P:Program} {w:World} {K:Frag} {mg:Str->Option Value} {base:Heap}
theorem Fun.ok {x qual:Str} {st:Stmt} {f:Addr} {fd:FuncData} {N ps:List Str} {k:Nat} {sp:Sp} (F:Fun K x qual st f fd) (S:FnScope N ps (defScope st)) (len:∀ vs H Q E,sp vs H Q E->vs.length=ps.length)
  (hbody:∀ (cdv:Value) (A:Around) (outer:List Env) (s:Shared) (H:Hp) (vs:List V) (Q:VK) (E:XK),Room k (A.deeper (envOfC qual (defScope st) s.heap.objs.size f cdv))->sp vs H Q E ->
   ∃ t,PSs (cxOf CX0 P w K mg base N qual (defScope st) f cdv A outer s H E).nox (defBody st) t/\t { nx:=fun _ H'=>Q .non H',rt:=Q } (start N vs) H):FnOk P w K mg base CX0 (k+1) f fd ps sp:=by
 obtain ⟨oc,od,kV,doc,pm,an,cdv,ct,osl,rfl,lk,hcd⟩:=F.ex;refine vg lk hcd S len fun A outer s H vs Q E hr hsp=>?_
 obtain ⟨t,h,q⟩:=hbody cdv A outer s H vs Q E hr hsp;exact ⟨t,h.nox,q⟩
theorem Fun.binds {x qual:Str} {st:Stmt} {f:Addr} {fd:FuncData} {ps:List Str} (F:Fun K x qual st f fd)
  (h:∀ (kV doc pm:Value) (an:Option Addr) (cdv ct:Value) (us:List Value),us.length=ps.length->bindArgs (fnOf x qual (defArgs st) (defBody st) (defScope st) .none kV doc pm an cdv ct) ⟨us,[]⟩=pure (ps.zip us)):Binds K fd ps []:=by
 obtain ⟨oc,od,kV,doc,pm,an,cdv,ct,osl,rfl,lk,hcd⟩:=F.ex;exact .all (h kV doc pm an cdv ct)
theorem wu {x qual:Str} {st:Stmt} {f:Addr} {oc:Value} {od an:Option Addr} {osl:Array (Option Value)} {kV doc pm cdv ct:Value} (l:K.lookup f=some ⟨oc,od,.func (fnOf x qual (defArgs st) (defBody st) (defScope st) .none kV doc pm an cdv ct),osl⟩)
  (c:codeIn K cdv qual=true) (k:keepIn K (.ref f)=true):Fun K x qual st f (fnOf x qual (defArgs st) (defBody st) (defScope st) .none kV doc pm an cdv ct):=⟨⟨oc,od,kV,doc,pm,an,cdv,ct,osl,rfl,l,c⟩,k⟩
end
theorem jo {A:Around} {k:Nat} (hr:Room k A):A.units+1 < cLine:=Nat.lt_of_le_of_lt (Nat.add_le_add_left (by decide:1<=64) _) hr.units
section
variable {X:Cx}
end
theorem ite2 {c A B:Prop} [Decidable c] (h1:c->A) (h2:¬ c->B):if c then A else B:=by
 by_cases h:c
 ·rw [if_pos h];exact h1 h
 ·rw [if_neg h];exact h2 h
def Same (H H':Hp):Prop:=∀ b o,H b=some o->H' b=some o
theorem Same.refl (H:Hp):Same H H:=fun _ _ h=>h
theorem Same.trans {H H1 H2:Hp} (a:Same H H1) (b:Same H1 H2):Same H H2:=fun c o h=>b c o (a c o h)
theorem Same.free {H H':Hp} (e:Same H H') {l:Addr} (h:H' l=Option.none):H l=Option.none:=by
 cases q:H l with
 | none=>rfl
 | some o=>
  rw [e l o q] at h;cases h
theorem Same.seq {K:Frag} {H H':Hp} {a:Addr} {xs:List V} (e:Same H H') (h:SqL K H a xs):SqL K H' a xs:=by
 rcases h with (h | ⟨o,h⟩) | h
 ·exact .inl (.inl (e _ _ h))
 ·exact .inl (.inr ⟨o,e _ _ h⟩)
 ·exact .inr h
section
variable {X:Cx} {pins:List (Addr × Obj)} {σ:St} {H H':Hp} {s:Shared} {h':Heap}
theorem Inv.turnedL {t':Nat} {its:List Addr} (I:Inv X pins σ H s) (k:∀ b o,b ∉ its->s.heap.get? b=some o->h'.get? b=some o) (hf:∀ b ∈ its,FpOk X pins H b) (ht:0 < t':=by first | assumption | exact Nat.succ_pos _ | (apply Inv.tk; assumption) | omega):Inv X pins σ H { s with heap:=h',toks:=t' }:=by
 have nit:∀ b u,H b=some u->b ∉ its:=fun b u e z=>by
  have q:=(hf b z).1;rw [q] at e;cases e
 refine I.step (g':=s.gens) (d':=s.drawn) (ch:=its) (fun b hb=>?_) (fun b o _ _ hc e _=>k b o hc e) (fun b o _ _ hc e _=>⟨o.slots,k b o hc e⟩) (fun _ _ _ _ n=>n)
  (fun b o hc e=>⟨o,k b o hc e⟩) (fun _ _ e=>e) (fun _ _ _ e=>e) (fun b ps e=>⟨#[],by rw [e]; simp⟩) (fun m hm=>?_) (fun b u e=>?_) I.bare
 ·obtain ⟨f0,f1,f2,f3,f4,f5⟩:=hf b hb;exact ⟨f3,f1,f4,f5⟩
 ·obtain ⟨o,es,ep,ho,r⟩:=hm;exact ⟨o,es,ep,k _ o (fun z=>(hf _ z).2.1 rfl) ho,r⟩
 ·refine (I.hok b u e).stay (fun c v hc q=>k c v ?_ q) (fun _ q=>q) fun _ _ q=>q
  rcases hc with z | z
  ·rw [z]; exact nit b u e
  ·exact nit c _ z
end
theorem ox (x:Str):["enumerate", "zip", "dict_itemiterator", "dict_reverseitemiterator", "odict_iterator", "itertools.zip_longest", "itertools.pairwise"].contains (strIterType x)=false:=by
 unfold strIterType;split <;> decide
section
variable {prog:Program} {w:World} {A:Around} {E:Value->Shared->Prop} {s:Shared}
theorem aQ (x:Str):strIterType x = "str_ascii_iterator" \/ strIterType x = "str_iterator" := by
 unfold strIterType;split
 ·exact .inl rfl
 ·exact .inr rfl
theorem kr {it:Addr} {x:Str} {t:Tok} {i c:Nat} {Q:Option Value->Shared->Prop} (hit:s.heap.IsStrIter it (strIterType x) x t i) (hx:x.cps[i]? = some c)
  (hQ:∀ h',h'.IsStrIter it (strIterType x) x t (i+1)->Heap.SameBut it s.heap h'->Q (some (.str ⟨#[c]⟩ s.toks)) { s with heap:=h',toks:=s.toks+1 }):
  wpAny (model prog w) A (pyNext (.ref it)) Q E s:=by
 rcases aQ x with e | e
 ·rw [e] at hit;simp only [e] at hQ;exact wpAny_pyNext_ascii_item hit hx hQ
 ·rw [e] at hit;simp only [e] at hQ;exact wpAny_pyNext_wide_item hit hx hQ
theorem lL {it:Addr} {x:Str} {t:Tok} {i:Nat} {Q:Option Value->Shared->Prop} (hh:A.handled=none) (hit:s.heap.IsStrIter it (strIterType x) x t i) (hx:x.cps[i]? = none)
  (hQ:∀ h',Heap.ExtBut it s.heap h'->Q none { s with heap:=h' }):wpAny (model prog w) A (pyNext (.ref it)) Q E s:=by
 rcases aQ x with e | e
 ·rw [e] at hit;exact wpAny_pyNext_ascii_end hh hit hx hQ
 ·rw [e] at hit;exact wpAny_pyNext_wide_end hh hit hx hQ
theorem jZ {it:Addr} {x:Str} {t:Tok} {i:Nat} {Q:Value->Shared->Prop} (hit:s.heap.IsStrIter it (strIterType x) x t i) (h:Q (.ref it) s):wpAny (model prog w) A (pyIter (.ref it)) Q E s:=by
 rcases aQ x with e | e
 ·rw [e] at hit;exact wpAny_pyIter_striter_ascii hit h
 ·rw [e] at hit;exact wpAny_pyIter_striter_wide hit h
theorem iV {it:Addr} {x:Str} {t:Tok} {i c:Nat} {Q:Value->Shared->Prop} (hit:s.heap.IsStrIter it (strIterType x) x t i) (hx:x.cps[i]? = some c)
  (hQ:∀ h',h'.IsStrIter it (strIterType x) x t (i+1)->Heap.SameBut it s.heap h'->Q (.str ⟨#[c]⟩ s.toks) { s with heap:=h',toks:=s.toks+1 }):
  wpAny (model prog w) A (Builtin.SmallTypes.nextOf (.ref it)) Q E s:=by
 rcases aQ x with e | e
 ·rw [e] at hit;simp only [e] at hQ;exact wpAny_nextOf_ascii_item hit hx hQ
 ·rw [e] at hit;simp only [e] at hQ;exact wpAny_nextOf_wide_item hit hx hQ
theorem ji {it:Addr} {x:Str} {t:Tok} {i:Nat} {Q:Value->Shared->Prop} (hh:A.handled=none) (hit:s.heap.IsStrIter it (strIterType x) x t i) (hx:x.cps[i]? = none)
  (hE:∀ h' e,Heap.ExtBut it s.heap h'->(∃ o,h'.get? e=some o/\o.cls=.type "StopIteration")->E (.ref e) { s with heap:=h' }):wpAny (model prog w) A (Builtin.SmallTypes.nextOf (.ref it)) Q E s:=by
 rcases aQ x with e | e
 ·rw [e] at hit;exact wpAny_nextOf_ascii_end hh hit hx hE
 ·rw [e] at hit;exact wpAny_nextOf_wide_end hh hit hx hE
end
noncomputable def Its (x:Str):It:=⟨fun i _=>i < x.cps.size,fun i H v H'=>H'=H/\∃ c,x.cps[i]? = some c/\v=.str ⟨#[c]⟩,fun i _=>x.cps.size<=i⟩
theorem mQ {h:Heap} {it:Addr} {ty:String} {x:Str} {t:Tok} {i:Nat} (st:h.IsStrIter it ty x t i):∃ o,h.get? it=some o/\∀ v,o.data≠.cell v:=by
 obtain ⟨o,e,c,d⟩:=st;exact ⟨o,e,fun v z=>by rw [d] at z; cases z⟩
theorem ra {P:Program} {w:World} {K:Frag} {tg:Expr} (x:Str) (t:Tok) (it:Addr):Turn P w K tg (Its x) [it] it (fun i h=>h.IsStrIter it (strIterType x) x t i) where
 mem:=by simp
 obj:=fun i h st b hb=>by
  have e:b=it:=by simpa using hb
  subst e;exact mQ st
 keep:=fun i h h' st k=>by
  obtain ⟨o,e,r⟩:=st;exact ⟨o,k it (by simp) o e,r⟩
 item:=by
  intro X hP hw hK hc i pins s σ H E I hf st hg;subst hP hw hK;have hi:i < x.cps.size:=hg;refine kr st (c:=x.cps[i]) (by simp [hi]) fun h' st' sb=>?_
  have I1:Inv X pins σ H { s with heap:=h',toks:=s.toks+1 }:=I.turnedL (its:=[it]) (fun b o hb e=>(sb.2 b (by simpa using hb)).trans e) hf;obtain ⟨o,e,c,d⟩:=id st';exact ⟨_,rfl,oW (s:={ s with heap:=h',toks:=s.toks+1 }) e c d (ox x) ⟨.str ⟨#[x.cps[i]]⟩,H,I1,⟨_,rfl⟩,⟨rfl,_,by simp [hi],rfl⟩,st',fun b hb=>(hf b hb).1⟩⟩
 done:=by
  intro X hP hw hK hc i pins s σ H E I hf st hg;subst hP hw hK;have hi:x.cps.size<=i:=hg;exact lL (I.ok.hd hc) st (by simp [hi]) fun h' eb=>⟨rfl,I.turnedL (t':=s.toks) (its:=[it]) (fun b o hb e=>eb b o (by simpa using hb) e) hf⟩
 self:=fun _ _ _ _ _ st h=>jZ st h
section
variable {X:Cx} {tg e:Expr} {te:TE}
end
theorem n8 {J:It} {n:Nat} {g:TG} {tb:TS} {D:Ends} {σ:St} {H:Hp} (Pv:Nat->St->Hp->Prop) (h0:Pv 0 σ H) (hgo:∀ i σ H,i < n->Pv i σ H->J.go i H) (hst:∀ σ H,Pv n σ H->J.stop n H)
  (hs:∀ i σ H x H',i < n->Pv i σ H->J.yld i H x H'->g x σ H' fun σ2 H2=>tb { D with nx:=Pv (i+1),ct:=Pv (i+1),bk:=D.nx } σ2 H2) (hd:∀ σ H,Pv n σ H->D.nx σ H):
  ∃ W:Nat->Nat->St->Hp->Prop,(∃ m,W 0 m σ H)/\∀ i m σ H,W i m σ H ->
   (J.stop i H/\D.nx σ H)\/(J.go i H/\∃ N:St->Hp->Prop,(∀ σ' H',N σ' H'->∃ m',m' < m/\W (i+1) m' σ' H')/\∀ x H',J.yld i H x H'->g x σ H' fun σ2 H2=>tb { D with nx:=N,ct:=N,bk:=D.nx } σ2 H2):=by
 refine ⟨fun i m σ H=>m=n - i/\i<=n/\Pv i σ H,⟨n,by simp,Nat.zero_le _,h0⟩,?_⟩;rintro i m σ H ⟨rfl,hi,p⟩;by_cases hlt:i < n
 ·exact .inr ⟨hgo i σ H hlt p,Pv (i+1),fun σ' H' p'=>⟨n - (i+1),by omega,rfl,hlt,p'⟩,fun x H' y=>hs i σ H x H' hlt p y⟩
 ·have e:i=n:=by omega
  subst e;exact .inl ⟨hst σ H p,hd σ H p⟩
structure Nx (prog:Program) (w:World) (A:Around) (it:Addr) (f:List Addr) (Sa Sb:Heap->Prop) (P:Value->Prop):Prop where
 fra:∀ h h',Sa h->(∀ b ∈ f,∀ o,h.get? b=some o->h'.get? b=some o)->Sa h'
 frb:∀ h h',Sb h->(∀ b ∈ f,∀ o,h.get? b=some o->h'.get? b=some o)->Sb h'
 step:∀ (s:Shared) (Q:Value->Shared->Prop) (E:Value->Shared->Prop),Sa s.heap->(∀ x h' tk,P x->Sb h'->Heap.SameBut it s.heap h'->Q x { s with heap:=h',toks:=tk })->wpAny (model prog w) A (Builtin.SmallTypes.nextOf (.ref it)) Q E s
structure Nd (prog:Program) (w:World) (A:Around) (it:Addr) (f:List Addr) (Sa:Heap->Prop):Prop where
 fra:∀ h h',Sa h->(∀ b ∈ f,∀ o,h.get? b=some o->h'.get? b=some o)->Sa h'
 step:∀ (s:Shared) (Q:Value->Shared->Prop) (E:Value->Shared->Prop),Sa s.heap->(∀ h' e,Heap.ExtBut it s.heap h'->(∃ o,h'.get? e=some o/\o.cls=.type "StopIteration")->E (.ref e) { s with heap:=h' })->wpAny (model prog w) A (Builtin.SmallTypes.nextOf (.ref it)) Q E s
structure ZAp (z TI TO i1 i2:Addr):Prop where
 TIz:TI≠z
 TOz:TO≠z
 i1z:i1≠z
 i2z:i2≠z
 TITO:TI≠TO
 TIi1:TI≠i1
 TIi2:TI≠i2
 TOi1:TO≠i1
 TOi2:TO≠i2
 i12:i1≠i2
section
variable {prog:Program} {w:World} {A:Around} {E:Value->Shared->Prop} {s:Shared}
theorem fu {z TI TO i1 i2:Addr} {f1 f2:List Addr} {Sa Sb Sc Sd:Heap->Prop} {P1 P2:Value->Prop} {a b:Value} {Q:Value->Shared->Prop} (D:ZAp z TI TO i1 i2)
  (n1:Nx prog w A i1 f1 Sa Sb P1) (n2:Nx prog w A i2 f2 Sc Sd P2) (hf1:∀ c ∈ f1,c≠z/\c≠TO/\c≠i2) (hf2:∀ c ∈ f2,c≠z/\c≠TO/\c≠i1)
  (hz:IsZip s.heap z TI TO .none) (hTI:IsPair s.heap TI (.ref i1) (.ref i2)) (hTO:IsPair s.heap TO a b) (h1:Sa s.heap) (h2:Sc s.heap)
  (hQ:∀ x y h' tk,P1 x->P2 y->IsZip h' z TI TO (rawInt s.heap.objs.size)->IsPair h' TO x y->Sb h'->Sd h'->IsPair h' s.heap.objs.size x y->h'.objs.size=s.heap.objs.size+1 ->
   (∀ c o,c≠z->c≠TO->c≠i1->c≠i2->s.heap.get? c=some o->h'.get? c=some o)->Q (.ref s.heap.objs.size) { s with heap:=h',toks:=tk }):
  wpAny (model prog w) A (Builtin.«zip.__next__» ⟨[.ref z],[]⟩) (fun fin s'=>∃ v,fin=.done (.ret v)/\Q v s') E s:=by
 obtain ⟨hp,gs,dr,k0,os⟩:=s;refine wpAny_bind (m:=slotArgs "__next__" 0 _) (wpAny_of_eq (a:=(Value.ref _,[])) rfl ?_);refine wpAny_bind (m:=field _ 2) (wpAny_field hz rfl (x:=Value.bool false) rfl (wpAny_bind (m:=field _ 3) (wpAny_field hz rfl (x:=Value.ref TI) rfl (wpAny_bind (m:=seqItems? _) (wpAny_seqItems hTI rfl ?_)))));refine wpAny_bind (m:=Builtin.SmallTypes.ownedTupleIsFree _) (wpAny_bind (wpAny_field hz rfl (x:=Value.none) rfl (wpAny_pure ?_)));refine wpAny_bind (wpAny_rule (wpAny_bind (wpAny_field hz rfl (x:=Value.ref TO) rfl (wpAny_bind (wpAny_setField_rec hz (by simp) fun g1 zg sg=>wpAny_bind ?_)))));simp only [List.zipIdx_cons,List.zipIdx_nil,List.forIn_cons,List.forIn_nil];have zg:IsZip g1 z TI TO .ellipsis:=zg;have sg:Heap.SameBut z hp g1:=sg;refine wpAny_bind (wpAny_bind (wpAny_onRaise (wpAny_bind (m:=Builtin.SmallTypes.nextOf (.ref i1)) (n1.step _ _ _ (n1.fra hp g1 h1 fun c hc o=>sg.extBut _ _ (hf1 c hc).1) fun x g2 k1 p1 b2 t2=>wpAny_pure ?_))));have t2:Heap.SameBut i1 g1 g2:=t2;have o2:IsPair g2 TO a b:=t2.extBut _ _ D.TOi1 (sg.extBut _ _ D.TOz hTO);refine wpAny_bind (wpAny_seqItems o2 rfl (wpAny_bind (wpAny_updateSeq_pair o2 fun g3 o3 t3=>wpAny_bind (wpAny_letGo (wpAny_pure ?_)))));have o3:IsPair g3 TO x b:=o3;have t3:Heap.SameBut TO g2 g3:=t3;have to3:∀ c o,c≠z->c≠TO->c≠i1->hp.get? c=some o->g3.get? c=some o:=fun c o e1 e2 e3 q=>t3.extBut _ _ e2 (t2.extBut _ _ e3 (sg.extBut _ _ e1 q))
 refine wpAny_bind (wpAny_bind (wpAny_onRaise (wpAny_bind (m:=Builtin.SmallTypes.nextOf (.ref i2)) (n2.step _ _ _ (n2.fra hp g3 h2 fun c hc o=>to3 c o (hf2 c hc).1 (hf2 c hc).2.1 (hf2 c hc).2.2) fun y g4 k2 p2 b4 t4=>wpAny_pure ?_))));have t4:Heap.SameBut i2 g3 g4:=t4;have o4:IsPair g4 TO x b:=t4.extBut _ _ D.TOi2 o3;refine wpAny_bind (wpAny_seqItems o4 rfl (wpAny_bind (wpAny_updateSeq_pair o4 fun g5 o5 t5=>wpAny_bind (wpAny_letGo (wpAny_pure (wpAny_pure ?_))))));have o5:IsPair g5 TO x y:=o5;have t5:Heap.SameBut TO g4 g5:=t5;have size5:g5.objs.size=hp.objs.size:=t5.1.trans (t4.1.trans (t3.1.trans (t2.1.trans sg.1)));have z5:IsZip g5 z TI TO .ellipsis:=t5.extBut _ _ D.TOz.symm (t4.extBut _ _ D.i2z.symm (t3.extBut _ _ D.TOz.symm (t2.extBut _ _ D.i1z.symm zg)));have zlt:z < g5.objs.size:=Heap.lt_size z5;refine wpAny_bind (wpAny_seqItems o5 rfl (wpAny_bind (wpAny_newTuple (wpAny_bind (m:=Builtin.SmallTypes.ownedTupleHandOut _ _) ?_))));refine wpAny_bind (wpAny_setField_rec (Heap.get?_push_of_some _ z5) (by simp) fun g6 z6 t6=>wpAny_setField_rec z6 (by simp) fun g7 z7 t7=>wpAny_pure ⟨_,rfl,?_⟩);have t6:Heap.SameBut z (g5.push { cls:=.type "tuple",data:=.seq #[x,y] }) g6:=t6;have t7:Heap.SameBut z g6 g7:=t7;have z7:IsZip g7 z TI TO (rawInt g5.objs.size):=z7;have over:∀ c o,c≠z->g5.get? c=some o->g7.get? c=some o:=fun c o e q=>t7.extBut _ _ e (t6.extBut _ _ e (Heap.get?_push_of_some _ q))
 have pair7:IsPair g7 g5.objs.size x y:=t7.extBut _ _ (Nat.ne_of_gt zlt) (t6.extBut _ _ (Nat.ne_of_gt zlt) (Heap.get?_push_size _ rfl));have size7:g7.objs.size=g5.objs.size+1:=t7.1.trans (t6.1.trans (Heap.size_push ..));show Q (.ref g5.objs.size) _;rw [size5] at z7 pair7 size7 ⊢;refine hQ x y g7 k2 p1 p2 z7 (over _ _ D.TOz o5) (n1.frb g2 g7 b2 fun c hc o q=>?_) (n2.frb g4 g7 b4 fun c hc o q=>?_) pair7 size7 fun c o e1 e2 e3 e4 q=>over c o e1 (t5.extBut _ _ e2 (t4.extBut _ _ e4 (to3 c o e1 e2 e3 q)))
 ·obtain ⟨e1,e2,e3⟩:=hf1 c hc;exact over c o e1 (t5.extBut _ _ e2 (t4.extBut _ _ e3 (t3.extBut _ _ e2 q)))
 ·obtain ⟨e1,e2,_⟩:=hf2 c hc;exact over c o e1 (t5.extBut _ _ e2 q)
theorem fU {z TI TO i1 i2:Addr} {f1:List Addr} {Sa:Heap->Prop} {Q:Fin->Shared->Prop} (D:ZAp z TI TO i1 i2)
  (n1:Nd prog w A i1 f1 Sa) (hf1:∀ c ∈ f1,c≠z/\c≠TO/\c≠i2)
  (hz:IsZip s.heap z TI TO .none) (hTI:IsPair s.heap TI (.ref i1) (.ref i2)) (h1:Sa s.heap)
  (hE:∀ h' e tk,(∀ c o,c≠z->c≠TO->c≠i1->c≠i2->s.heap.get? c=some o->h'.get? c=some o)->(∃ o,h'.get? e=some o/\o.cls=.type "StopIteration")->E (.ref e) { s with heap:=h',toks:=tk }):
  wpAny (model prog w) A (Builtin.«zip.__next__» ⟨[.ref z],[]⟩) Q E s:=by
 obtain ⟨hp,gs,dr,k0,os⟩:=s;refine wpAny_bind (m:=slotArgs "__next__" 0 _) (wpAny_of_eq (a:=(Value.ref _,[])) rfl ?_);refine wpAny_bind (m:=field _ 2) (wpAny_field hz rfl (x:=Value.bool false) rfl (wpAny_bind (m:=field _ 3) (wpAny_field hz rfl (x:=Value.ref TI) rfl (wpAny_bind (m:=seqItems? _) (wpAny_seqItems hTI rfl ?_)))));refine wpAny_bind (m:=Builtin.SmallTypes.ownedTupleIsFree _) (wpAny_bind (wpAny_field hz rfl (x:=Value.none) rfl (wpAny_pure ?_)));refine wpAny_bind (wpAny_rule (wpAny_bind (wpAny_field hz rfl (x:=Value.ref TO) rfl (wpAny_bind (wpAny_setField_rec hz (by simp) fun g1 zg sg=>wpAny_bind ?_)))));simp only [List.zipIdx_cons,List.zipIdx_nil,List.forIn_cons,List.forIn_nil];have zg:IsZip g1 z TI TO .ellipsis:=zg;have sg:Heap.SameBut z hp g1:=sg;refine wpAny_bind (wpAny_bind (wpAny_onRaise (wpAny_bind (m:=Builtin.SmallTypes.nextOf (.ref i1)) (n1.step _ _ _ (n1.fra hp g1 h1 fun c hc o=>sg.extBut _ _ (hf1 c hc).1) fun g2 e t2 ⟨oe,qe,ce⟩=>?_))));have t2:Heap.ExtBut i1 g1 g2:=t2;have z2:IsZip g2 z TI TO .ellipsis:=t2 _ _ D.i1z.symm zg;have ne:e≠z:=fun q=>by subst q; rw [z2] at qe; cases qe; simp at ce
 refine wpAny_setField_rec z2 (by simp) fun g3 _ t3=>?_
 have t3:Heap.SameBut z g2 g3:=t3;exact hE g3 e k0 (fun c o e1 _ e3 _ q=>t3.extBut _ _ e1 (t2 _ _ e3 (sg.extBut _ _ e1 q))) ⟨oe,t3.extBut _ _ ne qe,ce⟩
theorem fT {z TI TO i1 i2:Addr} {f1 f2:List Addr} {Sa Sb Sc:Heap->Prop} {P1:Value->Prop} {a b:Value} {Q:Fin->Shared->Prop} (D:ZAp z TI TO i1 i2)
  (n1:Nx prog w A i1 f1 Sa Sb P1) (n2:Nd prog w A i2 f2 Sc) (hf1:∀ c ∈ f1,c≠z/\c≠TO/\c≠i2) (hf2:∀ c ∈ f2,c≠z/\c≠TO/\c≠i1)
  (hz:IsZip s.heap z TI TO .none) (hTI:IsPair s.heap TI (.ref i1) (.ref i2)) (hTO:IsPair s.heap TO a b) (h1:Sa s.heap) (h2:Sc s.heap)
  (hE:∀ h' e tk,(∀ c o,c≠z->c≠TO->c≠i1->c≠i2->s.heap.get? c=some o->h'.get? c=some o)->(∃ o,h'.get? e=some o/\o.cls=.type "StopIteration")->E (.ref e) { s with heap:=h',toks:=tk }):
  wpAny (model prog w) A (Builtin.«zip.__next__» ⟨[.ref z],[]⟩) Q E s:=by
 obtain ⟨hp,gs,dr,k0,os⟩:=s;refine wpAny_bind (m:=slotArgs "__next__" 0 _) (wpAny_of_eq (a:=(Value.ref _,[])) rfl ?_);refine wpAny_bind (m:=field _ 2) (wpAny_field hz rfl (x:=Value.bool false) rfl (wpAny_bind (m:=field _ 3) (wpAny_field hz rfl (x:=Value.ref TI) rfl (wpAny_bind (m:=seqItems? _) (wpAny_seqItems hTI rfl ?_)))));refine wpAny_bind (m:=Builtin.SmallTypes.ownedTupleIsFree _) (wpAny_bind (wpAny_field hz rfl (x:=Value.none) rfl (wpAny_pure ?_)));refine wpAny_bind (wpAny_rule (wpAny_bind (wpAny_field hz rfl (x:=Value.ref TO) rfl (wpAny_bind (wpAny_setField_rec hz (by simp) fun g1 zg sg=>wpAny_bind ?_)))));simp only [List.zipIdx_cons,List.zipIdx_nil,List.forIn_cons,List.forIn_nil];have zg:IsZip g1 z TI TO .ellipsis:=zg;have sg:Heap.SameBut z hp g1:=sg;refine wpAny_bind (wpAny_bind (wpAny_onRaise (wpAny_bind (m:=Builtin.SmallTypes.nextOf (.ref i1)) (n1.step _ _ _ (n1.fra hp g1 h1 fun c hc o=>sg.extBut _ _ (hf1 c hc).1) fun x g2 k1 p1 b2 t2=>wpAny_pure ?_))));have t2:Heap.SameBut i1 g1 g2:=t2;have o2:IsPair g2 TO a b:=t2.extBut _ _ D.TOi1 (sg.extBut _ _ D.TOz hTO);refine wpAny_bind (wpAny_seqItems o2 rfl (wpAny_bind (wpAny_updateSeq_pair o2 fun g3 _ t3=>wpAny_bind (wpAny_letGo (wpAny_pure ?_)))));have t3:Heap.SameBut TO g2 g3:=t3;have to3:∀ c o,c≠z->c≠TO->c≠i1->hp.get? c=some o->g3.get? c=some o:=fun c o e1 e2 e3 q=>t3.extBut _ _ e2 (t2.extBut _ _ e3 (sg.extBut _ _ e1 q))
 refine wpAny_bind (wpAny_bind (wpAny_onRaise (wpAny_bind (m:=Builtin.SmallTypes.nextOf (.ref i2)) (n2.step _ _ _ (n2.fra hp g3 h2 fun c hc o=>to3 c o (hf2 c hc).1 (hf2 c hc).2.1 (hf2 c hc).2.2) fun g4 e t4 ⟨oe,qe,ce⟩=>?_))));have t4:Heap.ExtBut i2 g3 g4:=t4;have z4:IsZip g4 z TI TO .ellipsis:=t4 _ _ D.i2z.symm (t3.extBut _ _ D.TOz.symm (t2.extBut _ _ D.i1z.symm zg));have ne:e≠z:=fun q=>by subst q; rw [z4] at qe; cases qe; simp at ce
 refine wpAny_setField_rec z4 (by simp) fun g5 _ t5=>?_
 have t5:Heap.SameBut z g4 g5:=t5;exact hE g5 e k1 (fun c o e1 e2 e3 e4 q=>t5.extBut _ _ e1 (t4 _ _ e4 (to3 c o e1 e2 e3 q))) ⟨oe,t5.extBut _ _ ne qe,ce⟩
theorem eF {z:Addr} {o:Obj} {Q:Option Value->Shared->Prop} (hz:s.heap.get? z=some o) (hc:o.cls=.type "zip")
  (h:wpAny (model prog w) A.in1 (Builtin.«zip.__next__» ⟨[.ref z],[]⟩) (fun fin s'=>∃ v,fin=.done (.ret v)/\Q (some v) s') (fun _ _=>False) s):wpAny (model prog w) A (pyNext (.ref z)) Q E s:=by
 have hT:s.TypeIs (.ref z) "zip" := ⟨_,hz,hc⟩;unfold pyNext;exact wpAny_bind (wpAny_attempt (wpAny_callSpecial?_slot (name:=Str.ofString "__next__") hT F.slot_zip_next
  (wpAny_call_entry F.slot_zip_next hT F.entry_zip_next (wpAny_mono h (fun fin s' ⟨v,e,q⟩=>⟨v,e,wpAny_pure q⟩) fun _ _ f=>f.elim) (F.args_zip_next_1 _))))
theorem bT {z:Addr} {o:Obj} {Q:Option Value->Shared->Prop} (hz:s.heap.get? z=some o) (hc:o.cls=.type "zip")
  (h:wpAny (model prog w) A.in1 (Builtin.«zip.__next__» ⟨[.ref z],[]⟩) (fun _ _=>False) (fun e s'=>∃ a,e=.ref a/\(∃ o,s'.heap.get? a=some o/\o.cls=.type "StopIteration")/\Q none s') s):wpAny (model prog w) A (pyNext (.ref z)) Q E s:=by
 have hT:s.TypeIs (.ref z) "zip" := ⟨_,hz,hc⟩;unfold pyNext;refine wpAny_bind (wpAny_attempt (wpAny_callSpecial?_slot (name:=Str.ofString "__next__") hT F.slot_zip_next
  (wpAny_call_entry F.slot_zip_next hT F.entry_zip_next (wpAny_mono h (fun _ _ f=>f.elim) fun e s' he=>?_) (F.args_zip_next_1 _))))
 obtain ⟨a,rfl,⟨o,ho,hc⟩,q⟩:=he;refine wpAny_bind (wpAny_isInstance (T := "StopIteration") (b:=true) ⟨o,ho,hc⟩ isSubtype_stop ?_);exact wpAny_pure q
end
inductive Src where
 | str (x:Str) | lst (a:Addr)
noncomputable def SrcGo (K:Frag) (H:Hp):Src->Nat->Prop
 | .str x,i=>i < x.cps.size
 | .lst a,i=>∃ xs v,SqL K H a xs/\xs[i]? = some v
noncomputable def SrcAt (K:Frag) (H:Hp):Src->Nat->V->Prop
 | .str x,i,v=>∃ c,x.cps[i]? = some c/\v=.str ⟨#[c]⟩
 | .lst a,i,v=>∀ xs,SqL K H a xs->xs[i]? = some v
noncomputable def SrcEnd (K:Frag) (H:Hp):Src->Nat->Prop
 | .str x,i=>x.cps.size<=i
 | .lst a,i=>∃ xs,SqL K H a xs/\xs.length<=i
noncomputable def SrcIt (h:Heap):Src->Addr->Nat->Prop
 | .str x,it,i=>∃ t,h.IsStrIter it (strIterType x) x t i
 | .lst a,it,i=>h.IsListIter it a i
noncomputable def SrcOf (K:Frag) (H:Hp):Src->V->Prop
 | .str x,v=>v=.str x
 | .lst a,v=>v=.ref a/\∃ xs,SqL K H a xs
theorem SrcIt.obj {h:Heap} {S:Src} {it:Addr} {i:Nat} (st:SrcIt h S it i):∃ o,h.get? it=some o/\(∀ v,o.data≠.cell v)/\o.cls≠.type "list" /\ o.cls≠.type "zip" /\ o.cls≠.type "tuple" := by
 cases S with
 | str x=>
  obtain ⟨t,o,e,c,d⟩:=st;refine ⟨o,e,(fun v z=>by rw [d] at z; cases z),?_⟩;rw [c];rcases aQ x with q | q <;> rw [q] <;> decide
 | lst a=>
  obtain ⟨o,e,c,d⟩:=(show h.IsListIter it a i from st);refine ⟨o,e,(fun v z=>by rw [d] at z; cases z),?_⟩;rw [c];decide
theorem SrcIt.keep {h h':Heap} {S:Src} {it:Addr} {i:Nat} (st:SrcIt h S it i) (k:∀ o,h.get? it=some o->h'.get? it=some o):SrcIt h' S it i:=by
 cases S with
 | str x=>
  obtain ⟨t,o,e,r⟩:=st;exact ⟨t,o,k o e,r⟩
 | lst a=>exact Heap.IsListIter.at (show h.IsListIter it a i from st) k
section
variable {X:Cx} {pins:List (Addr × Obj)} {σ:St} {H:Hp} {s:Shared} {A:Around}
theorem oC (I:Inv X pins σ H s) (S:Src) {it:Addr} {i:Nat} (st:SrcIt s.heap S it i) (go:SrcGo X.K H S i):
  ∃ (f:List Addr) (Sa Sb:Heap->Prop) (P:Value->Prop),Nx X.prog X.w A it f Sa Sb P/\Sa s.heap/\(∀ c ∈ f,c=it\/∃ o,s.heap.get? c=some o/\o.cls=.type "list")/\(∀ h,Sb h->SrcIt h S it (i+1))/\∀ v,P v->∃ x,RelV x v/\SrcAt X.K H S i x:=by
 cases S with
 | str x=>
  obtain ⟨t,st⟩:=st;have hi:i < x.cps.size:=go;refine ⟨[it],fun h=>h.IsStrIter it (strIterType x) x t i,fun h=>h.IsStrIter it (strIterType x) x t (i+1),fun v=>∃ u,v=.str ⟨#[x.cps[i]]⟩ u,⟨?_,?_,?_⟩,st,fun c hc=>.inl (by simpa using hc),fun h q=>⟨t,q⟩,?_⟩
  ·rintro h h' ⟨o,e,r⟩ k;exact ⟨o,k it (by simp) o e,r⟩
  ·rintro h h' ⟨o,e,r⟩ k;exact ⟨o,k it (by simp) o e,r⟩
  ·intro s Q E st hQ;exact iV st (c:=x.cps[i]) (by simp [hi]) fun h' st' sb=>hQ _ h' _ ⟨_,rfl⟩ st' sb
  ·rintro v ⟨u,rfl⟩;exact ⟨.str ⟨#[x.cps[i]]⟩,⟨u,rfl⟩,_,by simp [hi],rfl⟩
 | lst a=>
  obtain ⟨xs,v,hq,hv⟩:=go;obtain ⟨its,rv,pl,hz⟩:=I.list hq;obtain ⟨u,hu,ru⟩:=rv.get hv;have st':s.heap.IsListIter it a i:=st;obtain ⟨o,e,c,n,hd⟩:=id pl.isList;have hne:a≠it:=by
   rintro rfl;obtain ⟨o',e',c',_⟩:=st';rw [e] at e';cases e';rw [c] at c';exact absurd c' (by decide)
  refine ⟨[it,a],fun h=>h.IsListIter it a i/\h.IsList a its.toArray,fun h=>h.IsListIter it a (i+1)/\h.IsList a its.toArray,fun z=>z=u,⟨?_,?_,?_⟩,⟨st',pl.isList⟩,?_,fun h q=>q.1,?_⟩
  ·rintro h h' ⟨s1,s2⟩ k;exact ⟨s1.at fun o e=>k it (by simp) o e,s2.at fun o e=>k a (by simp) o e⟩
  ·rintro h h' ⟨s1,s2⟩ k;exact ⟨s1.at fun o e=>k it (by simp) o e,s2.at fun o e=>k a (by simp) o e⟩
  ·intro s Q E st hQ;exact wpAny_nextOf_list_item st.1 st.2 (x:=u) (by simpa using hu) fun h' st' sb=>hQ _ h' s.toks rfl ⟨st',st.2.extBut sb.extBut hne⟩ sb
  ·intro c' hc;rcases (by simpa using hc:c'=it\/c'=a) with z | z
   ·exact .inl z
   ·subst z;exact .inr ⟨o,e,c⟩
  ·rintro z rfl;exact ⟨v,ru,fun ys hy=>by rw [I.list_inj hy hq]; exact hv⟩
theorem sM (I:Inv X pins σ H s) (hh:A.handled=none) (S:Src) {it:Addr} {i:Nat} (st:SrcIt s.heap S it i) (en:SrcEnd X.K H S i):
  ∃ (f:List Addr) (Sa:Heap->Prop),Nd X.prog X.w A it f Sa/\Sa s.heap/\(∀ c ∈ f,c=it\/∃ o,s.heap.get? c=some o/\o.cls=.type "list"):=by
 cases S with
 | str x=>
  obtain ⟨t,st⟩:=st;have hi:x.cps.size<=i:=en;refine ⟨[it],fun h=>h.IsStrIter it (strIterType x) x t i,⟨?_,?_⟩,st,fun c hc=>.inl (by simpa using hc)⟩
  ·rintro h h' ⟨o,e,r⟩ k;exact ⟨o,k it (by simp) o e,r⟩
  ·intro s Q E st hE;exact ji hh st (by simp [hi]) hE
 | lst a=>
  obtain ⟨xs,hq,hv⟩:=en;obtain ⟨its,rv,pl,hz⟩:=I.list hq;have st':s.heap.IsListIter it a i:=st;obtain ⟨o,e,c,n,hd⟩:=id pl.isList;have hl:=rv.length;refine ⟨[it,a],fun h=>h.IsListIter it a i/\h.IsList a its.toArray,⟨?_,?_⟩,⟨st',pl.isList⟩,?_⟩
  ·rintro h h' ⟨s1,s2⟩ k;exact ⟨s1.at fun o e=>k it (by simp) o e,s2.at fun o e=>k a (by simp) o e⟩
  ·intro s Q E st hE;exact wpAny_nextOf_list_end hh st.1 st.2 (by simp; omega) hE
  ·intro c' hc;rcases (by simpa using hc:c'=it\/c'=a) with z | z
   ·exact .inl z
   ·subst z;exact .inr ⟨o,e,c⟩
theorem Inv.turnedLaid {t':Nat} {its:List Addr} {h':Heap} {a:Addr} {o:HO} (I:Inv X pins σ H s) (k:∀ b ob,b ∉ its->s.heap.get? b=some ob->h'.get? b=some ob) (hf:∀ b ∈ its,FpOk X pins H b) (hp:s.heap.objs.size<=a)
  (new:ObjOk X.prog X.w (upd H a o) h' a o) (ht:0 < t':=by first | assumption | exact Nat.succ_pos _ | (apply Inv.tk; assumption) | omega):Inv X pins σ (upd H a o) { s with heap:=h',toks:=t' }:=by
 have hn:H a=none:=I.hok.fresh hp;have nit:∀ b u,H b=some u->b ∉ its:=fun b u e z=>by
  have q:=(hf b z).1;rw [q] at e;cases e
 have nea:∀ b ob,s.heap.get? b=some ob->b≠a:=fun b ob e=>Nat.ne_of_lt (Nat.lt_of_lt_of_le (Heap.lt_size e) hp)
 refine I.step (g':=s.gens) (d':=s.drawn) (ch:=its) (fun b hb=>?_) (fun b o _ _ hc e _=>k b o hc e) (fun b o _ _ hc e _=>⟨o.slots,k b o hc e⟩) (fun b ob _ e n=>by rw [aA (nea b ob e)]; exact n)
  (fun b o hc e=>⟨o,k b o hc e⟩) (fun _ _ e=>by rw [aA (az e hn)]; exact e) (fun _ _ _ e=>by rw [aA (az e hn)]; exact e) (fun b ps e=>⟨#[],by rw [aA (az e hn),e]; simp⟩) (fun m hm=>?_) (fun b u e=>?_) I.bare
 ·obtain ⟨f0,f1,f2,f3,f4,f5⟩:=hf b hb;exact ⟨f3,f1,f4,f5⟩
 ·obtain ⟨o,es,ep,ho,r⟩:=hm;exact ⟨o,es,ep,k _ o (fun z=>(hf _ z).2.1 rfl) ho,r⟩
 ·by_cases hb:b=a
  ·subst hb;rw [upd_same] at e;cases e;exact new
  ·rw [aA hb] at e;refine (I.hok b u e).stay (fun c v hc q=>k c v ?_ q) (fun c q=>by rw [aA (az q hn)]; exact q) fun c xs q=>by rw [aA (az q hn)]; exact q
   rcases hc with z | z
   ·rw [z]; exact nit b u e
   ·exact nit c _ z
end
noncomputable def Itz (K:Frag) (S1 S2:Src):It:=⟨fun i H=>SrcGo K H S1 i/\SrcGo K H S2 i,fun i H v H'=>∃ T x y,v=.ref T/\H T=none/\H'=upd H T (.tup [x,y])/\SrcAt K H S1 i x/\SrcAt K H S2 i y,
 fun i H=>SrcEnd K H S1 i\/(SrcGo K H S1 i/\SrcEnd K H S2 i)⟩
def ZipSt (z TI TO i1 i2:Addr) (S1 S2:Src) (i:Nat) (h:Heap):Prop:=∃ a b,IsZip h z TI TO .none/\IsPair h TI (.ref i1) (.ref i2)/\IsPair h TO a b/\SrcIt h S1 i1 i/\SrcIt h S2 i2 i
theorem jd {h:Heap} {f:List Addr} {z TI TO i1 i2:Addr} {a b:Value} {S2:Src} {k:Nat} (hz:IsZip h z TI TO .none) (hTO:IsPair h TO a b) (h2:SrcIt h S2 i2 k) (n1:i1≠z) (n2:i1≠TO) (n3:i1≠i2)
  (m:∀ c ∈ f,c=i1\/∃ o,h.get? c=some o/\o.cls=.type "list"):∀ c ∈ f,c≠z/\c≠TO/\c≠i2:=fun c hc=>by
 rcases m c hc with e | ⟨o,e,c1⟩
 ·subst e;exact ⟨n1,n2,n3⟩
 ·refine ⟨?_,?_,?_⟩
  ·rintro rfl;rw [hz] at e;cases e;exact absurd (show Value.type "zip" = Value.type "list" from c1) (by decide)
  ·rintro rfl;rw [hTO] at e;cases e;exact absurd (show Value.type "tuple" = Value.type "list" from c1) (by decide)
  ·rintro rfl;obtain ⟨o',e',_,q,_⟩:=h2.obj;rw [e] at e';cases e';exact q c1
theorem nc {P:Program} {w:World} {K:Frag} {elts:List Expr} {kk:Nat} {pos:Pos} {z TI TO i1 i2:Addr} (D:ZAp z TI TO i1 i2) (S1 S2:Src):
  Turn P w K (.Tuple elts kk pos) (Itz K S1 S2) [z,TI,TO,i1,i2] z (ZipSt z TI TO i1 i2 S1 S2) where
 mem:=by simp
 obj:=fun i h st b hb=>by
  obtain ⟨a,c,hz,hTI,hTO,h1,h2⟩:=st;simp only [List.mem_cons,List.not_mem_nil,or_false] at hb;rcases hb with rfl | rfl | rfl | rfl | rfl
  ·exact ⟨_,hz,fun v q=>by have q':Data.fields _=Data.cell v:=q; cases q'⟩
  ·exact ⟨_,hTI,fun v q=>by have q':Data.seq _ _=Data.cell v:=q; cases q'⟩
  ·exact ⟨_,hTO,fun v q=>by have q':Data.seq _ _=Data.cell v:=q; cases q'⟩
  ·obtain ⟨o,e,q,_⟩:=h1.obj;exact ⟨o,e,q⟩
  ·obtain ⟨o,e,q,_⟩:=h2.obj;exact ⟨o,e,q⟩
 keep:=fun i h h' st k=>by
  obtain ⟨a,c,hz,hTI,hTO,h1,h2⟩:=st;exact ⟨a,c,k z (by simp) _ hz,k TI (by simp) _ hTI,k TO (by simp) _ hTO,h1.keep fun o e=>k i1 (by simp) o e,h2.keep fun o e=>k i2 (by simp) o e⟩
 item:=by
  intro X hP hw hK hc i pins s σ H E I hf st hg;subst hP hw hK;obtain ⟨a,b,hz,hTI,hTO,h1,h2⟩:=st;obtain ⟨g1,g2⟩:=hg;obtain ⟨f1,Sa,Sb,P1,n1,a1,m1,b1,r1⟩:=oC (A:=X.A.in1) I S1 h1 g1;obtain ⟨f2,Sc,Sd,P2,n2,a2,m2,b2,r2⟩:=oC (A:=X.A.in1) I S2 h2 g2;refine tokQ I.tk (eF hz rfl (fu D n1 n2 (jd hz hTO h2 D.i1z D.TOi1.symm D.i12 m1) (jd hz hTO h1 D.i2z D.TOi2.symm D.i12.symm m2) hz hTI hTO a1 a2 fun x y h' tk p1 p2 z1 z2 q1 q2 z3 z4 kp (htk:0 < tk)=>?_));obtain ⟨vx,rx,ax⟩:=r1 x p1;obtain ⟨vy,ry,ay⟩:=r2 y p2;have fresh:H s.heap.objs.size=none:=I.hok.fresh (Nat.le_refl _);have off:∀ {c o},s.heap.get? c=some o->c≠s.heap.objs.size:=fun e=>Nat.ne_of_lt (Heap.lt_size e)
  refine ⟨_,rfl,wpAny_letOwnedTupleGo_zip z1 fun h'' z1' sb=>?_⟩
  replace sb:Heap.SameBut z h' h'':=sb
  have hT:IsPair h'' s.heap.objs.size x y:=sb.extBut _ _ (Ne.symm (off hz)) z3;have I1:Inv X pins σ (upd H s.heap.objs.size (.tup [vx,vy])) { s with heap:=h'',toks:=tk }:=by
   refine I.turnedLaid (its:=[z,TO,i1,i2]) (fun c o hc' e=>?_) (fun c hc'=>hf c ?_) (Nat.le_refl _) ?_
   ·simp only [List.mem_cons,List.not_mem_nil,or_false,not_or] at hc';exact sb.extBut _ _ hc'.1 (kp c o hc'.1 hc'.2.1 hc'.2.2.1 hc'.2.2.2 e)
   ·simp only [List.mem_cons,List.not_mem_nil,or_false] at hc' ⊢;rcases hc' with q | q | q | q
    ·exact .inl q
    ·exact .inr (.inr (.inl q))
    ·exact .inr (.inr (.inr (.inl q)))
    ·exact .inr (.inr (.inr (.inr q)))
   ·exact ⟨by show 2<=sizeLine; decide,[x,y],.cons rx (.cons ry .nil),_,hT,rfl,_,rfl⟩
  refine ⟨.ref s.heap.objs.size,_,I1,rfl,⟨_,vx,vy,rfl,fresh,rfl,ax,ay⟩,⟨x,y,z1',?_,?_,?_,?_⟩,fun c hc'=>?_⟩
  ·exact sb.extBut _ _ D.TIz (kp _ _ D.TIz D.TITO D.TIi1 D.TIi2 hTI)
  ·exact sb.extBut _ _ D.TOz z2
  ·exact (b1 h' q1).keep fun o e=>sb.extBut _ _ D.i1z e
  ·exact (b2 h' q2).keep fun o e=>sb.extBut _ _ D.i2z e
  ·have ne:c≠s.heap.objs.size:=by
    simp only [List.mem_cons,List.not_mem_nil,or_false] at hc';rcases hc' with rfl | rfl | rfl | rfl | rfl
    ·exact off hz
    ·exact off hTI
    ·exact off hTO
    ·obtain ⟨o,e,_⟩:=h1.obj;exact off e
    ·obtain ⟨o,e,_⟩:=h2.obj;exact off e
   rw [aA ne];exact (hf c hc').1
 done:=by
  intro X hP hw hK hc i pins s σ H E I hf st hg;subst hP hw hK;obtain ⟨a,b,hz,hTI,hTO,h1,h2⟩:=st;have hh:X.A.in1.handled=none:=I.ok.hd hc;have fin:∀ (h':Heap) (tk:Nat),0 < tk->(∀ c o,c≠z->c≠TO->c≠i1->c≠i2->s.heap.get? c=some o->h'.get? c=some o)->Inv X pins σ H { s with heap:=h',toks:=tk }:=fun h' tk htk kp=>
   I.turnedL (its:=[z,TO,i1,i2]) (fun c o hc' e=>by
    simp only [List.mem_cons,List.not_mem_nil,or_false,not_or] at hc';exact kp c o hc'.1 hc'.2.1 hc'.2.2.1 hc'.2.2.2 e) (fun c hc'=>hf c (by
    simp only [List.mem_cons,List.not_mem_nil,or_false] at hc' ⊢;rcases hc' with q | q | q | q
    ·exact .inl q
    ·exact .inr (.inr (.inl q))
    ·exact .inr (.inr (.inr (.inl q)))
    ·exact .inr (.inr (.inr (.inr q)))))
  rcases hg with e1 | ⟨g1,e2⟩
  ·obtain ⟨f1,Sa,n1,a1,m1⟩:=sM I hh S1 h1 e1;exact tokQ I.tk (bT hz rfl (fU D n1 (jd hz hTO h2 D.i1z D.TOi1.symm D.i12 m1) hz hTI a1 fun h' e tk kp he=>⟨e,rfl,he,fun htk=>⟨rfl,fin h' tk htk kp⟩⟩))
  ·obtain ⟨f1,Sa,Sb,P1,n1,a1,m1,b1,r1⟩:=oC (A:=X.A.in1) I S1 h1 g1;obtain ⟨f2,Sc,n2,a2,m2⟩:=sM I hh S2 h2 e2;exact tokQ I.tk (bT hz rfl (fT D n1 n2 (jd hz hTO h2 D.i1z D.TOi1.symm D.i12 m1) (jd hz hTO h1 D.i2z D.TOi2.symm D.i12.symm m2) hz hTI hTO a1 a2 fun h' e tk kp he=>⟨e,rfl,he,fun htk=>⟨rfl,fin h' tk htk kp⟩⟩))
 self:=fun _ _ _ _ _ st h=>by
  obtain ⟨a,b,hz,_⟩:=st;exact wpAny_pyIter_zip hz h
noncomputable def srcVal:Src->Tok->Value
 | .str x,t=>.str x t
 | .lst a,_=>.ref a
noncomputable def srcObj:Src->Tok->Obj
 | .str x,t=>{ cls:=.type (strIterType x),data:=.fields #[.str x t,.int 0 0] }
 | .lst a,_=>{ cls:=.type "list_iterator",data:=.fields #[.ref a,.int 0 0] }
noncomputable def srcOk (h:Heap):Src->Prop
 | .str _=>True
 | .lst a=>∃ its,h.IsList a its
theorem srcOk.push {h:Heap} {S:Src} (ok:srcOk h S) (o:Obj):srcOk (h.push o) S:=by
 cases S with
 | str x=>trivial
 | lst a=>
  obtain ⟨its,q⟩:=ok;exact ⟨its,Heap.IsList.push q _⟩
theorem gH (S:Src) (t:Tok):(srcObj S t).isFreed=false:=by cases S <;> rfl
theorem kT {h:Heap} {S:Src} {t:Tok} {it:Addr} (e:h.get? it=some (srcObj S t)):SrcIt h S it 0:=by
 cases S with
 | str x=>exact ⟨t,_,e,rfl,rfl⟩
 | lst a=>exact ⟨_,e,rfl,rfl⟩
section
variable {prog:Program} {w:World} {A:Around} {E:Value->Shared->Prop} {s:Shared}
theorem jI {S:Src} {t:Tok} {Q:Value->Shared->Prop} (ok:srcOk s.heap S) (hQ:Q (.ref s.heap.objs.size) { s with heap:=s.heap.push (srcObj S t) }):wpAny (model prog w) A (pyIter (srcVal S t)) Q E s:=by
 cases S with
 | str x=>exact wpAny_pyIter_strU hQ
 | lst a=>
  obtain ⟨its,q⟩:=ok;exact wpAny_pyIter_list q hQ
end
noncomputable abbrev zH1 (h:Heap) (S1:Src) (t1:Tok):Heap:=h.push (srcObj S1 t1)
noncomputable abbrev zH2 (h:Heap) (S1 S2:Src) (t1 t2:Tok):Heap:=(zH1 h S1 t1).push (srcObj S2 t2)
noncomputable abbrev zH3 (h:Heap) (S1 S2:Src) (t1 t2:Tok):Heap:=(zH2 h S1 S2 t1 t2).push { cls:=.type "tuple",data:=.seq #[.ref h.objs.size,.ref (zH1 h S1 t1).objs.size] }
noncomputable abbrev zH4 (h:Heap) (S1 S2:Src) (t1 t2:Tok):Heap:=(zH3 h S1 S2 t1 t2).push { cls:=.type "tuple",data:=.seq #[.none,.none] }
noncomputable abbrev zH5 (h:Heap) (S1 S2:Src) (t1 t2:Tok):Heap:=(zH4 h S1 S2 t1 t2).push { cls:=.type "zip",data:=.fields #[.none,.bool false,.bool false,.ref (zH2 h S1 S2 t1 t2).objs.size,.ref (zH3 h S1 S2 t1 t2).objs.size] }
theorem jJ (S1 S2:Src) (t1 t2:Tok):
  Meets (Builtin.«zip.__new__» ⟨[.type "zip",srcVal S1 t1,srcVal S2 t2],[]⟩) (fun _ R s=>srcOk s.heap S1/\srcOk s.heap S2 /\
   R (.ok (.ret (.ref (zH4 s.heap S1 S2 t1 t2).objs.size))) { s with heap:=zH5 s.heap S1 S2 t1 t2 }):=
 .of_wp fun prog w A R s h=>by
  obtain ⟨hp,g,d,tk,os⟩:=s; obtain ⟨hl1,hl2,h⟩:=h;have hsub:=sub_zip;have hL1:srcOk (Shared.heap ⟨hp,g,d,tk,os⟩) S1:=hl1;have hL2:srcOk (Shared.heap ⟨hp.push (srcObj S1 t1),g,d,tk,os⟩) S2:=hl2.push _
  wp_walk using jI hL1,jI hL2
  exact ⟨_,rfl,h⟩
section
variable {prog:Program} {w:World} {A:Around} {E:Value->Shared->Prop} {s:Shared}
theorem li {S1 S2:Src} {t1 t2:Tok} {Q:Value->Shared->Prop} (hl1:srcOk s.heap S1) (hl2:srcOk s.heap S2)
  (h:∀ h',ZipSt (s.heap.objs.size+4) (s.heap.objs.size+2) (s.heap.objs.size+3) s.heap.objs.size (s.heap.objs.size+1) S1 S2 0 h'->(∀ c o,s.heap.get? c=some o->h'.get? c=some o)->Q (.ref (s.heap.objs.size+4)) { s with heap:=h' }):
  wpAny (model prog w) A (call (.type "zip") [srcVal S1 t1,srcVal S2 t2]) Q E s:=by
 refine callType_new F.called_zip (by decide) (F.typeCall_zip_2 _ _) (F.newCall_zip_2 _ _) (fun obj=>F.args_object_init_3 obj _ _) F.entry_zip_new
  (jJ S1 S2 t1 t2) ⟨hl1,hl2,?_⟩
 have z1:(zH1 s.heap S1 t1).objs.size=s.heap.objs.size+1:=Heap.size_push ..;have z2:(zH2 s.heap S1 S2 t1 t2).objs.size=s.heap.objs.size+2:=by rw [Heap.size_push,z1]
 have z3:(zH3 s.heap S1 S2 t1 t2).objs.size=s.heap.objs.size+3:=by rw [Heap.size_push,z2]
 have z4:(zH4 s.heap S1 S2 t1 t2).objs.size=s.heap.objs.size+4:=by rw [Heap.size_push,z3]
 have g5:(zH5 s.heap S1 S2 t1 t2).get? (zH4 s.heap S1 S2 t1 t2).objs.size=some _:=Heap.get?_push_size _ rfl;have g4:(zH5 s.heap S1 S2 t1 t2).get? (zH3 s.heap S1 S2 t1 t2).objs.size=some _:=Heap.get?_push_of_some _ (Heap.get?_push_size _ rfl);have g3:(zH5 s.heap S1 S2 t1 t2).get? (zH2 s.heap S1 S2 t1 t2).objs.size=some _:=Heap.get?_push_of_some _ (Heap.get?_push_of_some _ (Heap.get?_push_size _ rfl));have g2:(zH5 s.heap S1 S2 t1 t2).get? (zH1 s.heap S1 t1).objs.size=some (srcObj S2 t2):=Heap.get?_push_of_some _ (Heap.get?_push_of_some _ (Heap.get?_push_of_some _ (Heap.get?_push_size _ (gH _ _))));have g1:(zH5 s.heap S1 S2 t1 t2).get? s.heap.objs.size=some (srcObj S1 t1):=Heap.get?_push_of_some _ (Heap.get?_push_of_some _ (Heap.get?_push_of_some _ (Heap.get?_push_of_some _ (Heap.get?_push_size _ (gH _ _)))));show _/\_;rw [z2,z3,z4] at g5;rw [z1,z2] at g3;rw [z3] at g4;rw [z1] at g2;rw [z4];exact ⟨⟨_,g5,rfl⟩,h _ ⟨_,_,g5,g3,g4,kT g1,kT g2⟩ fun c o x=>
  Heap.get?_push_of_some _ (Heap.get?_push_of_some _ (Heap.get?_push_of_some _ (Heap.get?_push_of_some _ (Heap.get?_push_of_some _ x))))⟩
theorem ms (n:Nat):ZAp (n+4) (n+2) (n+3) n (n+1):=by
 constructor <;> exact fun h=>absurd (show (_:Nat)=_ from h) (by omega)
end
noncomputable def iZip (K:Frag) (ta:TA):TI:=fun σ H R=>ta σ H fun vs H1=>∃ S1 S2 v1 v2,vs=[v1,v2]/\SrcOf K H1 S1 v1/\SrcOf K H1 S2 v2/\R (Itz K S1 S2) H1
section
variable {X:Cx}
theorem fK {pins:List (Addr × Obj)} {σ:St} {H:Hp} {s:Shared} {S:Src} {v:V} {u:Value} (I:Inv X pins σ H s) (h:SrcOf X.K H S v) (r:RelV v u):∃ t,u=srcVal S t/\srcOk s.heap S:=by
 cases S with
 | str x=>
  have e:v=.str x:=h;subst e;obtain ⟨t,rfl⟩:=r;exact ⟨t,rfl,trivial⟩
 | lst a=>
  obtain ⟨e,xs,hq⟩:=h;subst e;cases r;obtain ⟨its,rv,pl,hz⟩:=I.list hq;exact ⟨0,rfl,_,pl.isList⟩
theorem nk:bootBuiltins "zip" = some (.type "zip"):=by decide +kernel
theorem wL {a b:Expr} {ta:TA} {elts:List Expr} {kk:Nat} {tpos p pos:Pos} (hg:Gl X "zip") (hm:X.mg "zip" = none) (ha:PA X [a,b] ta) (hs:starEach [a,b] X.env=[(false,eval a X.env),(false,eval b X.env)]:=by rfl) (hs2:starEach [b] X.env=[(false,eval b X.env)]:=by rfl):
  PI X (.Tuple elts kk tpos) (.Call (.Name "zip" p) [a,b] [] pos) (iZip X.K ta):=by
 intro pins s σ H R I h;refine Call_ (fq I hg hm nk (PyProof.Rows.callWith_type1 (thn (ha pos pins s σ H _ I h) fun us s1 ⟨vs,H1,I1,r1,q1⟩=>?_) (by rw [hs,hs2]) (by rw [hs2]; rfl)));obtain ⟨S1,S2,v1,v2,e,o1,o2,q⟩:=q1;subst e;cases r1 with
 | cons r rr=>
  cases rr with
  | cons r' rr=>
   cases rr;obtain ⟨t1,rfl,k1⟩:=fK I1 o1 r;obtain ⟨t2,rfl,k2⟩:=fK I1 o2 r';refine li k1 k2 fun h' st kp=>?_
   have I2:Inv X pins σ H1 { s1 with heap:=h' }:=I1.kept (t':=s1.toks) kp;have st':=st;obtain ⟨_,_,hz,_⟩:=st';refine wpAny_pyIter_zip hz ?_;refine ⟨_,_,_,Itz X.K S1 S2,H1,rfl,I2,nc (ms _) S1 S2,st,fun c hc=>?_,q⟩;have hc':s1.heap.objs.size<=c:=by
    simp only [List.mem_cons,List.not_mem_nil,or_false] at hc;rcases hc with rfl | rfl | rfl | rfl | rfl <;> omega
   exact I1.fpOk hc' (I1.hok.fresh hc')
end
noncomputable def clOf (cells:List (Str × Addr)):List (Str × NameKind)->List (Str × Addr)->List (Str × Addr)
 | [],cs=>cs
 | (n,k)::r,cs=>clOf cells r (if (k == NameKind.free)=true then (n,(cells.lookup n).getD 0)::cs else cs)
theorem eE {scope:Scope} {env:Env} (h:∀ y ∈ scope.names,y.2=.free->∃ c,env.cells.lookup y.1=some c):closureFor scope env=pure (clOf env.cells scope.names []):=by
 unfold closureFor;have key:∀ (names:List (Str × NameKind)) (cs:List (Str × Addr)),(∀ y ∈ names,y.2=.free->∃ c,env.cells.lookup y.1=some c) ->
   (forIn names cs (fun x r=>match x with
    | (name,kind)=>if (kind == NameKind.free)=true then (do let __do_lift <- cellOf env name; pure (ForInStep.yield ((name,__do_lift)::r))) else pure (ForInStep.yield r)):Sem (List (Str × Addr)))=pure (clOf env.cells names cs):=by
  intro names
  induction names with
  | nil=>intro cs _; rfl
  | cons y r ih=>
   intro cs hy;obtain ⟨n,k⟩:=y;rw [List.forIn_cons];have hr:∀ y ∈ r,y.2=.free->∃ c,env.cells.lookup y.1=some c:=fun y hm=>hy y (List.mem_cons_of_mem _ hm)
   cases hk:(k == NameKind.free) with
   | true=>
    have hk':k=.free:=by simpa using hk
    obtain ⟨c,hc⟩:=hy (n,k) List.mem_cons_self hk';have ec:cellOf env n=pure c:=by unfold cellOf; rw [hc]
    have e1:(clOf env.cells ((n,k)::r) cs)=clOf env.cells r ((n,c)::cs):=by
     show clOf env.cells r (if (k == NameKind.free)=true then (n,(env.cells.lookup n).getD 0)::cs else cs)=_;rw [hk,if_pos rfl,show env.cells.lookup n=some c from hc];rfl
    rw [e1,<- ih _ hr];simp only [ec,hk,if_true,pure_bind]
   | false=>
    have e1:(clOf env.cells ((n,k)::r) cs)=clOf env.cells r cs:=by
     show clOf env.cells r (if (k == NameKind.free)=true then (n,(env.cells.lookup n).getD 0)::cs else cs)=_;rw [hk,if_neg Bool.false_ne_true]
    rw [e1,<- ih _ hr];simp only [hk,Bool.false_eq_true,if_false,pure_bind]
 have q:=key scope.names [] h
 first
  | exact q
  | (simp only [bind_pure]; exact q)
  | (rw [q]; rfl)
theorem jq {cells:List (Str × Addr)} {x:Str} {c:Addr}:∀ (names:List (Str × NameKind)) (cs:List (Str × Addr)),(∀ y ∈ names,y.2=.free->∃ c,cells.lookup y.1=some c)->(∀ x c,cs.lookup x=some c->cells.lookup x=some c) ->
  (clOf cells names cs).lookup x=some c->cells.lookup x=some c
 | [],cs,_,h,e=>h x c e
 | (n,k)::r,cs,hn,h,e=>by
  unfold clOf at e;refine jq r _ (fun y hm=>hn y (List.mem_cons_of_mem _ hm)) (fun x c q=>?_) e;split at q
  ·rename_i hk;have hk':k=.free:=by simpa using hk
   obtain ⟨c',hc⟩:=hn (n,k) List.mem_cons_self hk';rw [List.lookup_cons] at q;cases hx:(x == n) with
   | true=>
    rw [hx] at q;have hx':x=n:=by simpa using hx
    subst hx';rw [hc] at q;simp at q;rw [hc,q]
   | false=>
    rw [hx] at q;exact h x c q
  ·exact h x c q
theorem jK {cells:List (Str × Addr)} {x:Str}:∀ (names:List (Str × NameKind)) (cs:List (Str × Addr)),(cs.lookup x).isSome=true->((clOf cells names cs).lookup x).isSome=true
 | [],cs,h=>h
 | (n,k)::r,cs,h=>by
  unfold clOf;refine jK r _ ?_;split
  ·rw [List.lookup_cons];split
   ·rfl
   ·exact h
  ·exact h
theorem jc {cells:List (Str × Addr)} {x:Str}:∀ (names:List (Str × NameKind)) (cs:List (Str × Addr)),(x,NameKind.free) ∈ names->((clOf cells names cs).lookup x).isSome=true
 | [],_,h=>by cases h
 | (n,k)::r,cs,h=>by
  unfold clOf;rcases List.mem_cons.mp h with e | e
  ·cases e;refine jK r _ ?_;simp
  ·exact jc r _ e
theorem cH (env:Env) (x:Str):∀ names:List (Str × NameKind),
  (names.map fun (n,k)=>if (k == NameKind.free && env.scope.kind == .function && env.kindOf n == some .cell) then (n,NameKind.cell) else (n,k)).lookup x =
   (names.lookup x).map fun k=>if (k == NameKind.free && env.scope.kind == .function && env.kindOf x == some .cell)=true then .cell else k
 | []=>rfl
 | (n,k)::r=>by
  have ih:=cH env x r;simp only [List.map_cons];cases hx:(x == n) with
  | true=>
   have hx':x=n:=by simpa using hx
   subst hx';by_cases hc:(k == NameKind.free && env.scope.kind == .function && env.kindOf x == some .cell)=true
   ·rw [if_pos hc,List.lookup_cons,List.lookup_cons,hx];show some NameKind.cell=some (if (k == NameKind.free && env.scope.kind == .function && env.kindOf x == some .cell)=true then NameKind.cell else k);rw [if_pos hc]
   ·rw [if_neg hc,List.lookup_cons,List.lookup_cons,hx];show some k=some (if (k == NameKind.free && env.scope.kind == .function && env.kindOf x == some .cell)=true then NameKind.cell else k);rw [if_neg hc]
  | false=>
   by_cases hc:(k == NameKind.free && env.scope.kind == .function && env.kindOf n == some .cell)=true
   ·rw [if_pos hc];simp only [List.lookup_cons,hx];exact ih
   ·rw [if_neg hc];simp only [List.lookup_cons,hx];exact ih
structure CScope (scope:Scope):Prop where
 kind:scope.kind=.function
 nocell:∀ y ∈ scope.names,y.2≠.cell
 loc:∀ y ∈ scope.names,y.2=.local->scope.names.lookup y.1=some .local
noncomputable def cxC (X:Cx) (scope:Scope) (cl:List (Str × Addr)) (N':List Str) (C:Addr) (s:Shared) (H:Hp) (ex:List Addr):Cx:=
 { X with N:=N',s₀:=s,H₀:=H,env:=compEnvC scope cl C X.env,outer:=X.stack,ex:=ex,fn:=fun _=>false,pn:=[],xe:=fun _ _=>False }
noncomputable def compσ (nt:Nat) (fi:List Nat) (σ:St):St:=List.replicate nt none++fi.map fun j=>(σ[j]?).getD none
structure CNames (X:Cx) (scope:Scope) (nt:Nat) (fi:List Nat) (N':List Str):Prop where
 len:N'.length=nt+fi.length
 cap:∀ k j:Nat,fi[k]? = some j->∃ x,N'[nt+k]? = some x/\X.N[j]? = some x/\scope.names.lookup x=some .free
 fre:∀ y ∈ scope.names,y.2=.free->X.env.scope.names.lookup y.1=some .cell\/X.env.scope.names.lookup y.1=some .free
def GK (nt:Nat) (g:TG):Prop:=∀ x σ H Q,g x σ H Q->g x σ H fun σ' H'=>Q σ' H'/\σ'.length=σ.length/\σ'.drop nt=σ.drop nt
def PIf (X:Cx) (ifs:List Expr) (t:TT):Prop:=
 ∀ (pins:List (Addr × Obj)) (s:Shared) (σ:St) (H:Hp) (Q:Bool->Hp->Prop),Inv X pins σ H s->t σ H Q ->
  wpAny (model X.prog X.w) X.A (forIn ifs true fun c r=>if r=true then do let ok <- isTrue c X.env (eval c X.env); pure (ForInStep.yield ok) else pure (ForInStep.yield r)) (TP X pins σ Q) X.xe s
noncomputable def tYes:TT:=fun _ H Q=>Q true H
theorem bw {X:Cx}:PIf X [] tYes:=fun pins s σ H Q I h=>wpAny_tests_nil ⟨H,I,h⟩
theorem vb {X:Cx} {c:Expr} {t:TT} (h:PT X c t):PIf X [c] t:=fun pins s σ H Q I q=>wpAny_tests_one (h pins s σ H Q I q)
theorem ck {nt i:Nat} (hi:i < nt):GK nt (gName i):=fun x σ H Q h=>by
 refine ⟨h,?_,?_⟩
 ·rw [List.length_set]
 ·rw [List.drop_set_of_lt hi]
theorem gr {K:Frag} {nt i j n:Nat} (hi:i < nt) (hj:j < nt):GK nt (gTup K n (gCons (gName i) (gCons (gName j) gNil))):=fun x σ H Q h=>by
 obtain ⟨a,xs,e,hq,hl,v,r,e1,v',r',e2,e3,q⟩:=h;refine ⟨a,xs,e,hq,hl,v,r,e1,v',r',e2,e3,q,?_,?_⟩
 ·rw [List.length_set,List.length_set]
 ·rw [List.drop_set_of_lt hj,List.drop_set_of_lt hi]
section
variable {prog:Program} {w:World} {A:Around} {R:Result->Shared->Prop} {s:Shared}
theorem thnF {α:Type} {t:Sem α} {Q Q':α -> Shared->Prop} {M:Model} {E:Value->Shared->Prop} (h:wpAny M A t Q (fun _ _=>False) s) (hQ:∀ a s,Q a s->Q' a s):wpAny M A t Q' E s:=wpAny_mono h hQ fun _ _ f=>f.elim
theorem gA {elt target iter:Expr} {ifs:List Expr} {scope:Scope} {pos:Pos} {it acc:Value} {env:Env} (I:Nat->Shared->Prop)
  (turn:∀ n s,I n s->wpAny (model prog w) A (pyNext it) (fun r s₁=>match r with
   | none=>R (.ok .next) s₁
   | some v=>wpAny (model prog w) A (letOwnedTupleGo target it v) (fun _ s₂=>wpAny (model prog w) A (assign target env v) (fun _ s₃=>
     wpAny (model prog w) A (forIn ifs true fun c r=>if r=true then do let ok <- isTrue c env (eval c env); pure (ForInStep.yield ok) else pure (ForInStep.yield r)) (fun ok s₄=>
      if ok=true then wpAny (model prog w) A (eval elt env) (fun x s₅=>wpAny (model prog w) A (call (.builtin "list.append") [acc,x]) (fun _ s₆=>∃ m,m < n/\I m s₆) (fun _ _=>False) s₅) (fun _ _=>False) s₄
      else ∃ m,m < n/\I m s₄) (fun _ _=>False) s₃) (fun _ _=>False) s₂) (fun _ _=>False) s₁) (fun _ _=>False) s)
  (n:Nat) (h:I n s):codeAny (model prog w) A (.compLoop (.ListComp elt [⟨target,iter,ifs,0⟩] scope pos) 0 it acc env) R s:=by
 refine codeAny_loop rfl I (fun n s hI=>?_) n h;show wpAny _ A ((compTurn (.ListComp elt [⟨target,iter,ifs,0⟩] scope pos) 0 it acc env).onRaise (fun x=>do noteFrame x env; theTreesLotGoes x)) _ _ s;refine wpAny_noted ?_;rw [compTurn_list];refine wpAny_bind (wpAny_standAt (wpAny_bind (thnF (turn n s hI) fun r s₁ h₁=>?_)));cases r with
 | none=>exact wpAny_pure h₁
 | some v=>
  refine wpAny_bind (thnF h₁ fun _ s₂ h₂=>wpAny_bind (thnF h₂ fun _ s₃ h₃=>wpAny_bind (thnF h₃ fun ok s₄ h₄=>?_)));cases ok with
  | false=>exact wpAny_pure ⟨rfl,h₄⟩
  | true=>exact wpAny_bind (wpAny_bind (thnF h₄ fun x s₅ h₅=>wpAny_bind (thnF h₅ fun _ s₆ h₆=>wpAny_pure (wpAny_pure ⟨rfl,h₆⟩))))
end
noncomputable def tComp (nt:Nat) (fi:List Nat) (wi:TI) (g:TG) (tc:TT) (te:TE):TE:=fun σ H Q=>wi σ H fun J H1=>∀ D,H1 D=none ->
 ∃ W:Nat->Nat->List V->Hp->Prop,(∃ m,W 0 m [] (upd H1 D (.lst [])))/\∀ i m acc H2,W i m acc H2 ->
  (J.stop i H2/\Q (.ref D) H2)\/(J.go i H2/\∀ x H3,J.yld i H2 x H3->g x (compσ nt fi σ) H3 fun σ4 H4=>tc σ4 H4 fun b H5=>if b=true then
   te σ4 H5 fun v H6=>H6 D=some (.lst acc)/\acc.length < sizeLine/\∃ m',m' < m/\W (i+1) m' (acc++[v]) (upd H6 D (.lst (acc++[v]))) else ∃ m',m' < m/\W (i+1) m' acc H5)
theorem compσ_weak {nt:Nat} {fi:List Nat} {σ σ':St} (hl:σ'.length=(compσ nt fi σ).length) (hd:σ'.drop nt=(compσ nt fi σ).drop nt):∀ (i:Nat) v,(compσ nt fi σ)[i]? = some (some v)->σ'[i]? = some (some v):=fun i v e=>by
 by_cases hi:i < nt
 ·unfold compσ at e;rw [List.getElem?_append_left (by simpa using hi),List.getElem?_replicate] at e;split at e <;> cases e
 ·have ei:i=nt+(i - nt):=by omega
  have q:=congrArg (fun l=>l[i - nt]?) hd;simp only [List.getElem?_drop] at q;rw [<- ei] at q;rw [q];exact e
section
variable {X:Cx}
theorem mD {pins:List (Addr × Obj)} {σ:St} {H:Hp} {s:Shared} {scope:Scope} {nt:Nat} {fi:List Nat} {N':List Str} {fp:List Addr} {h₁:Heap} {m:Str->Option Value} {tk:Nat}
  (I:Inv X pins σ H s) (S:CScope scope) (cn:CNames X scope nt fi N') (hf:∀ b ∈ fp,FpOk X pins H b) (ho:∀ b ∈ fp,∃ o,s.heap.get? b=some o)
  (hns:h₁.Ns s.heap.objs.size m) (kp:∀ b o,s.heap.get? b=some o->h₁.get? b=some o) (htk:0 < tk):
  Inv (cxC X scope (clOf X.env.cells scope.names []) N' s.heap.objs.size s H fp) (X.pn++pins) (compσ nt fi σ) H { s with heap:=h₁,toks:=tk }:=by
 have hfr:∀ y ∈ scope.names,y.2=.free->∃ c,X.env.cells.lookup y.1=some c:=fun y hy e=>I.ok.has y.1 (cn.fre y hy e)
 have snd:∀ x c,(clOf X.env.cells scope.names []).lookup x=some c->X.env.cells.lookup x=some c:=fun x c e=>jq scope.names [] hfr (fun _ _ q=>by simp at q) e
 have offstk:∀ b,b≠X.env.locals->b ∉ X.fs->b ∉ frs X.stack:=fun b h1 h2 h3=>by
  rcases List.mem_cons.mp (I.stkSub b h3) with e | e
  ·exact h1 e
  ·exact h2 e
 have lt:∀ {b o},s.heap.get? b=some o->b≠s.heap.objs.size:=fun e=>Nat.ne_of_lt (Heap.lt_size e)
 have kinds:∀ x k,(relabel scope X.env).names.lookup x=some k->(k=.cell\/k=.free)->(x,NameKind.free) ∈ scope.names:=fun x k e hk=>by
  have e':(scope.names.map fun (n,k)=>if (k == NameKind.free && X.env.scope.kind == .function && X.env.kindOf n == some .cell) then (n,NameKind.cell) else (n,k)).lookup x=some k:=e;rw [cH] at e';cases q:scope.names.lookup x with
  | none=>rw [q] at e'; cases e'
  | some k'=>
   have mem:(x,k') ∈ scope.names:=PySem.mem_of_lookup q;rw [q] at e';simp only [Option.map_some,Option.some.injEq] at e';split at e'
   ·rename_i hc;simp only [Bool.and_eq_true,beq_iff_eq] at hc;rw [hc.1.1] at mem;exact mem
   ·subst e';rcases hk with z | z
    ·subst z;exact absurd rfl (S.nocell _ mem)
    ·subst z;exact mem
 refine ⟨⟨I.ok.mod,S.kind,I.ok.glob,I.ok.blt,Nat.le_refl _,fun x y c e1 e2=>I.ok.inj x y c (snd x c e1) (snd y c e2),fun x hx=>?_,fun x c e=>(nomatch e),I.ok.hd,I.ok.frames,.inl rfl,fun b hb=>⟨?_,fun x c e=>(hf b hb).2.2.2.2.1 x c (snd x c e)⟩,I.bs,?_,fun b o e hb=>?_,fun b hb=>offstk b (hf b hb).2.1 (hf b hb).2.2.1,I.stack,I.stkFree⟩,
  rfl,I.bare,Un.kept kp,⟨m,hns,fun i x v e1 e2 e3=>?_⟩,fun x c e=>?_,I.hok.fresh (Nat.le_refl _),fun x c e=>I.freeC x c (snd x c e),fun p hp=>?_,I.hok.kept kp,?_,htk⟩
 ·have hx':(relabel scope X.env).names.lookup x=some .cell\/(relabel scope X.env).names.lookup x=some .free:=hx;have mem:(x,NameKind.free) ∈ scope.names:=by
   rcases hx' with q | q
   ·exact kinds x _ q (.inl rfl)
   ·exact kinds x _ q (.inr rfl)
  exact Option.isSome_iff_exists.mp (jc scope.names [] mem)
 ·obtain ⟨o,e⟩:=ho b hb;exact lt e
 ·exact Nat.le_trans I.ok.bsz I.sz
 ·rcases (hf b hb).2.2.2.1 with q | q
  ·exact I.ok.noex b o e q
  ·exact absurd (Nat.lt_of_lt_of_le (Heap.lt_size e) (Nat.le_trans I.ok.bsz q)) (Nat.lt_irrefl _)
 ·have hi:¬ i < nt:=fun hi=>by
   unfold compσ at e2;rw [List.getElem?_append_left (by simpa using hi),List.getElem?_replicate] at e2;split at e2 <;> cases e2
  have ei:i=nt+(i - nt):=by omega
  have e2':(fi.map fun j=>(σ[j]?).getD none)[i - nt]? = some (some v):=by
   unfold compσ at e2;rw [List.getElem?_append_right (by simpa using Nat.le_of_not_lt hi)] at e2;simpa using e2
  rw [List.getElem?_map] at e2';cases ej:fi[i - nt]? with
  | none=>rw [ej] at e2'; cases e2'
  | some j=>
   rw [ej] at e2';obtain ⟨x',n1,n2,n3⟩:=cn.cap (i - nt) j ej;rw [<- ei] at n1;have e1':N'[i]? = some x:=e1;rw [n1] at e1';cases e1';have ev:σ[j]? = some (some v):=by
    have e2':some ((σ[j]?).getD none)=some (some v):=e2';cases q:σ[j]? with
    | none=>rw [q] at e2'; simp at e2'
    | some w=>rw [q] at e2'; simp at e2'; rw [e2']
   have mem:(x,NameKind.free) ∈ scope.names:=PySem.mem_of_lookup n3;have vis:=cn.fre _ mem rfl;obtain ⟨m0,hn0,hl0⟩:=I.loc;obtain ⟨u,ru,lk⟩:=hl0 j x v n2 ev (.inr vis);refine ⟨u,ru,?_⟩;rcases lk with ⟨q,_⟩ | ⟨q,c,ec,o,hoc,hod⟩
   ·have q':X.env.scope.names.lookup x=some .local:=q;rcases vis with z | z
    ·have z':X.env.scope.names.lookup x=some .cell:=z;rw [q'] at z'; cases z'
    ·have z':X.env.scope.names.lookup x=some .free:=z;rw [q'] at z'; cases z'
   ·obtain ⟨c',ec'⟩:=Option.isSome_iff_exists.mp (jc (cells:=X.env.cells) scope.names [] mem);have ecc:=snd x c' ec';rw [ec] at ecc;cases ecc;refine .inr ⟨?_,c,ec',o,kp c o hoc,hod⟩;show (relabel scope X.env).names.lookup x=some .cell\/(relabel scope X.env).names.lookup x=some .free;have e4:(relabel scope X.env).names.lookup x=(scope.names.lookup x).map fun k=>if (k == NameKind.free && X.env.scope.kind == .function && X.env.kindOf x == some .cell)=true then .cell else k:=cH X.env x scope.names
    rw [e4,n3];simp only [Option.map_some];split
    ·exact .inl rfl
    ·exact .inr rfl
 ·obtain ⟨v,o,hoc,hod⟩:=I.cell x c (snd x c e);exact ⟨v,o,kp c o hoc,hod⟩
 ·have hp':p ∈ X.pn++pins:=by
   have hp'':p ∈ ([]:List (Addr × Obj))++(X.pn++pins):=hp;simpa using hp''
  obtain ⟨e,n,ne,nf,d⟩:=I.pin p hp';exact ⟨kp _ _ e,n,lt e,offstk _ ne nf,d⟩
 ·show (compσ nt fi σ).length=N'.length;unfold compσ;rw [cn.len,List.length_append,List.length_replicate,List.length_map]
theorem nC {pins:List (Addr × Obj)} {σ σ':St} {H H':Hp} {s s':Shared} {scope:Scope} {cl:List (Str × Addr)} {N':List Str} {fp:List Addr} {C:Addr} {P:List (Addr × Obj)} {h'':Heap}
  (I:Inv X pins σ H s) (hf:∀ b ∈ fp,FpOk X pins H b) (hC:s.heap.objs.size<=C) (J:Inv (cxC X scope cl N' C s H fp) P σ' H' s') (sb:Heap.SameBut C s'.heap h''):Inv X pins σ H' { s' with heap:=h'' }:=by
 have ne:∀ {b o},s.heap.get? b=some o->b≠C:=fun e=>Nat.ne_of_lt (Nat.lt_of_lt_of_le (Heap.lt_size e) hC)
 have u:Un (frs X.stack) fp H H' s.heap s'.heap:=J.base;refine I.call' (s':={ s' with heap:=h'' }) (ch:=fp) J.os ⟨fun b o e n hb hx=>?_,fun b o e n hb hx=>?_,u.free,fun b o e hx=>?_,u.tups,u.frzs,u.tbls⟩ (fun b o e=>?_) J.bare (fun b hb=>?_) J.tk
 ·exact (sb.2 b (ne e)).trans (u.keep b o e n hb hx)
 ·obtain ⟨sl,q⟩:=u.slot b o e n hb hx;exact ⟨sl,(sb.2 b (ne e)).trans q⟩
 ·obtain ⟨o',q⟩:=u.there b o e hx;exact ⟨o',(sb.2 b (ne e)).trans q⟩
 ·have fr:H' C=none:=J.free;refine (J.hok b o e).stay (fun c v hc q=>(sb.2 c ?_).trans q) (fun _ q=>q) fun _ _ q=>q
  rintro rfl;rcases hc with z | z
  ·subst z;rw [fr] at e;cases e
  ·rw [fr] at z;cases z
 ·obtain ⟨f0,f1,f2,f3,f4,f5⟩:=hf b hb;exact ⟨f3,f1,f4,f5⟩
theorem uk {elt tg iter:Expr} {ifs:List Expr} {scope:Scope} {pos:Pos} {wi:TI} {g:TG} {tc:TT} {te:TE} {nt:Nat} {fi:List Nat} {N':List Str} (hcalm:X.calm=true)
  (S:CScope scope) (cn:CNames X scope nt fi N') (gk:GK nt g) (hi:PI X tg iter wi)
  (hg:∀ cl C s H ex,PG (cxC X scope cl N' C s H ex) tg g) (hc:∀ cl C s H ex,PIf (cxC X scope cl N' C s H ex) ifs tc) (he:∀ cl C s H ex,PE (cxC X scope cl N' C s H ex) elt te)
  (hs:∀ x,foldedSetIterable iter X.env x=pure x:=by intro _; rfl):PE X (.ListComp elt [⟨tg,iter,ifs,0⟩] scope pos) (tComp nt fi wi g tc te):=by
 intro pins s σ H Q I h;have hfr:∀ y ∈ scope.names,y.2=.free->∃ c,X.env.cells.lookup y.1=some c:=fun y hy e=>I.ok.has y.1 (cn.fre y hy e)
 rw [eval_ListComp];refine wpAny_comprehension_free (use:=none) rfl hs (eE hfr) S.kind S.loc (thn (hi pins s σ H _ I h) fun v s1 h1=>thn h1 fun itv s2 h2=>?_);obtain ⟨it,fp,tn,J,H2,e,I2,T,st2,f2,hW⟩:=h2;subst e;have fD:H2 s2.heap.objs.size=none:=I2.hok.fresh (Nat.le_refl _);obtain ⟨W,⟨m0,w0⟩,turn⟩:=hW s2.heap.objs.size fD;refine wpAny_newObj_type (wpAny_newFunctionEnv S.nocell (by intro y hy; simp at hy) (fun h₁ hns₁ hsb₁=>?_) S.kind);have I3:Inv X pins σ (upd H2 s2.heap.objs.size (.lst [])) { s2 with heap:=s2.heap.push { cls:=.type "list",dict:=none,data:=.seq ([]:List Value).toArray } }:=I2.lnew (its:=[]) (t':=s2.toks) .nil (Nat.zero_le _);generalize hs3:({ s2 with heap:=s2.heap.push { cls:=.type "list",dict:=none,data:=.seq ([]:List Value).toArray } }:Shared)=s3 at I3 hns₁ hsb₁ ⊢;have hsz:s3.heap.objs.size=s2.heap.objs.size+1:=by rw [<- hs3]; exact Heap.size_push ..
 have ob2:∀ b ∈ fp,∃ o,s3.heap.get? b=some o:=fun b hb=>by
  obtain ⟨o,e,_⟩:=T.obj _ _ st2 b hb;rw [<- hs3];exact ⟨o,Heap.get?_push_of_some _ e⟩
 have f3:∀ b ∈ fp,FpOk X pins (upd H2 s2.heap.objs.size (.lst [])) b:=fun b hb=>by
  obtain ⟨o,e,_⟩:=T.obj _ _ st2 b hb;refine ⟨?_,(f2 b hb).2⟩;rw [aA (Nat.ne_of_lt (Heap.lt_size e))];exact (f2 b hb).1
 have kp:∀ b o,s3.heap.get? b=some o->h₁.get? b=some o:=fun b o e=>hsb₁.extBut b o (Nat.ne_of_lt (Heap.lt_size e)) (Heap.get?_push_of_some _ e)
 have st3:tn 0 h₁:=T.keep _ _ _ st2 fun b _ o e=>kp b o (by rw [<- hs3]; exact Heap.get?_push_of_some _ e)
 have J4:Inv (cxC X scope (clOf X.env.cells scope.names []) N' s3.heap.objs.size s3 (upd H2 s2.heap.objs.size (.lst [])) fp) (X.pn++pins) (compσ nt fi σ) (upd H2 s2.heap.objs.size (.lst [])) { s3 with heap:=h₁,toks:=s3.toks+([]:List (Str × Value)).length }:=
  mD I3 S cn f3 ob2 hns₁ kp I3.tk
 generalize hcl:clOf X.env.cells scope.names []=cl at J4 ⊢;generalize hH3:upd H2 s2.heap.objs.size (.lst [])=H3 at J4 I3 f3 w0;have stat:∀ {H':Hp},(∀ b ∈ fp,H' b=none)->∀ b ∈ fp,FpOk (cxC X scope cl N' s3.heap.objs.size s3 H3 fp) (X.pn++pins) H' b:=fun {H'} hn b hb=>by
  obtain ⟨g0,g1,g2,g3,g4,g5⟩:=f3 b hb;have ok:=J4.ok;refine ⟨hn b hb,(ok.exf b hb).1,ok.exfs b hb,.inl hb,(ok.exf b hb).2,fun p hp=>g5 p ?_⟩;have hp':p ∈ ([]:List (Addr × Obj))++(X.pn++pins):=hp;simpa using hp'
 have loop:∀ s₃:Shared,s₃ = { s3 with heap:=h₁,toks:=s3.toks+([]:List (Str × Value)).length } ->
   codeAny (model X.prog X.w) X.A (.compLoop (.ListComp elt [⟨tg,iter,ifs,0⟩] scope pos) 0 (.ref it) (.ref s2.heap.objs.size) (compEnvC scope cl s3.heap.objs.size X.env))
    (compPost (model X.prog X.w) X.A X.xe none (EP X pins σ Q) (.ref s2.heap.objs.size) s3.heap.objs.size) s₃:=by
  rintro s₃ rfl;refine gA (fun n s'=>∃ i acc H',Inv (cxC X scope cl N' s3.heap.objs.size s3 H3 fp) (X.pn++pins) (compσ nt fi σ) H' s'/\tn i s'.heap/\(∀ b ∈ fp,H' b=none)/\W i n acc H') ?_ m0
   ⟨0,[],H3,J4,st3,fun b hb=>(f3 b hb).1,w0⟩
  rintro n s5 ⟨i,acc,H5,I5,st5,fr5,w5⟩;rcases turn i n acc H5 w5 with ⟨stop,qn⟩ | ⟨go,step⟩
  ·refine thn (T.done (cxC X scope cl N' s3.heap.objs.size s3 H3 fp) rfl rfl rfl hcalm i (X.pn++pins) s5 (compσ nt fi σ) H5 (fun _ _=>False) I5 (stat fr5) st5 stop) fun r s6 ⟨hr,I6⟩=>?_
   subst hr;obtain ⟨m6,hn6,_⟩:=I6.loc;exact ⟨m6,hn6,fun h' sb=>⟨.ref s2.heap.objs.size,H5,nC I3 f3 (Nat.le_refl _) I6 sb,rfl,qn⟩⟩
  ·refine thn (T.item (cxC X scope cl N' s3.heap.objs.size s3 H3 fp) rfl rfl rfl hcalm i (X.pn++pins) s5 (compσ nt fi σ) H5 (fun _ _=>False) I5 (stat fr5) st5 go) fun r s6 ⟨u,hr,h6⟩=>?_
   subst hr;refine thn h6 fun _ s7 ⟨x,H7,I7,r7,y7,st7,fr7⟩=>?_
   have I7':=I7.pinned (stat fr7) (T.obj _ _ st7);refine thn (hg _ _ _ _ _ _ s7 (compσ nt fi σ) H7 x u _ I7' r7 (gk _ _ _ _ (step x H7 y7))) fun _ s8 ⟨σ8,H8,I8,q8,l8,d8⟩=>?_
   refine thn (hc _ _ _ _ _ _ s8 σ8 H8 _ I8 q8) fun b s9 ⟨H9,I9,q9⟩=>?_
   have again:∀ {s':Shared} {H':Hp} {m':Nat} {acc':List V},Inv (cxC X scope cl N' s3.heap.objs.size s3 H3 fp) ((X.pn++pins)++pinsAt fp s7.heap) σ8 H' s'->m' < n->W (i+1) m' acc' H' ->
     ∃ m,m < n/\∃ i acc H',Inv (cxC X scope cl N' s3.heap.objs.size s3 H3 fp) (X.pn++pins) (compσ nt fi σ) H' s'/\tn i s'.heap/\(∀ b ∈ fp,H' b=none)/\W i m acc H':=fun {s' H' m' acc'} I' hm w'=>by
    refine ⟨m',hm,i+1,acc',H',I'.unpinned.weak l8.symm (compσ_weak l8 d8),T.keep _ _ _ st7 fun b hb o e=>(I'.pin (b,o) (List.mem_append_right _ (List.mem_append_right _ (cf hb e)))).1,fun b hb=>?_,w'⟩;obtain ⟨o,e,d⟩:=T.obj _ _ st7 b hb;exact (I'.pin (b,o) (List.mem_append_right _ (List.mem_append_right _ (cf hb e)))).2.1
   cases b with
   | false=>
    rw [if_neg Bool.false_ne_true] at q9 ⊢;obtain ⟨m',hm,w'⟩:=q9;exact again I9 hm w'
   | true=>
    rw [if_pos rfl] at q9 ⊢;refine thn (he _ _ _ _ _ _ s9 σ8 H9 _ I9 q9) fun uv s10 ⟨v10,H10,I10,r10,hD,hlt,m',hm,w'⟩=>?_
    refine thn (ip (X:=cxC X scope cl N' s3.heap.objs.size s3 H3 fp) _ s10 σ8 H10 (.ref s2.heap.objs.size) [v10] (.ref s2.heap.objs.size) [uv] (fun _ H'=>H'=upd H10 s2.heap.objs.size (.lst (acc++[v10]))) I10 rfl (.cons r10 .nil) ⟨_,acc,v10,rfl,rfl,hD,hlt,rfl⟩) fun _ s11 ⟨_,H11,I11,_,e11⟩=>?_
    subst e11;exact again I11 hm w'
 exact codeAny_compStart_list (loop _ rfl) (T.self _ 0 _ _ _ st3 (loop _ rfl))
end
noncomputable abbrev st (l:List Nat):Str:=⟨l.toArray⟩
theorem cX (l:List Nat):(st l).length=l.length:=by simp [Str.length]
theorem al (l:List Nat):(st l).cps.toList=l:=rfl
theorem ww (l m:List Nat):st l++st m=st (l++m):=by
 show Str.append (st l) (st m)=_;simp [Str.append]
theorem bL {l m:List Nat}:st l=st m ↔ l=m:=by simp
theorem nY {ys:List Str}:∀ {us:List Value},Vals (ys.map V.str) us->StrsAre us ys:=by
 induction ys with
 | nil=>intro us r; cases r; exact .nil
 | cons y r ih=>
  intro us h;cases h with
  | cons r1 r2=>
   obtain ⟨t,rfl⟩:=r1;exact .cons y t (ih r2)
theorem kh (l:List Nat):Txt.join ⟨#[]⟩ (l.map fun k=>(⟨#[k]⟩:Str))=st l:=by
 have h:=join_plain_closes ⟨#[]⟩ (l.map fun k=>(⟨#[k]⟩:Str));rw [eq_of_beq h];exact join_ones l
section
variable {X:Cx}
noncomputable def rJoin (K:Frag):V->List V->Hp->VK->Prop:=fun x vs H Q=>∃ sep l ys,x=.str sep/\vs=[.ref l]/\SqL K H l (ys.map V.str)/\(ys.map (·.length)).sum+ys.length*sep.length<=16777216/\Q (.str (Txt.join sep ys)) H
theorem tL:MtR X "str.join" (rJoin X.K):=by
 intro pins s σ H x vs v us Q I rx rv h;obtain ⟨sep,l,ys,rfl,rfl,hq,hz,q⟩:=h;obtain ⟨t,rfl⟩:=rx;obtain ⟨u,rfl,ru⟩:=rv.one;cases ru;obtain ⟨its,r,pl,_⟩:=I.list hq;exact tokQ I.tk (join_list pl.isList (nY r) hz fun t' k (htk:0 < k)=>⟨.str _,H,I.tok _,⟨_,rfl⟩,q⟩)
theorem sK (l:List Nat):((l.map fun k=>(⟨#[k]⟩:Str)).map (·.length)).sum=l.length:=by
 induction l with
 | nil=>rfl
 | cons a r ih=>
  rw [List.map_cons,List.map_cons,List.sum_cons,ih,List.length_cons];show 1+r.length=r.length+1;omega
noncomputable def rJoin1 (K:Frag):V->List V->Hp->VK->Prop:=fun x vs H Q=>∃ l cs,x=.str (Str.ofString "")/\vs=[.ref l]/\SqL K H l (cs.map fun k=>V.str ⟨#[k]⟩)/\cs.length<=10000/\Q (.str (st cs)) H
theorem gF:Str.ofString "" = ⟨#[]⟩:=by decide +kernel
theorem sh:MtR X "str.join" (rJoin1 X.K):=by
 intro pins s σ H x vs v us Q I rx rv h;obtain ⟨l,cs,rfl,rfl,hq,hz,q⟩:=h;refine tL pins s σ H _ _ v us Q I rx rv ⟨_,l,cs.map fun k=>⟨#[k]⟩,rfl,rfl,?_,?_,?_⟩
 ·rw [List.map_map];exact hq
 ·rw [sK,List.length_map,gF];show cs.length+cs.length*0<=16777216;omega
 ·rw [gF,kh];exact q
noncomputable def rSlS:V->Option Int->Option Int->Hp->VK->Prop:=fun x lo hi H Q=>∃ z,x=.str z/\z.length<=sizeLine/\Q (.str (Txt.slice z lo hi)) H
theorem qX:SlR X rSlS:=by
 intro pins s σ H x v vl vu lo hi sl Q I rx hs pl pu h;obtain ⟨z,rfl,hz,q⟩:=h;obtain ⟨t,rfl⟩:=rx;have fin:∀ t' k,0 < k->EP X pins σ Q (.str (Txt.slice z lo hi) t') { s with toks:=k }:=fun t' k htk=>⟨.str _,H,I.tok _,⟨_,rfl⟩,q⟩
 refine ⟨"str",_,F.slot_str_getitem.lookup,typeIs_str _ _ _,tokQ I.tk ?_⟩;obtain ⟨o,e1,e2,e3⟩:=id hs;cases pl with
 | none=>
  cases pu with
  | none=>exact wpAny_getItem_str_slice (l:=none) (u:=none) (st:=none) ⟨o,e1,e2,e3⟩ rfl (post_val_or_str ⟨Nat.le_trans (Txt.slice_le z _ _) hz,fin⟩)
  | int j tj=>exact wpAny_getItem_str_slice (l:=none) (u:=some (j,tj)) (st:=none) ⟨o,e1,e2,e3⟩ rfl (post_val_or_str ⟨Nat.le_trans (Txt.slice_le z _ _) hz,fin⟩)
 | int i ti=>
  cases pu with
  | none=>exact wpAny_getItem_str_slice (l:=some (i,ti)) (u:=none) (st:=none) ⟨o,e1,e2,e3⟩ rfl (post_val_or_str ⟨Nat.le_trans (Txt.slice_le z _ _) hz,fin⟩)
  | int j tj=>exact wpAny_getItem_str_slice (l:=some (i,ti)) (u:=some (j,tj)) (st:=none) ⟨o,e1,e2,e3⟩ rfl (post_val_or_str ⟨Nat.le_trans (Txt.slice_le z _ _) hz,fin⟩)
theorem rm (l:List Nat) (k:Nat) (h:k<=l.length):Txt.slice (st l) none (some (k:Int))=st (l.take k):=by
 have q:=slice_closes_to (x:=st l) (j:=(k:Int)) ⟨by omega,by simpa using h⟩;rw [eq_of_beq q];simp
theorem nN (l:List Nat) (k:Nat) (h:k<=l.length):Txt.slice (st l) (some (k:Int)) none=st (l.drop k):=by
 have q:=slice_from_eq (x:=st l) (i:=(k:Int)) (b:=(l.length:Int)) (by omega) (by simpa [Str.length] using h) (by simp [Str.length]);rw [q];simp only [al,Int.toNat_natCast];rw [List.take_of_length_le (by rw [List.length_drop]; omega)]
theorem oG:OpR X (binaryOp .Mult) (fun x y H Q=>∃ z n,x=.str z/\y=.int n/\MulOk z n/\Q (.str (Txt.mul z n)) H):=by
 intro pins s σ H x y v u Q I rx ry h;obtain ⟨z,n,rfl,rfl,hok,q⟩:=h;obtain ⟨t,rfl⟩:=rx;obtain ⟨t',rfl⟩:=ry;exact tokQ I.tk (SB.mul hok fun t' k (htk:0 < k)=>⟨.str _,H,I.tok _,⟨_,rfl⟩,q⟩)
theorem mul1 (k n:Nat):Txt.mul ⟨#[k]⟩ (n:Int)=st (List.replicate n k):=by
 have q:=mul_one_list k (n:Int);rw [Int.toNat_natCast] at q;have e:∀ x:Str,x=⟨x.cps.toList.toArray⟩:=fun x=>by simp
 rw [e (Txt.mul ⟨#[k]⟩ (n:Int)),q]
theorem nh:CallR X (.builtin "isinstance") (fun xs H Q=>∃ x n t b,xs=[x,.ty n]/\TyOf X.K H x t/\PySem.W.kitOne X.K t (.type n)=some b/\Q (.bl b) H):=by
 intro pins s σ H xs us Q I r h;obtain ⟨x,n,t,b,rfl,ty,e,q⟩:=h;obtain ⟨u,w',rfl,r1,r2⟩:=vals2 r;cases r2;exact tokQ I.tk (ql I r1 ty e fun tk (htk:0 < tk)=>⟨.bl b,H,I.tok _,rfl,q⟩)
theorem lH:CallR X (.type "int") (fun xs H Q=>∃ z n,xs=[.str z]/\PySem.intText? z=some n/\z.length<=640/\Q (.int n) H):=by
 intro pins s σ H xs us Q I r h;obtain ⟨z,n,rfl,e,hz,q⟩:=h;obtain ⟨u,rfl,t,rfl⟩:=vals1 r;exact PySem.W.KIN.call_text e hz ⟨.int n,H,I.tok _,⟨_,rfl⟩,q⟩
end
def Fn (K:Frag) (mg:Str->Option Value) (x:Str) (st:Stmt):Prop:=∃ f fd,Fun K x x st f fd/\mg x=some (.ref f)
def Callee (P:Program) (w:World) (K:Frag) (mg:Str->Option Value) (base:Heap) (k:Nat) (x:Str) (ps:List Str) (sp:Sp):Prop:=
 ∃ f fd,FnOk P w K mg base CX0 k f fd ps sp/\Binds K fd ps []/\keepIn K (.ref f)=true/\mg x=some (.ref f)
theorem Fn.cal {P:Program} {w:World} {K:Frag} {mg:Str->Option Value} {base:Heap} {x:Str} {st:Stmt} {N ps:List Str} {k:Nat} {sp:Sp} (F:Fn K mg x st) (S:FnScope N ps (defScope st)) (len:∀ vs H Q E,sp vs H Q E->vs.length=ps.length)
  (hb:∀ (kV doc pm:Value) (an:Option Addr) (cdv ct:Value) (us:List Value),us.length=ps.length->bindArgs (fnOf x x (defArgs st) (defBody st) (defScope st) .none kV doc pm an cdv ct) ⟨us,[]⟩=pure (ps.zip us))
  (hbody:∀ (f:Addr) (cdv:Value) (A:Around) (outer:List Env) (s:Shared) (H:Hp) (vs:List V) (Q:VK) (E:XK),Room k (A.deeper (envOfC x (defScope st) s.heap.objs.size f cdv))->sp vs H Q E ->
   ∃ t,PSs (cxOf CX0 P w K mg base N x (defScope st) f cdv A outer s H E).nox (defBody st) t/\t { nx:=fun _ H'=>Q .non H',rt:=Q } (start N vs) H):Callee P w K mg base (k+1) x ps sp:=by
 obtain ⟨f,fd,F,m⟩:=F;exact ⟨f,fd,F.ok S len (hbody f),F.binds hb,F.kp,m⟩
section
variable {X:Cx} {k:Nat} {x:Str} {ps:List Str} {sp:Sp} {p pos:Pos} {e:Expr} {es:List Expr} {t:TA}
theorem av (C:Callee X.prog X.w X.K X.mg X.base k x ps sp) (hr:Room k X.A) (hg:Gl X x) (ha:PA X (e::es) t)
  (he:starEach (e::es) X.env=(false,eval e X.env)::starEach es X.env:=by rfl) (hpl:(backTo pos (starEach es X.env)).any (·.1)=false:=by rfl) (hd:(x == ("__debug__" : Str))=false:=by decide):PE X (.Call (.Name x p) (e::es) [] pos) (tCall sp [] E0 t):=by
 obtain ⟨f,fd,F,b,kp,m⟩:=C;exact pj F hr hg m kp b .nil pass0 ha (hdb:=hd) (he:=he) (hpl:=hpl)
end
noncomputable def tJoin (t u:TS):TS:=fun D σ H=>∃ J:St->Hp->Prop,t { D with nx:=J } σ H/\∀ σ' H',J σ' H'->u D σ' H'
theorem bZ {X:Cx} {st:Stmt} {rest:List Stmt} {t u:TS} (h1:PS X st t) (h2:PSs X rest u):PSs X (st::rest) (tJoin t u):=by
 intro pins s σ H D I h;obtain ⟨J,hj,hr⟩:=h;refine wpAny_execs_cons (thn (h1 pins s σ H { D with nx:=J } I hj) fun f s1 q=>?_);cases f with
 | next=>
  obtain ⟨σ',H',I',q⟩:=q;exact h2 pins s1 σ' H' D I' (hr σ' H' q)
 | ret v=>exact q
 | brk=>exact q
 | cont=>exact q
theorem ag {H:Hp} {p:Addr} (h:H p=none) (o:HO):Same H (upd H p o):=fun b u q=>by rw [aA (az q h)]; exact q
theorem aW {H H':Hp} {p:Addr} {o:HO} (s:Same H H') (h:H p=none):Same H (upd H' p o):=fun b u q=>by rw [aA (az q h)]; exact s b u q
theorem sizeBig {n:Nat} (h:n<=100000):n < sizeLine:=Nat.lt_of_le_of_lt h (by decide)
def RowL (l:List Nat):Prop:=∀ c ∈ l,c=48\/c=49\/c=45
section
variable {X:Cx}
theorem PE.imp {e:Expr} {t t':TE} (h:PE X e t) (k:∀ σ H Q,t' σ H Q->t σ H Q):PE X e t':=fun pins s σ H Q I q=>h pins s σ H Q I (k σ H Q q)
theorem PT.imp {e:Expr} {t t':TT} (h:PT X e t) (k:∀ σ H Q,t' σ H Q->t σ H Q):PT X e t':=fun pins s σ H Q I q=>h pins s σ H Q I (k σ H Q q)
theorem PI.imp {tg e:Expr} {t t':TI} (h:PI X tg e t) (k:∀ σ H Q,t' σ H Q->t σ H Q):PI X tg e t':=fun pins s σ H Q I q=>h pins s σ H Q I (k σ H Q q)
theorem OpR.imp {f:Value->Value->Sem Value} {r r':R2} (h:OpR X f r) (k:∀ x y H Q,r' x y H Q->r x y H Q):OpR X f r':=fun pins s σ H x y v u Q I rx ry q=>h pins s σ H x y v u Q I rx ry (k x y H Q q)
theorem IxR.imp {r r':R2} (h:IxR X r) (k:∀ x y H Q,r' x y H Q->r x y H Q):IxR X r':=fun a b pins s σ H x y v u Q I rx ry q=>h a b pins s σ H x y v u Q I rx ry (k x y H Q q)
theorem SlR.imp {r r':V->Option Int->Option Int->Hp->VK->Prop} (h:SlR X r) (k:∀ x a b H Q,r' x a b H Q->r x a b H Q):SlR X r':=fun pins s σ H x v vl vu lo hi sl Q I rx hs pl pu q=>h pins s σ H x v vl vu lo hi sl Q I rx hs pl pu (k x lo hi H Q q)
noncomputable def cVar (i:Nat):TE:=fun σ H Q=>match σ[i]? with | some (some v)=>Q v H | _=>False
theorem qv (i:Nat) {x:Str} {pos:Pos} (hN:X.N[i]? = some x:=by rfl) (hv:Vis X.env.scope x:=by first | exact Or.inl rfl | exact Or.inr (Or.inl rfl) | exact Or.inr (Or.inr rfl)) (hd:(x == ("__debug__" : Str))=false:=by decide)
  (hcd:(x == ("__classdict__" : Str))=false:=by decide):PE X (.Name x pos) (cVar i):=(vZ hN hv hd hcd).imp fun σ H Q q=>by
 unfold cVar at q;split at q
 ·exact ⟨_,by assumption,q⟩
 ·exact q.elim
theorem qs (l:List Nat) {x:Str} {j pos} (h:x=st l:=by decide +kernel):PE X (.Constant (.str x) j pos) (tC (.str (st l))):=by
 rw [<- h];exact rW
theorem aF (a:Str):st a.cps.toList=a:=by simp
noncomputable def kAdd:R2:=fun x y H Q=>match x,y with
 | .int i,.int j=>Q (.int (i+j)) H
 | .str a,.str b=>a.cps.toList.length+b.cps.toList.length<=100000/\Q (.str (st (a.cps.toList++b.cps.toList))) H
 | .ref l,.ref b=>∃ xs zs,H l=some (.lst xs)/\H b=some (.lst zs)/\xs.length+zs.length<=sizeLine/\∀ p,H p=none->Q (.ref p) (upd H p (.lst (xs++zs)))
 | _,_=>False
theorem aB:OpR X (binaryOp .Add) kAdd:=by
 intro pins s σ H x y v u Q I rx ry q;unfold kAdd at q;split at q
 ·exact wf pins s σ H _ _ v u Q I rx ry ⟨_,_,rfl,rfl,q⟩
 ·obtain ⟨h,q⟩:=q;refine n4 pins s σ H _ _ v u Q I rx ry ⟨_,_,rfl,rfl,?_,?_⟩
  ·have:(100000:Nat)<=sizeLine:=by decide
   simp only [Array.length_toList] at h;simp only [Str.length];omega
  ·rename_i a b;have e:a++b=st (a.cps.toList++b.cps.toList):=by
    rw [<- ww,aF,aF]
   rw [e];exact q
 ·obtain ⟨xs,zs,h1,h2,h3,q⟩:=q;exact wc pins s σ H _ _ v u Q I rx ry ⟨_,_,_,_,rfl,rfl,h1,h2,h3,q⟩
 ·exact q.elim
noncomputable def kI (C:Int->Int->Prop) (g:Int->Int->V):R2:=fun x y H Q=>match x,y with
 | .int i,.int j=>C i j/\Q (g i j) H
 | _,_=>False
noncomputable def kI0 (g:Int->Int->V):R2:=fun x y H Q=>match x,y with
 | .int i,.int j=>Q (g i j) H
 | _,_=>False
theorem sq {C:Int->Int->Prop} {g:Int->Int->V}:∀ x y H Q,kI C g x y H Q->rI C g x y H Q:=fun x y H Q q=>by
 unfold kI at q;split at q
 ·exact ⟨_,_,rfl,rfl,q.1,q.2⟩
 ·exact q.elim
theorem ja {g:Int->Int->V}:∀ x y H Q,kI0 g x y H Q->rI0 g x y H Q:=fun x y H Q q=>by
 unfold kI0 at q;split at q
 ·exact ⟨_,_,rfl,rfl,q⟩
 ·exact q.elim
noncomputable abbrev kSub:R2:=kI0 fun i j=>.int (i - j)
noncomputable abbrev kMod:R2:=kI (fun _ j=>0 < j) fun i j=>.int (i % j)
noncomputable abbrev kFdiv:R2:=kI CDiv fun i j=>.int (i / j)
theorem gJ:OpR X (binaryOp .Sub) kSub:=vB.imp ja
theorem dX:OpR X (binaryOp .Mod) kMod:=vG.imp sq
theorem sJ:OpR X (binaryOp .FloorDiv) kFdiv:=u3.imp sq
noncomputable def kMul:R2:=fun x y H Q=>match x,y with
 | .int i,.int j=>CMul i j/\Q (.int (i*j)) H
 | .str a,.int n=>∃ c,a.cps.toList=[c]/\0<=n/\n<=10000/\Q (.str (st (List.replicate n.toNat c))) H
 | .ref l,.int k=>∃ xs,H l=some (.lst xs)/\0<=k/\k<=10000/\xs.length=1/\∀ p,H p=none->Q (.ref p) (upd H p (.lst (List.replicate k.toNat xs).flatten))
 | _,_=>False
theorem qz (k n:Nat) (hn:n<=10000):MulOk ⟨#[k]⟩ (n:Int):=by
 have hl:(⟨#[k]⟩:Str).length=1:=rfl;refine ⟨?_,fun _ _=>?_,fun _ _=>?_⟩
 ·rw [decide_eq_false (by omega),decide_eq_false (by omega)];rfl
 ·rw [hl];intro z;have:(2 ^ 63 - 1) / (n:Int) < 1:=by omega
  have h2:(n:Int)<=10000:=by omega
  have h1:¬ (n:Int) < 1:=by assumption
  have h3:1<=(2 ^ 63 - 1) / (n:Int):=by
   rw [Int.le_ediv_iff_mul_le (by omega)];omega
  omega
 ·rw [hl];unfold PySem.Builtin.Str.tooLong sizeLine;exact decide_eq_false (by rw [Int.toNat_natCast]; have:(2:Nat) ^ 24=16777216:=(by decide); omega)
theorem bj:OpR X (binaryOp .Mult) kMul:=by
 intro pins s σ H x y v u Q I rx ry q;unfold kMul at q;split at q
 ·exact vz pins s σ H _ _ v u Q I rx ry ⟨_,_,rfl,rfl,q.1,q.2⟩
 ·obtain ⟨c,e,h0,h1,q⟩:=q;rename_i a n;obtain ⟨k,rfl⟩:∃ k:Nat,n=k:=⟨n.toNat,by omega⟩;have ea:a=⟨#[c]⟩:=by rw [<- aF a,e]
  subst ea;refine oG pins s σ H _ _ v u Q I rx ry ⟨_,_,rfl,rfl,qz c k (by omega),?_⟩;rw [mul1];exact q
 ·obtain ⟨xs,h1,h2,h3,h4,q⟩:=q;refine rA pins s σ H _ _ v u Q I rx ry ⟨_,_,_,rfl,rfl,h1,by omega,by omega,?_,q⟩;have:(10000:Nat)<=sizeLine:=by decide
  rw [h4];omega
 ·exact q.elim
noncomputable def kEq (neg:Bool):R2:=fun x y H Q=>match x,y with
 | .int i,.int j=>Q (.bl (neg ^^ decide (i=j))) H
 | .str a,.str b=>Q (.bl (neg ^^ decide (a.cps.toList=b.cps.toList))) H
 | .bl a,.bl b=>Q (.bl (neg ^^ decide (a=b))) H
 | .non,.non=>Q (.bl (neg ^^ true)) H
 | .non,.int _=>Q (.bl (neg ^^ false)) H
 | .int _,.non=>Q (.bl (neg ^^ false)) H
 | .non,.str _=>Q (.bl (neg ^^ false)) H
 | .str _,.non=>Q (.bl (neg ^^ false)) H
 | _,_=>False
theorem mY (a b:Str):decide (V.str a=V.str b)=decide (a.cps.toList=b.cps.toList):=by
 by_cases h:a.cps.toList=b.cps.toList
 ·have:a=b:=by rw [<- aF a,h,aF]
  subst this;simp
 ·rw [decide_eq_false h,decide_eq_false (fun z=>h (by cases z; rfl))]
theorem wS:∀ x y H Q,kEq false x y H Q->rEq x y H Q:=fun x y H Q q=>by
 unfold kEq at q;split at q <;> first
  | exact q.elim
  | (refine ⟨rfl,?_⟩; first | (rw [mY]; simpa using q) | simpa using q)
theorem wm:∀ x y H Q,kEq true x y H Q->rNe x y H Q:=fun x y H Q q=>by
 unfold kEq at q;split at q <;> first
  | exact q.elim
  | (refine ⟨rfl,?_⟩; first | (rw [mY]; simpa using q) | simpa using q)
theorem aN:OpR X (compareOp .Eq) (kEq false):=wX.imp wS
theorem hZ:OpR X (compareOp .NotEq) (kEq true):=xu.imp wm
noncomputable abbrev kLt:R2:=kI0 fun i j=>.bl (decide (i < j))
noncomputable abbrev kGt:R2:=kI0 fun i j=>.bl (decide (j < i))
noncomputable abbrev kGe:R2:=kI0 fun i j=>.bl (decide (j<=i))
theorem oK:OpR X (compareOp .Lt) kLt:=xo.imp ja
theorem mw:OpR X (compareOp .Gt) kGt:=wY.imp ja
theorem wn:OpR X (compareOp .GtE) kGe:=w9.imp ja
noncomputable def kIs (neg:Bool):R2:=fun x y H Q=>match y with
 | .non=>Q (.bl (neg ^^ decide (x=.non))) H
 | _=>False
theorem mh:OpR X (compareOp .Is) (kIs false):=vq.imp fun x y H Q q=>by
 unfold kIs at q;split at q
 ·exact ⟨rfl,by simpa using q⟩
 ·exact q.elim
theorem qp:OpR X (compareOp .IsNot) (kIs true):=ub.imp fun x y H Q q=>by
 unfold kIs at q;split at q
 ·exact ⟨rfl,by simpa using q⟩
 ·exact q.elim
noncomputable def kIn (K:Frag) (neg:Bool):R2:=fun x y H Q=>match x,y with
 | .str a,.str b=>∃ c,a.cps.toList=[c]/\Q (.bl (neg ^^ decide (c ∈ b.cps.toList))) H
 | x,.ref p=>∃ xs,(SqL K H p xs\/SqT K H p xs)/\flatV x=true/\xs.all flatV=true/\Q (.bl (neg ^^ inV x xs)) H
 | _,_=>False
theorem qw:OpR X (compareOp .NotIn) (kIn X.K true):=by
 intro pins s σ H x y v u Q I rx ry q;unfold kIn at q;split at q
 ·obtain ⟨c,e,q⟩:=q;rename_i a b;have ea:a=⟨#[c]⟩:=by rw [<- aF a,e]
  subst ea;refine mr pins s σ H _ _ v u Q I rx ry ⟨_,_,rfl,rfl,?_⟩;rw [StrLaws.found_one];simpa using q
 ·obtain ⟨xs,h1,h2,h3,q⟩:=q;exact lA pins s σ H _ _ v u Q I rx ry ⟨_,_,rfl,h1,h2,h3,by simpa using q⟩
 ·exact q.elim
noncomputable def kIx (K:Frag):R2:=fun x y H Q=>match x,y with
 | .str z,.int i=>z.cps.toList.length<=100000/\∃ c,atI z.cps.toList i=some c/\Q (.str (st [c])) H
 | .ref p,.int i=>∃ xs v,(SqL K H p xs\/SqT K H p xs)/\atI xs i=some v/\Q v H
 | _,_=>False
theorem big5:(100000:Nat)<=sizeLine:=by decide
theorem strlen (z:Str):z.length=z.cps.toList.length:=by simp [Str.length]
theorem xC:IxR X (kIx X.K):=wG.imp fun x y H Q q=>by
 unfold kIx at q;split at q
 ·obtain ⟨h,c,e,q⟩:=q;exact .inr (.inr ⟨_,_,c,rfl,rfl,by rw [strlen]; exact Nat.le_trans h big5,e,q⟩)
 ·obtain ⟨xs,v,h | h,e,q⟩:=q
  ·exact .inl ⟨_,_,_,_,rfl,rfl,h,e,q⟩
  ·exact .inr (.inl ⟨_,_,_,_,rfl,rfl,h,e,q⟩)
 ·exact q.elim
noncomputable def kLen (K:Frag):List V->Hp->VK->Prop:=fun xs H Q=>match xs with
 | [.str z]=>z.cps.toList.length<=100000/\Q (.int z.cps.toList.length) H
 | [.ref p]=>∃ ys,(SqL K H p ys\/SqT K H p ys)/\Q (.int ys.length) H
 | _=>False
theorem pY:CallR X (.builtin "len") (kLen X.K):=by
 intro pins s σ H xs us Q I r q;unfold kLen at q;split at q
 ·obtain ⟨h,q⟩:=q;refine lU pins s σ H _ us Q I r ⟨_,rfl,by rw [strlen]; exact Nat.le_trans h big5,?_⟩;rw [strlen];exact q
 ·obtain ⟨ys,h,q⟩:=q;exact lR pins s σ H _ us Q I r ⟨_,_,rfl,h,q⟩
 ·exact q.elim
noncomputable def up (t:TE):TE:=fun σ H Q=>∃ Q0:VK,t σ H Q0/\∀ v H',Q0 v H'->Q v H'
noncomputable def up2 (r:R2):R2:=fun x y H Q=>∃ Q0:VK,r x y H Q0/\∀ v H',Q0 v H'->Q v H'
theorem EP.imp {pins:List (Addr × Obj)} {σ:St} {Q Q':VK} {u:Value} {s:Shared} (h:EP X pins σ Q u s) (k:∀ v H',Q v H'->Q' v H'):EP X pins σ Q' u s:=by
 obtain ⟨v,H',I,r,q⟩:=h;exact ⟨v,H',I,r,k v H' q⟩
theorem PE.mono {e:Expr} {t:TE} (h:PE X e t):PE X e (up t):=fun pins s σ H Q I ⟨Q0,q,k⟩=>thn (h pins s σ H Q0 I q) fun u s' z=>z.imp k
theorem OpR.mono {f:Value->Value->Sem Value} {r:R2} (h:OpR X f r):OpR X f (up2 r):=fun pins s σ H x y v u Q I rx ry ⟨Q0,q,k⟩=>thn (h pins s σ H x y v u Q0 I rx ry q) fun u s' z=>z.imp k
noncomputable def blK (Q:Bool->Hp->Prop):VK:=fun x H'=>match x with | .bl k=>Q k H' | _=>False
theorem hJ {Q:Bool->Hp->Prop} {x:V} {H':Hp} (h:blK Q x H'):∃ k,x=.bl k/\Q k H':=by
 unfold blK at h;split at h
 ·exact ⟨_,rfl,h⟩
 ·exact h.elim
noncomputable def cTest (t:TE):TT:=fun σ H Q=>t σ H (blK Q)
theorem br {e:Expr} {t:TE} (h:PE X e t) (he:∀ whole,isTrue e X.env whole=(do let v <- whole; standAt e.pos; holding [v] (truthy v)):=by intro _; rfl):PT X e (cTest t):=
 (wx h.mono he).imp fun σ H Q q=>⟨_,q,fun v H' z=>hJ z⟩
variable {a b c:Expr} {ta tb tc:TE} {pos:Pos} {rest:List Expr}
theorem aC {op:CmpOp} {r:R2} (ho:OpR X (compareOp op) r) (ha:PE X a ta) (hb:PE X b tb) (hm:behindInMarks op b=false:=by first | exact nomark _ | rfl):PT X (.Compare a [op] [b] pos) (cTest (tOp r ta tb)):=
 (ua ho.mono ha.mono hb.mono hm).imp fun σ H Q q=>⟨_,q,fun x H1 z=>⟨_,z,fun y H2 z2=>⟨_,z2,fun v H' z3=>hJ z3⟩⟩⟩
theorem ge {op:CmpOp} {r:R2} (ho:OpR X (compareOp op) r) (ha:PE X a ta) (hb:PE X b tb) (hm:behindInMarks op b=false:=by first | exact nomark _ | rfl):PE X (.Compare a [op] [b] pos) (tOp r ta tb):=uK ho ha hb hm
noncomputable def cAndV (ta tb:TE):TE:=fun σ H Q=>ta σ H (blK fun c H1=>if c=true then tb σ H1 Q else Q (.bl false) H1)
noncomputable def cOrV (ta tb:TE):TE:=fun σ H Q=>ta σ H (blK fun c H1=>if c=true then Q (.bl true) H1 else tb σ H1 Q)
theorem lC (ha:PE X a ta) (hb:PE X (.BoolOp .And (b::rest) pos) tb):PE X (.BoolOp .And (a::b::rest) pos) (cAndV ta tb):=(vv ha.mono hb).imp fun σ H Q q=>⟨_,q,fun v H' z=>hJ z⟩
theorem xg (ha:PE X a ta) (hb:PE X (.BoolOp .Or (b::rest) pos) tb):PE X (.BoolOp .Or (a::b::rest) pos) (cOrV ta tb):=(xf ha.mono hb).imp fun σ H Q q=>⟨_,q,fun v H' z=>hJ z⟩
variable {o e:Expr} {to te:TE} {apos cpos:Pos}
noncomputable def cApp (to te:TE):TE:=fun σ H Q=>to σ H fun x H1=>match x with
 | .ref l=>(∃ xs,H1 l=some (.lst xs))/\te σ H1 fun y H2=>∃ xs,H2 l=some (.lst xs)/\xs.length < sizeLine/\Q .non (upd H2 l (.lst (xs++[y])))
 | _=>False
theorem bP (ho:PE X o to) (he:PE X e te) (hbase:attributeBase o "append" X.env (eval o X.env)=eval o X.env:=by rfl)
  (hfew:((backTo cpos (starEach [e] X.env)).all (fun x=>!x.1) && (backToKw cpos (keywordEach [] X.env)).all (fun x=>x.1.isSome)
   && decide ([e].length+([]:List Keyword).length+(if ([]:List Keyword).isEmpty then 0 else 1) < 30))=true:=by rfl)
  (hline:(apos.endLine == cpos.line)=true:=by rfl) (hs:starEach [e] X.env=(false,eval e X.env)::starEach [] X.env:=by rfl) (hplain:(backTo cpos (starEach [] X.env)).any (·.1)=false:=by rfl):
  PE X (.Call (.Attribute o "append" apos) [e] [] cpos) (cApp to te):=
 (lb PySem.F.plainAttrs_list PySem.F.slot_list_append PySem.F.type_list_append ip ho.mono (aa he.mono ad hs) hbase hfew hline hs hplain).imp fun σ H Q q=>⟨_,q,fun x H1 z=>by
  split at z
  ·rename_i l;obtain ⟨⟨xs,h⟩,z⟩:=z;refine ⟨.inl ⟨rfl,_,SqL.of h⟩,_,z,fun y H2 z2=>?_⟩;obtain ⟨xs2,h2,h3,z3⟩:=z2;exact ⟨l,xs2,y,rfl,rfl,h2,h3,z3⟩
  ·exact z.elim⟩
noncomputable def cJoin1 (K:Frag) (te:TE):TE:=fun σ H Q=>te σ H fun x H1=>match x with
 | .ref l=>∃ cs:List Nat,SqL K H1 l (cs.map fun k=>V.str (st [k]))/\cs.length<=10000/\Q (.str (st cs)) H1
 | _=>False
theorem rJ {j:Nat} {p1:Pos} (he:PE X e te) (hfew:((backTo cpos (starEach [e] X.env)).all (fun x=>!x.1) && (backToKw cpos (keywordEach [] X.env)).all (fun x=>x.1.isSome)
   && decide ([e].length+([]:List Keyword).length+(if ([]:List Keyword).isEmpty then 0 else 1) < 30))=true:=by rfl)
  (hline:(apos.endLine == cpos.line)=true:=by rfl) (hs:starEach [e] X.env=(false,eval e X.env)::starEach [] X.env:=by rfl) (hplain:(backTo cpos (starEach [] X.env)).any (·.1)=false:=by rfl)
  (hbase:attributeBase (.Constant (.str (Str.ofString "")) j p1) "join" X.env (eval (.Constant (.str (Str.ofString "")) j p1) X.env)=eval (.Constant (.str (Str.ofString "")) j p1) X.env:=by rfl):
  PE X (.Call (.Attribute (.Constant (.str (Str.ofString "")) j p1) "join" apos) [e] [] cpos) (cJoin1 X.K te):=
 (lb PySem.F.plainAttrs_str PySem.F.slot_str_join PySem.F.type_str_join sh rW (aa he.mono ad hs) hbase hfew hline hs hplain).imp fun σ H Q q=>⟨rfl,_,q,fun x H1 z=>by
  split at z
  ·obtain ⟨cs,h,h2,z⟩:=z;exact ⟨_,cs,rfl,rfl,h,h2,z⟩
  ·exact z.elim⟩
end
section
variable {X:Cx} {tg a b e:Expr} {te ta tb:TE} {pos p:Pos}
noncomputable def cIter (K:Frag) (te:TE):TI:=fun σ H R=>te σ H fun x H1=>match x with
 | .str z=>R (Its z) H1
 | .ref a=>((∃ xs,SqL K H1 a xs)/\R (Itl K a) H1)\/((∃ xs,SqT K H1 a xs)/\R (Itt K a) H1)
 | _=>False
theorem tY (he:PE X e te):PI X tg e (cIter X.K te):=by
 intro pins s σ H R I h;refine thn (he pins s σ H _ I h) fun v s1 ⟨y,H1,I1,r1,q1⟩=>?_
 dsimp only at q1;split at q1
 ·rename_i x;obtain ⟨t,rfl⟩:=r1;refine wpAny_pyIter_strU ?_;refine ⟨s1.heap.objs.size,[s1.heap.objs.size],_,Its x,H1,rfl,I1.kept (t':=s1.toks) fun b o e=>Heap.get?_push_of_some _ e,ra x t _,⟨_,Heap.get?_push_size _ rfl,rfl,rfl⟩,fun b hb=>?_,q1⟩;have e:b=s1.heap.objs.size:=by simpa using hb
  subst e;exact I1.fpOk (Nat.le_refl _) (I1.hok.fresh (Nat.le_refl _))
 ·rename_i l;cases r1;rcases q1 with ⟨⟨xs,hq⟩,q⟩ | ⟨⟨xs,hq⟩,q⟩
  ·obtain ⟨its,rv,p,hz⟩:=I1.list hq;refine wpAny_pyIter_list p.isList ?_;refine ⟨s1.heap.objs.size,[s1.heap.objs.size],_,_,H1,rfl,I1.kept (t':=s1.toks) fun b o e=>Heap.get?_push_of_some _ e,qx l _,⟨_,Heap.get?_push_size _ rfl,rfl,rfl⟩,fun b hb=>?_,q⟩;have e:b=s1.heap.objs.size:=by simpa using hb
   subst e;exact I1.fpOk (Nat.le_refl _) (I1.hok.fresh (Nat.le_refl _))
  ·obtain ⟨its,rv,p,hz⟩:=I1.tuple hq;refine wpAny_pyIter_tuple (show s1.heap.IsTuple l its.toArray from p) ?_;refine ⟨s1.heap.objs.size,[s1.heap.objs.size],_,_,H1,rfl,I1.kept (t':=s1.toks) fun b o e=>Heap.get?_push_of_some _ e,oH l _,⟨_,Heap.get?_push_size _ rfl,rfl,rfl⟩,fun b hb=>?_,q⟩;have e:b=s1.heap.objs.size:=by simpa using hb
   subst e;exact I1.fpOk (Nat.le_refl _) (I1.hok.fresh (Nat.le_refl _))
 ·exact q1.elim
noncomputable def cRng1 (te:TE):TI:=fun σ H R=>te σ H fun x H1=>match x with
 | .int j=>-1000000<=j/\j<=1000000/\R (Itr 0 j.toNat) H1
 | _=>False
theorem bC (hg:Gl X "range") (hm:X.mg "range" = none) (ha:PE X a ta) (hs:starEach [a] X.env=[(false,eval a X.env)]:=by rfl):PI X tg (.Call (.Name "range" p) [a] [] pos) (cRng1 ta):=
 (qQ hg hm (aa ha.mono ad hs) hs).imp fun σ H R q=>⟨_,q,fun x H1 z=>by
  split at z
  ·exact ⟨_,rfl,by omega,by omega,z.2.2⟩
  ·exact z.elim⟩
noncomputable def cRng2 (ta tb:TE):TI:=fun σ H R=>ta σ H fun x H1=>tb σ H1 fun y H2=>match x,y with
 | .int i,.int j=>(-1000000<=i/\i<=1000000 /\ -1000000<=j/\j<=1000000)/\R (Itr i (j - i).toNat) H2
 | _,_=>False
theorem qg (hg:Gl X "range") (hm:X.mg "range" = none) (ha:PE X a ta) (hb:PE X b tb) (hs:starEach [a,b] X.env=[(false,eval a X.env),(false,eval b X.env)]:=by rfl) (hs2:starEach [b] X.env=[(false,eval b X.env)]:=by rfl):
  PI X tg (.Call (.Name "range" p) [a,b] [] pos) (cRng2 ta tb):=
 (qk hg hm (aa ha.mono (aa hb.mono ad hs2) (by rw [hs,hs2])) hs hs2).imp fun σ H R q=>⟨_,q,fun x H1 z=>⟨_,z,fun y H2 z=>by
  split at z
  ·exact ⟨_,_,rfl,by omega,z.2⟩
  ·exact z.elim⟩⟩
def srcK (K:Frag) (H:Hp) (v:V) (R:Src->Prop):Prop:=match v with
 | .str x=>R (.str x)
 | .ref a=>(∃ xs,SqL K H a xs)/\R (.lst a)
 | _=>False
theorem i6 {K:Frag} {H:Hp} {v:V} {R:Src->Prop} (h:srcK K H v R):∃ S,SrcOf K H S v/\R S:=by
 unfold srcK at h;split at h
 ·exact ⟨.str _,rfl,h⟩
 ·exact ⟨.lst _,⟨rfl,h.1⟩,h.2⟩
 ·exact h.elim
noncomputable def cZip (K:Frag) (ta tb:TE):TI:=fun σ H R=>ta σ H fun x H1=>tb σ H1 fun y H2=>srcK K H2 x fun S1=>srcK K H2 y fun S2=>R (Itz K S1 S2) H2
theorem vP {elts:List Expr} {kk:Nat} {tpos:Pos} (hg:Gl X "zip") (hm:X.mg "zip" = none) (ha:PE X a ta) (hb:PE X b tb) (hs:starEach [a,b] X.env=[(false,eval a X.env),(false,eval b X.env)]:=by rfl) (hs2:starEach [b] X.env=[(false,eval b X.env)]:=by rfl):
  PI X (.Tuple elts kk tpos) (.Call (.Name "zip" p) [a,b] [] pos) (cZip X.K ta tb):=
 (wL hg hm (aa ha.mono (aa hb.mono ad hs2) (by rw [hs,hs2])) hs hs2).imp fun σ H R q=>⟨_,q,fun x H1 z=>⟨_,z,fun y H2 z=>by
  obtain ⟨S1,o1,z⟩:=i6 z;obtain ⟨S2,o2,z⟩:=i6 z;exact ⟨S1,S2,x,y,rfl,o1,o2,z⟩⟩⟩
end
def loopW (J:It) (g:TG) (tb:TS) (D:Ends) (σ:St) (H:Hp):Prop:=∃ W:Nat->Nat->St->Hp->Prop,(∃ m,W 0 m σ H)/\∀ i m σ H,W i m σ H ->
 (J.stop i H/\D.nx σ H)\/(J.go i H/\∃ N:St->Hp->Prop,(∀ σ' H',N σ' H'->∃ m',m' < m/\W (i+1) m' σ' H')/\∀ x H',J.yld i H x H'->g x σ H' fun σ2 H2=>tb { D with nx:=N,ct:=N,bk:=D.nx } σ2 H2)
noncomputable def cFor (wi:TI) (g:TG) (tb:TS):TS:=fun D σ H=>wi σ H fun J H1=>loopW J g tb D σ H1
theorem bd {X:Cx} {tg iter:Expr} {body:List Stmt} {wi:TI} {g:TG} {tb:TS} {pos:Pos} (hp:PassesOwn (model X.prog X.w) X.A X.env X.xe) (hc:X.calm=true) (hi:PI X tg iter wi) (hg:PG X tg g) (hb:PSs X body tb)
  (hs:∀ x,foldedSetIterable iter X.env x=pure x:=by intro _; rfl):PS X (.For tg iter body [] pos) (cFor wi g tb):=wj hp hc hi hg hb hs
section
variable {K:Frag} {g:TG} {tb:TS} {D:Ends} {σ:St} {H:Hp}
noncomputable abbrev Ends.turn (D:Ends) (N:St->Hp->Prop):Ends:={ D with nx:=N,ct:=N,bk:=D.nx }
theorem rf {l:List Nat} (Pv:Nat->St->Hp->Prop) (h0:Pv 0 σ H) (hs:∀ i c σ H,l[i]? = some c->Pv i σ H->g (.str (st [c])) σ H fun σ2 H2=>tb (D.turn (Pv (i+1))) σ2 H2) (hd:∀ σ H,Pv l.length σ H->D.nx σ H):
  loopW (Its (st l)) g tb D σ H:=
 n8 (n:=l.length) Pv h0 (fun i σ H hi _=>by show i < (st l).cps.size; simpa using hi) (fun σ H _=>by show (st l).cps.size<=l.length; simp)
  (fun i σ H x H' hi p y=>by
   obtain ⟨rfl,c,hc,rfl⟩:=y;exact hs i c σ _ (by simpa using hc) p) hd
theorem bq {p:Addr} {xs:List V} (Pv:Nat->St->Hp->Prop) (h0:Pv 0 σ H) (hl:∀ i σ H,i<=xs.length->Pv i σ H->SqL K H p xs)
  (hs:∀ i x σ H,xs[i]? = some x->Pv i σ H->g x σ H fun σ2 H2=>tb (D.turn (Pv (i+1))) σ2 H2) (hd:∀ σ H,Pv xs.length σ H->D.nx σ H):loopW (Itl K p) g tb D σ H:=sw Pv h0 hl hs hd
theorem dE {lo:Int} {n:Nat} (Pv:Nat->St->Hp->Prop) (h0:Pv 0 σ H) (hs:∀ i σ H,i < n->Pv i σ H->g (.int (lo+i)) σ H fun σ2 H2=>tb (D.turn (Pv (i+1))) σ2 H2) (hd:∀ σ H,Pv n σ H->D.nx σ H):
  loopW (Itr lo n) g tb D σ H:=pU Pv h0 hs hd
noncomputable def SrcVals (K:Frag) (H:Hp):Src->List V->Prop
 | .str x,xs=>xs=x.cps.toList.map fun c=>V.str (st [c])
 | .lst a,xs=>SqL K H a xs
theorem SrcVals.go {S:Src} {xs:List V} {i:Nat} (h:SrcVals K H S xs) (hi:i < xs.length):SrcGo K H S i:=by
 cases S with
 | str x=>
  have e:xs=x.cps.toList.map fun c=>V.str (st [c]):=h
  subst e;show i < x.cps.size;simpa using hi
 | lst a=>exact ⟨xs,xs[i],h,by simp [hi]⟩
theorem SrcVals.stop {S:Src} {xs:List V} {i:Nat} (h:SrcVals K H S xs) (hi:xs.length<=i):SrcEnd K H S i:=by
 cases S with
 | str x=>
  have e:xs=x.cps.toList.map fun c=>V.str (st [c]):=h
  subst e;show x.cps.size<=i;simpa using hi
 | lst a=>exact ⟨xs,h,hi⟩
theorem SrcVals.at {S:Src} {xs:List V} {i:Nat} {v:V} (h:SrcVals K H S xs) (q:SrcAt K H S i v):xs[i]? = some v:=by
 cases S with
 | str x=>
  have e:xs=x.cps.toList.map fun c=>V.str (st [c]):=h
  subst e;obtain ⟨c,hc,rfl⟩:=q;simp [hc]
 | lst a=>exact q xs h
theorem SqT.upd_same {p:Addr} {xs:List V}:SqT K (upd H p (.tup xs)) p xs:=SqT.of L2.upd_same
theorem jn {S1 S2:Src} {xs ys:List V} {j k:Nat} (Pv:Nat->St->Hp->Prop) (h0:Pv 0 σ H) (hl:∀ i σ H,Pv i σ H->SrcVals K H S1 xs/\SrcVals K H S2 ys)
  (hs:∀ i x y σ H T,xs[i]? = some x->ys[i]? = some y->Pv i σ H->H T=none->tb (D.turn (Pv (i+1))) ((σ.set j (some x)).set k (some y)) (upd H T (.tup [x,y]))) (hd:∀ σ H,Pv (min xs.length ys.length) σ H->D.nx σ H):
  loopW (Itz K S1 S2) (gTup K 2 (gCons (gName j) (gCons (gName k) gNil))) tb D σ H:=
 n8 (n:=min xs.length ys.length) Pv h0 (fun i σ H hi p=>by
   obtain ⟨q1,q2⟩:=hl i σ H p;exact ⟨q1.go (by omega),q2.go (by omega)⟩)
  (fun σ H p=>by
   obtain ⟨q1,q2⟩:=hl _ σ H p;by_cases h:xs.length<=ys.length
   ·exact .inl (q1.stop (by omega))
   ·exact .inr ⟨q1.go (by omega),q2.stop (by omega)⟩)
  (fun i σ H v H' hi p y=>by
   obtain ⟨T,x,y,rfl,hT,rfl,s1,s2⟩:=y;obtain ⟨q1,q2⟩:=hl i σ H p;exact ⟨T,[x,y],rfl,SqT.upd_same,rfl,x,[y],rfl,y,[],rfl,rfl,hs i x y σ H T (q1.at s1) (q2.at s2) p hT⟩) hd
end
def compW (J:It) (g:TG) (tc:TT) (te:TE) (σc:St) (D:Addr) (Q:VK) (H:Hp):Prop:=
 ∃ W:Nat->Nat->List V->Hp->Prop,(∃ m,W 0 m [] (upd H D (.lst [])))/\∀ i m acc H2,W i m acc H2 ->
  (J.stop i H2/\Q (.ref D) H2)\/(J.go i H2/\∀ x H3,J.yld i H2 x H3->g x σc H3 fun σ4 H4=>tc σ4 H4 fun b H5=>if b=true then
   te σ4 H5 fun v H6=>H6 D=some (.lst acc)/\acc.length < sizeLine/\∃ m',m' < m/\W (i+1) m' (acc++[v]) (upd H6 D (.lst (acc++[v]))) else ∃ m',m' < m/\W (i+1) m' acc H5)
noncomputable def cComp (nt:Nat) (fi:List Nat) (wi:TI) (g:TG) (tc:TT) (te:TE):TE:=fun σ H Q=>wi σ H fun J H1=>∀ D,H1 D=none->compW J g tc te (compσ nt fi σ) D Q H1
theorem bu {X:Cx} {elt tg iter:Expr} {ifs:List Expr} {scope:Scope} {pos:Pos} {wi:TI} {g:TG} {tc:TT} {te:TE} {nt:Nat} {fi:List Nat} {N':List Str} (hcalm:X.calm=true)
  (S:CScope scope) (cn:CNames X scope nt fi N') (gk:GK nt g) (hi:PI X tg iter wi)
  (hg:∀ cl C s H ex,PG (cxC X scope cl N' C s H ex) tg g) (hc:∀ cl C s H ex,PIf (cxC X scope cl N' C s H ex) ifs tc) (he:∀ cl C s H ex,PE (cxC X scope cl N' C s H ex) elt te)
  (hs:∀ x,foldedSetIterable iter X.env x=pure x:=by intro _; rfl):PE X (.ListComp elt [⟨tg,iter,ifs,0⟩] scope pos) (cComp nt fi wi g tc te):=uk hcalm S cn gk hi hg hc he hs
section
variable {K:Frag} {J:It} {g:TG} {tc:TT} {te:TE} {σc:St} {D:Addr} {Q:VK} {H:Hp}
theorem cz {α:Type} (f:Nat->List α) (n:Nat):(List.range (n+1)).flatMap f=(List.range n).flatMap f++f n:=by
 rw [List.range_succ,List.flatMap_append];simp
theorem jG {α:Type} (f:Nat->List α) (hf:∀ i,(f i).length<=1) (n:Nat):((List.range n).flatMap f).length<=n:=by
 induction n with
 | zero=>simp
 | succ n ih=>
  rw [cz,List.length_append];have:=hf n;omega
theorem lM {n:Nat} (f:Nat->List V) (hfree:H D=none) (hn:n<=100000) (hf:∀ i,(f i).length<=1) (hy:∀ i H x H',J.yld i H x H'->Same H H')
  (hgo:∀ i H',i < n->Same H H'->J.go i H') (hst:∀ H',Same H H'->J.stop n H')
  (hs:∀ i H1 x H2 (out:VK) (non:Hp->Prop),i < n->Same H H1->J.yld i H1 x H2->(∀ v H6,f i=[v]->Same H2 H6->out v H6)->(∀ H5,f i=[]->Same H2 H5->non H5) ->
   g x σc H2 fun σ4 H4=>tc σ4 H4 fun b H5=>if b=true then te σ4 H5 out else non H5)
  (hq:∀ H',Same H H'->H' D=some (.lst ((List.range n).flatMap f))->Q (.ref D) H'):compW J g tc te σc D Q H:=by
 refine ⟨fun i m acc H2=>m=n - i/\i<=n/\acc=(List.range i).flatMap f/\Same H H2/\H2 D=some (.lst acc),⟨n,by simp,Nat.zero_le _,by simp,ag hfree _,upd_same⟩,?_⟩;rintro i m acc H2 ⟨rfl,hi,rfl,sm,hD⟩;by_cases hlt:i < n
 ·refine .inr ⟨hgo i H2 hlt sm,fun x H3 y=>?_⟩;have s23:=hy i H2 x H3 y;refine hs i H2 x H3 _ _ hlt sm y (fun v H6 e s6=>?_) fun H5 e s5=>?_
  ·refine ⟨s6 _ _ (s23 _ _ hD),Nat.lt_of_le_of_lt (jG f hf i) (sizeBig (by omega)),n - (i+1),by omega,rfl,hlt,?_,?_,upd_same⟩
   ·rw [cz,e]
   ·exact aW (sm.trans (s23.trans s6)) hfree
  ·refine ⟨n - (i+1),by omega,rfl,hlt,?_,sm.trans (s23.trans s5),s5 _ _ (s23 _ _ hD)⟩;rw [cz,e,List.append_nil]
 ·have e:i=n:=by omega
  subst e;exact .inl ⟨hst H2 sm,hq H2 sm hD⟩
noncomputable def atH {α β:Type} (xs:List α) (h:α -> List β) (i:Nat):List β:=((xs[i]?).map h).getD []
theorem mC {α β:Type} {xs:List α} {h:α -> List β} {i:Nat} {x:α} (e:xs[i]? = some x):atH xs h i=h x:=by simp [atH,e]
theorem oY {α β:Type} {xs:List α} {h:α -> List β} (hf:∀ x,(h x).length<=1) (i:Nat):(atH xs h i).length<=1:=by
 unfold atH;cases xs[i]? with
 | none=>simp
 | some x=>simpa using hf x
theorem pv {α β:Type} (xs:List α) (h:α -> List β):(List.range xs.length).flatMap (atH xs h)=xs.flatMap h:=by
 induction xs with
 | nil=>rfl
 | cons a xs ih=>
  rw [List.length_cons,List.range_succ_eq_map,List.flatMap_cons,List.flatMap_map,List.flatMap_cons,<- ih];rfl
section
variable {α:Type} (item:α -> V) (xs:List α) (h:α -> List V)
theorem fN {p:Addr} (hfree:H D=none) (hl:SqL K H p (xs.map item)) (hn:xs.length<=100000) (hf:∀ x,(h x).length<=1)
  (hs:∀ x H1 (out:VK) (non:Hp->Prop),x ∈ xs->Same H H1->(∀ v H6,h x=[v]->Same H1 H6->out v H6)->(∀ H5,h x=[]->Same H1 H5->non H5) ->
   g (item x) σc H1 fun σ4 H4=>tc σ4 H4 fun b H5=>if b=true then te σ4 H5 out else non H5)
  (hq:∀ H',Same H H'->H' D=some (.lst (xs.flatMap h))->Q (.ref D) H'):compW (Itl K p) g tc te σc D Q H:=by
 refine lM (n:=xs.length) (atH xs h) hfree hn (oY hf) (fun i H x H' y=>?_) (fun i H' hi s=>?_) (fun H' s=>?_) (fun i H1 x H2 out non hi s y ho hnn=>?_) fun H' s q=>?_
 ·rw [y.1];exact Same.refl _
 ·exact ⟨_,item xs[i],s.seq hl,by simp [hi]⟩
 ·exact ⟨_,s.seq hl,by simp⟩
 ·obtain ⟨rfl,y⟩:=y;have e:=y _ (s.seq hl);rw [List.getElem?_map,List.getElem?_eq_getElem hi] at e;have e2:item xs[i]=x:=Option.some.inj e;subst e2;simp only [mC (List.getElem?_eq_getElem hi)] at ho hnn;exact hs xs[i] _ out non (List.getElem_mem hi) s ho hnn
 ·rw [pv] at q;exact hq H' s q
theorem cj {lo:Int} {n:Nat} {h:Nat->List V} (hfree:H D=none) (hn:n<=100000) (hf:∀ x,(h x).length<=1)
  (hs:∀ i H1 (out:VK) (non:Hp->Prop),i < n->Same H H1->(∀ v H6,h i=[v]->Same H1 H6->out v H6)->(∀ H5,h i=[]->Same H1 H5->non H5) ->
   g (.int (lo+i)) σc H1 fun σ4 H4=>tc σ4 H4 fun b H5=>if b=true then te σ4 H5 out else non H5)
  (hq:∀ H',Same H H'->H' D=some (.lst ((List.range n).flatMap h))->Q (.ref D) H'):compW (Itr lo n) g tc te σc D Q H:=by
 refine lM (n:=n) h hfree hn hf (fun i H x H' y=>?_) (fun i H' hi s=>hi) (fun H' s=>Nat.le_refl _) (fun i H1 x H2 out non hi s y ho hnn=>?_) hq
 ·rw [y.1];exact Same.refl _
 ·obtain ⟨rfl,rfl⟩:=y;exact hs i _ out non hi s ho hnn
theorem mJ {S1 S2:Src} {us ws:List V} {j k:Nat} {h:V->V->List V} (hfree:H D=none) (h1:∀ H',Same H H'->SrcVals K H' S1 us) (h2:∀ H',Same H H'->SrcVals K H' S2 ws) (hn:us.length<=100000) (hf:∀ x y,(h x y).length<=1)
  (hs:∀ x y H1 (out:VK) (non:Hp->Prop),(x,y) ∈ us.zip ws->Same H H1->(∀ v H6,h x y=[v]->Same H1 H6->out v H6)->(∀ H5,h x y=[]->Same H1 H5->non H5) ->
   tc ((σc.set j (some x)).set k (some y)) H1 fun b H5=>if b=true then te ((σc.set j (some x)).set k (some y)) H5 out else non H5)
  (hq:∀ H',Same H H'->H' D=some (.lst ((us.zip ws).flatMap fun p=>h p.1 p.2))->Q (.ref D) H'):compW (Itz K S1 S2) (gTup K 2 (gCons (gName j) (gCons (gName k) gNil))) tc te σc D Q H:=by
 refine lM (n:=(us.zip ws).length) (atH (us.zip ws) fun p=>h p.1 p.2) hfree (by rw [List.length_zip]; omega) (oY fun p=>hf p.1 p.2) (fun i H x H' y=>?_) (fun i H' hi s=>?_) (fun H' s=>?_) (fun i H1 x H2 out non hi s y ho hnn=>?_) fun H' s q=>?_
 ·obtain ⟨T,x,y,_,hT,rfl,_⟩:=y;exact ag hT _
 ·rw [List.length_zip] at hi;exact ⟨(h1 H' s).go (by omega),(h2 H' s).go (by omega)⟩
 ·rw [List.length_zip];by_cases h:us.length<=ws.length
  ·exact .inl ((h1 H' s).stop (by omega))
  ·exact .inr ⟨(h1 H' s).go (by omega),(h2 H' s).stop (by omega)⟩
 ·obtain ⟨T,x,y,rfl,hT,rfl,s1,s2⟩:=y;have q1:=(h1 _ s).at s1;have q2:=(h2 _ s).at s2;have e:(us.zip ws)[i]? = some (x,y):=by
   rw [List.getElem?_zip_eq_some];exact ⟨q1,q2⟩
  simp only [mC e] at ho hnn;exact ⟨T,[x,y],rfl,SqT.upd_same,rfl,x,[y],rfl,y,[],rfl,rfl,hs x y _ out non (List.mem_of_getElem? e) (s.trans (ag hT _)) ho hnn⟩
 ·rw [pv (us.zip ws) fun p=>h p.1 p.2] at q;exact hq H' s q
end
end
noncomputable def cnOk (N:List Str) (sc scope:Scope) (nt:Nat) (fi:List Nat) (N':List Str):Bool:=
 N'.length == nt+fi.length && ((List.range fi.length).all fun k=>match fi[k]? with
  | some j=>match N'[nt+k]?,N[j]? with
   | some x,some y=>x == y && scope.names.lookup x == some NameKind.free
   | _,_=>false
  | none=>false) && scope.names.all fun y=>y.2 != NameKind.free || (sc.names.lookup y.1 == some NameKind.cell || sc.names.lookup y.1 == some NameKind.free)
theorem cnames {X:Cx} {N:List Str} {sc scope:Scope} {nt:Nat} {fi:List Nat} {N':List Str} (hN:X.N=N) (hsc:X.env.scope=sc) (h:cnOk N sc scope nt fi N'=true):CNames X scope nt fi N':=by
 unfold cnOk at h;simp only [Bool.and_eq_true,List.all_eq_true,List.mem_range,beq_iff_eq] at h;obtain ⟨⟨h1,h2⟩,h3⟩:=h;refine ⟨h1,fun k j e=>?_,fun y hy e=>?_⟩
 ·have hk:k < fi.length:=(List.getElem?_eq_some_iff.mp e).1;have q:=h2 k hk;rw [e] at q;dsimp only at q;split at q
  ·rename_i x y e1 e2;simp only [Bool.and_eq_true,beq_iff_eq] at q;obtain ⟨rfl,q⟩:=q;exact ⟨_,e1,by rw [hN]; exact e2,q⟩
  ·cases q
 ·have q:=h3 y hy;rw [e] at q;rw [hsc];simpa using q
theorem cscope {scope:Scope} (hk:scope.kind=.function) (h:(scope.names.all fun y=>y.2 != NameKind.cell && (y.2 != NameKind.local || scope.names.lookup y.1 == some NameKind.local))=true):CScope scope:=by
 simp only [List.all_eq_true,Bool.and_eq_true] at h;refine ⟨hk,fun y hy e=>?_,fun y hy e=>?_⟩
 ·have:=(h y hy).1;rw [e] at this;exact absurd this (by decide)
 ·have:=(h y hy).2;rw [e] at this;simpa using this
theorem be:bootBuiltins "len" = some (.builtin "len"):=by decide +kernel
theorem rM:bootBuiltins "sum" = some (.builtin "sum"):=by decide +kernel
theorem oD:bootBuiltins "min" = some (.builtin "min"):=by decide +kernel
theorem ka:bootBuiltins "isinstance" = some (.builtin "isinstance"):=by decide +kernel
theorem om:bootBuiltins "str" = some (.type "str"):=by decide +kernel
theorem oa:bootBuiltins "int" = some (.type "int"):=by decide +kernel
theorem i7:bootBuiltins "bool" = some (.type "bool"):=by decide +kernel
theorem dB:bootBuiltins "list" = some (.type "list"):=by decide +kernel
theorem gD:bootBuiltins "tuple" = some (.type "tuple"):=by decide +kernel
inductive Ty where
 | bool | int | str | list | tuple
noncomputable def Ty.nm:Ty->String
 | .bool => "bool" | .int => "int" | .str => "str" | .list => "list" | .tuple => "tuple"
noncomputable def Ty.isBl:Ty->Bool
 | .bool=>true | .int=>true | _=>false
noncomputable def Ty.isInt:Ty->Bool
 | .int=>true | _=>false
noncomputable def Ty.isStr:Ty->Bool
 | .str=>true | _=>false
noncomputable def Ty.isLst:Ty->Bool
 | .list=>true | _=>false
noncomputable def Ty.isTup:Ty->Bool
 | .tuple=>true | _=>false
section
variable {K:Frag}
theorem uq (n:Ty):PySem.W.kitOne K (.type "NoneType") (.type n.nm)=some false:=by cases n <;> with_unfolding_all rfl
theorem vU (n:Ty):PySem.W.kitOne K (.type "bool") (.type n.nm)=some n.isBl:=by cases n <;> with_unfolding_all rfl
theorem u0 (n:Ty):PySem.W.kitOne K (.type "int") (.type n.nm)=some n.isInt:=by cases n <;> with_unfolding_all rfl
theorem tI (n:Ty):PySem.W.kitOne K (.type "str") (.type n.nm)=some n.isStr:=by cases n <;> with_unfolding_all rfl
theorem uJ (n:Ty):PySem.W.kitOne K (.type "list") (.type n.nm)=some n.isLst:=by cases n <;> with_unfolding_all rfl
theorem ut (n:Ty):PySem.W.kitOne K (.type "tuple") (.type n.nm)=some n.isTup:=by cases n <;> with_unfolding_all rfl
end
section
variable {X:Cx} {a b e:Expr} {ta tb te:TE} {pos p p2:Pos}
theorem xt {x:Str} {n:String} (hg:Gl X x) (hm:X.mg x=none) (hv:bootBuiltins x=some (.type n)) (hn:x ≠ "__name__" := by decide) (hd:(x == ("__debug__" : Str))=false:=by decide):PE X (.Name x pos) (tC (.ty n)):=ug (v:=.ty n) hg hm hv rfl hn hd
noncomputable def cIsI (n:Ty) (ta:TE):TE:=fun σ H Q=>ta σ H fun x H1=>match x with
 | .non=>Q (.bl false) H1
 | .bl _=>Q (.bl n.isBl) H1
 | .int _=>Q (.bl n.isInt) H1
 | .str _=>Q (.bl n.isStr) H1
 | .ref p=>((∃ xs,H1 p=some (.lst xs))/\Q (.bl n.isLst) H1)\/((∃ xs,H1 p=some (.tup xs))/\Q (.bl n.isTup) H1)
 | _=>False
theorem aP {x:Str} (n:Ty) (hg:Gl X "isinstance") (hm:X.mg "isinstance" = none) (ha:PE X a ta) (hg2:Gl X x) (hm2:X.mg x=none) (hv2:bootBuiltins x=some (.type n.nm)) (hn2:x ≠ "__name__" := by decide) (hd2:(x == ("__debug__" : Str))=false:=by decide)
  (hs:starEach [a,.Name x p2] X.env=(false,eval a X.env)::starEach [.Name x p2] X.env:=by rfl) (hpl:(backTo pos (starEach [.Name x p2] X.env)).any (·.1)=false:=by rfl):PE X (.Call (.Name "isinstance" p) [a,.Name x p2] [] pos) (cIsI n ta):=
 (aE nh hg hm ka (aa ha.mono (aa (xt hg2 hm2 hv2 hn2 hd2) ad) hs) (he:=hs) (hpl:=hpl)).imp fun σ H Q q=>⟨_,q,fun v H1 z=>by
  show ∃ x n t b,[v,V.ty _]=[x,.ty n]/\TyOf X.K H1 x t/\PySem.W.kitOne X.K t (.type n)=some b/\Q (.bl b) H1;split at z
  ·exact ⟨_,_,_,_,rfl,.non,uq n,z⟩
  ·exact ⟨_,_,_,_,rfl,.bl _,vU n,z⟩
  ·exact ⟨_,_,_,_,rfl,.int _,u0 n,z⟩
  ·exact ⟨_,_,_,_,rfl,.str _,tI n,z⟩
  ·rcases z with ⟨⟨xs,h⟩,z⟩ | ⟨⟨xs,h⟩,z⟩
   ·exact ⟨_,_,_,_,rfl,.lst h,uJ n,z⟩
   ·exact ⟨_,_,_,_,rfl,.tup h,ut n,z⟩
  ·exact z.elim⟩
noncomputable def kInt:List V->Hp->VK->Prop:=fun xs H Q=>match xs with
 | [.int i]=>Q (.int i) H
 | [.bl k]=>Q (.int (if k then 1 else 0)) H
 | [.str z]=>∃ c:Nat,z.cps.toList=[c]/\48<=c/\c<=57/\Q (.int ((c - 48:Nat):Int)) H
 | _=>False
theorem nz (c:Nat) (h0:48<=c) (h1:c<=57):PySem.intText? ⟨#[c]⟩=some ((c - 48:Nat):Int):=by
 obtain ⟨d,rfl⟩:∃ d,c=48+d:=⟨c - 48,by omega⟩;have h:d < 10:=by omega
 have hd:d=0\/d=1\/d=2\/d=3\/d=4\/d=5\/d=6\/d=7\/d=8\/d=9:=by omega
 rcases hd with rfl | rfl | rfl | rfl | rfl | rfl | rfl | rfl | rfl | rfl <;> decide +kernel
theorem qI:CallR X (.type "int") kInt:=by
 intro pins s σ H xs us Q I r q;unfold kInt at q;split at q
 ·exact kR pins s σ H _ us Q I r (.inl ⟨_,rfl,q⟩)
 ·exact kR pins s σ H _ us Q I r (.inr ⟨_,rfl,q⟩)
 ·obtain ⟨c,e,h0,h1,q⟩:=q;rename_i z;have ea:z=⟨#[c]⟩:=by rw [<- aF z,e]
  subst ea;exact lH pins s σ H _ us Q I r ⟨_,_,rfl,nz c h0 h1,(by decide:1<=640),q⟩
 ·exact q.elim
noncomputable def kSl (K:Frag):V->Option Int->Option Int->Hp->VK->Prop:=fun x lo hi H Q=>match x with
 | .str z=>match lo,hi with
  | none,some j=>z.cps.toList.length<=100000/\0<=j/\j<=z.cps.toList.length/\Q (.str (st (z.cps.toList.take j.toNat))) H
  | some i,none=>z.cps.toList.length<=100000/\0<=i/\i<=z.cps.toList.length/\Q (.str (st (z.cps.toList.drop i.toNat))) H
  | _,_=>False
 | .ref a=>∃ xs,SqL K H a xs/\∀ p,H p=none->Q (.ref p) (upd H p (.lst (cutV xs lo hi)))
 | _=>False
theorem xz:SlR X (kSl X.K):=by
 refine (SlR.or qX tD).imp fun x lo hi H Q q=>?_
 unfold kSl at q;split at q
 ·rename_i z;split at q
  ·obtain ⟨h,h0,h1,q⟩:=q;rename_i j;obtain ⟨k,rfl⟩:∃ k:Nat,j=k:=⟨j.toNat,by omega⟩;refine .inl ⟨z,rfl,by rw [strlen]; exact Nat.le_trans h big5,?_⟩;have e:=rm z.cps.toList k (by omega);rw [aF] at e;rw [e];simpa using q
  ·obtain ⟨h,h0,h1,q⟩:=q;rename_i j;obtain ⟨k,rfl⟩:∃ k:Nat,j=k:=⟨j.toNat,by omega⟩;refine .inl ⟨z,rfl,by rw [strlen]; exact Nat.le_trans h big5,?_⟩;have e:=nN z.cps.toList k (by omega);rw [aF] at e;rw [e];simpa using q
  ·exact q.elim
 ·obtain ⟨xs,h,q⟩:=q;exact .inr ⟨_,_,rfl,h,q⟩
 ·exact q.elim
noncomputable def cNeg (ta:TE):TE:=fun σ H Q=>ta σ H fun x H1=>match x with
 | .int i=>Q (.int (-i)) H1
 | _=>False
theorem qW (ha:PE X a ta):PE X (.UnaryOp .USub a pos) (cNeg ta):=(xm vW ha.mono).imp fun σ H Q q=>⟨_,q,fun v H1 z=>by
 split at z
 ·exact ⟨_,rfl,z⟩
 ·exact z.elim⟩
end
section
variable {X:Cx} {a b e:Expr} {ta tb te:TE} {pos p apos cpos:Pos}
theorem ixE (K:Frag) (h:X.K=K):IxR X (kIx K):=by subst h; exact xC
theorem slE (K:Frag) (h:X.K=K):SlR X (kSl K):=by subst h; exact xz
theorem lenE (K:Frag) (h:X.K=K):CallR X (.builtin "len") (kLen K):=by subst h; exact pY
theorem notinE (K:Frag) (h:X.K=K):OpR X (compareOp .NotIn) (kIn K true):=by subst h; exact qw
theorem joinE (K:Frag) (h:X.K=K) {j:Nat} {p1:Pos} (he:PE X e te) (hfew:((backTo cpos (starEach [e] X.env)).all (fun x=>!x.1) && (backToKw cpos (keywordEach [] X.env)).all (fun x=>x.1.isSome)
   && decide ([e].length+([]:List Keyword).length+(if ([]:List Keyword).isEmpty then 0 else 1) < 30))=true:=by rfl)
  (hline:(apos.endLine == cpos.line)=true:=by rfl) (hs:starEach [e] X.env=(false,eval e X.env)::starEach [] X.env:=by rfl) (hplain:(backTo cpos (starEach [] X.env)).any (·.1)=false:=by rfl)
  (hbase:attributeBase (.Constant (.str (Str.ofString "")) j p1) "join" X.env (eval (.Constant (.str (Str.ofString "")) j p1) X.env)=eval (.Constant (.str (Str.ofString "")) j p1) X.env:=by rfl):
  PE X (.Call (.Attribute (.Constant (.str (Str.ofString "")) j p1) "join" apos) [e] [] cpos) (cJoin1 K te):=by subst h; exact rJ he hfew hline hs hplain hbase
theorem iterE (K:Frag) (h:X.K=K) {tg:Expr} (he:PE X e te):PI X tg e (cIter K te):=by subst h; exact tY he
theorem zipE (K:Frag) (h:X.K=K) {elts:List Expr} {kk:Nat} {tpos:Pos} (hg:Gl X "zip") (hm:X.mg "zip" = none) (ha:PE X a ta) (hb:PE X b tb) (hs:starEach [a,b] X.env=[(false,eval a X.env),(false,eval b X.env)]:=by rfl) (hs2:starEach [b] X.env=[(false,eval b X.env)]:=by rfl):
  PI X (.Tuple elts kk tpos) (.Call (.Name "zip" p) [a,b] [] pos) (cZip K ta tb):=by subst h; exact vP hg hm ha hb hs hs2
theorem tupE (K:Frag) (h:X.K=K) {es:List Expr} {k:Nat} {t:TGs} {n:Nat} (hc:X.calm=true) (hp:PGs X es t) (hn:(assignEach es X.env).length=n:=by rfl) (hst:(assignEach es X.env).findIdx? (·.1)=none:=by rfl):PG X (.Tuple es k pos) (gTup K n t):=by subst h; exact sr hc hp hn hst
end
section
variable {t u:TS} {te ta tb:TE} {tc:TT} {D:Ends} {σ:St} {H:Hp} {Q:VK} {R:Bool->Hp->Prop} {i:Nat} {v:V}
theorem vY:cVar i σ H Q=(match σ[i]? with | some (some v)=>Q v H | _=>False):=rfl
theorem xy:tC v σ H Q=Q v H:=rfl
theorem wU {r:R2}:tOp r ta tb σ H Q=ta σ H fun x H1=>tb σ H1 fun y H2=>r x y H2 Q:=rfl
theorem t9 {a b:Int}:kAdd (.int a) (.int b) H Q=Q (.int (a+b)) H:=rfl
theorem u5 {a b:List Nat}:kAdd (.str (st a)) (.str (st b)) H Q=(a.length+b.length<=100000/\Q (.str (st (a++b))) H):=rfl
theorem uh {a b:Addr}:kAdd (.ref a) (.ref b) H Q=∃ xs zs,H a=some (.lst xs)/\H b=some (.lst zs)/\xs.length+zs.length<=sizeLine/\∀ p,H p=none->Q (.ref p) (upd H p (.lst (xs++zs))):=rfl
theorem xx {C:Int->Int->Prop} {g:Int->Int->V} {a b:Int}:kI C g (.int a) (.int b) H Q=(C a b/\Q (g a b) H):=rfl
theorem xa {g:Int->Int->V} {a b:Int}:kI0 g (.int a) (.int b) H Q=Q (g a b) H:=rfl
theorem uR {a b:Int}:kMul (.int a) (.int b) H Q=(CMul a b/\Q (.int (a*b)) H):=rfl
theorem uy {c:Nat} {n:Int}:kMul (.str (st [c])) (.int n) H Q=(0<=n/\n<=10000/\Q (.str (st (List.replicate n.toNat c))) H):=by
 show (∃ d,[c]=[d]/\0<=n/\n<=10000/\Q (.str (st (List.replicate n.toNat d))) H)=_;refine propext ⟨?_,fun h=>⟨c,rfl,h⟩⟩;rintro ⟨d,e,h⟩;cases e;exact h
theorem vF {n:Bool} {a b:Int}:kEq n (.int a) (.int b) H Q=Q (.bl (n ^^ decide (a=b))) H:=rfl
theorem sv {n:Bool} {a b:List Nat}:kEq n (.str (st a)) (.str (st b)) H Q=Q (.bl (n ^^ decide (a=b))) H:=rfl
theorem v8 {n:Bool} {a b:Bool}:kEq n (.bl a) (.bl b) H Q=Q (.bl (n ^^ decide (a=b))) H:=rfl
theorem vd {n:Bool} {b:Str}:kEq n .non (.str b) H Q=Q (.bl (n ^^ false)) H:=rfl
theorem uC {n:Bool} {b:Str}:kEq n (.str b) .non H Q=Q (.bl (n ^^ false)) H:=rfl
theorem uT {n:Bool}:kEq n .non .non H Q=Q (.bl (n ^^ true)) H:=rfl
theorem xb {n:Bool} {x:V}:kIs n x .non H Q=Q (.bl (n ^^ decide (x=.non))) H:=rfl
theorem wI {K:Frag} {n:Bool} {c:Nat} {b:List Nat}:kIn K n (.str (st [c])) (.str (st b)) H Q=Q (.bl (n ^^ decide (c ∈ b))) H:=by
 show (∃ d,[c]=[d]/\Q (.bl (n ^^ decide (d ∈ b))) H)=_;refine propext ⟨?_,fun h=>⟨c,rfl,h⟩⟩;rintro ⟨d,e,h⟩;cases e;exact h
theorem wt {K:Frag} {n:Bool} {x:V} {p:Addr}:kIn K n x (.ref p) H Q=∃ xs,(SqL K H p xs\/SqT K H p xs)/\flatV x=true/\xs.all flatV=true/\Q (.bl (n ^^ inV x xs)) H:=by
 cases x <;> rfl
theorem wB {K:Frag} {l:List Nat} {j:Int}:kIx K (.str (st l)) (.int j) H Q=(l.length<=100000/\∃ c,atI l j=some c/\Q (.str (st [c])) H):=rfl
theorem wD {K:Frag} {p:Addr} {j:Int}:kIx K (.ref p) (.int j) H Q=∃ xs v,(SqL K H p xs\/SqT K H p xs)/\atI xs j=some v/\Q v H:=rfl
theorem uY {K:Frag} {l:List Nat}:kLen K [.str (st l)] H Q=(l.length<=100000/\Q (.int l.length) H):=rfl
theorem uc {K:Frag} {p:Addr}:kLen K [.ref p] H Q=∃ ys,(SqL K H p ys\/SqT K H p ys)/\Q (.int ys.length) H:=rfl
theorem uO {a:Int}:kInt [.int a] H Q=Q (.int a) H:=rfl
theorem tK {a:Bool}:kInt [.bl a] H Q=Q (.int (if a then 1 else 0)) H:=rfl
theorem uo {c:Nat}:kInt [.str (st [c])] H Q=(48<=c/\c<=57/\Q (.int ((c - 48:Nat):Int)) H):=by
 show (∃ d:Nat,[c]=[d]/\48<=d/\d<=57/\Q (.int ((d - 48:Nat):Int)) H)=_;refine propext ⟨?_,fun h=>⟨c,rfl,h⟩⟩;rintro ⟨d,e,h⟩;cases e;exact h
theorem uX {K:Frag} {l:List Nat} {j:Int}:kSl K (.str (st l)) none (some j) H Q=(l.length<=100000/\0<=j/\j<=l.length/\Q (.str (st (l.take j.toNat))) H):=rfl
theorem qC {K:Frag} {l:List Nat} {j:Int}:kSl K (.str (st l)) (some j) none H Q=(l.length<=100000/\0<=j/\j<=l.length/\Q (.str (st (l.drop j.toNat))) H):=rfl
theorem vX {K:Frag} {p:Addr} {lo hi:Option Int}:kSl K (.ref p) lo hi H Q=∃ xs,SqL K H p xs/\∀ q,H q=none->Q (.ref q) (upd H q (.lst (cutV xs lo hi))):=rfl
theorem xj {r:V->Option Int->Option Int->Hp->VK->Prop} {tl th:TO}:tSl r te tl th σ H Q=te σ H fun x H1=>tl σ H1 fun l H2=>th σ H2 fun u H3=>r x l u H3 Q:=rfl
theorem qi {Q:Option Int->Hp->Prop}:tNoPart σ H Q=Q none H:=rfl
noncomputable def cPart (t:TE):TO:=fun σ H Q=>t σ H fun x H1=>match x with | .int i=>Q (some i) H1 | _=>False
theorem ui {Q:Option Int->Hp->Prop}:cPart te σ H Q=te σ H fun x H1=>match x with | .int i=>Q (some i) H1 | _=>False:=rfl
theorem wP:cNeg ta σ H Q=ta σ H fun x H1=>match x with | .int i=>Q (.int (-i)) H1 | _=>False:=rfl
theorem wO {n:Ty}:cIsI n ta σ H Q=ta σ H fun x H1=>match x with
 | .non=>Q (.bl false) H1
 | .bl _=>Q (.bl n.isBl) H1
 | .int _=>Q (.bl n.isInt) H1
 | .str _=>Q (.bl n.isStr) H1
 | .ref p=>((∃ xs,H1 p=some (.lst xs))/\Q (.bl n.isLst) H1)\/((∃ xs,H1 p=some (.tup xs))/\Q (.bl n.isTup) H1)
 | _=>False:=rfl
theorem uU:cTest te σ H R=te σ H (blK R):=rfl
theorem xw {b:Bool}:blK R (.bl b) H=R b H:=rfl
theorem uE:cAndV ta tb σ H Q=ta σ H (blK fun c H1=>if c=true then tb σ H1 Q else Q (.bl false) H1):=rfl
theorem vQ:cOrV ta tb σ H Q=ta σ H (blK fun c H1=>if c=true then Q (.bl true) H1 else tb σ H1 Q):=rfl
theorem wJ {t u:TT}:tAnd t u σ H R=t σ H fun c H1=>if c=true then u σ H1 R else R false H1:=rfl
theorem xk {t u:TT}:tOr t u σ H R=t σ H fun c H1=>if c=true then R true H1 else u σ H1 R:=rfl
theorem wz {t:TT}:tNot t σ H R=t σ H fun c H1=>R (!c) H1:=rfl
theorem wM:tYes σ H R=R true H:=rfl
theorem xh:tIf tc ta tb σ H Q=tc σ H fun c H1=>if c=true then ta σ H1 Q else tb σ H1 Q:=rfl
theorem v7:cApp ta te σ H Q=ta σ H fun x H1=>match x with
 | .ref l=>(∃ xs,H1 l=some (.lst xs))/\te σ H1 fun y H2=>∃ xs,H2 l=some (.lst xs)/\xs.length < sizeLine/\Q .non (upd H2 l (.lst (xs++[y])))
 | _=>False:=rfl
theorem sD {K:Frag}:cJoin1 K te σ H Q=te σ H fun x H1=>match x with
 | .ref l=>∃ cs:List Nat,SqL K H1 l (cs.map fun k=>V.str (st [k]))/\cs.length<=10000/\Q (.str (st cs)) H1
 | _=>False:=rfl
theorem wR {R:List V->Hp->Prop}:tNil σ H R=R [] H:=rfl
theorem u7 {t:TA} {R:List V->Hp->Prop}:tCons ta t σ H R=ta σ H fun x H1=>t σ H1 fun xs H2=>R (x::xs) H2:=rfl
theorem tS {sp:Sp} {E:XK} {t:TA}:tCall sp [] E t σ H Q=t σ H fun vs H1=>sp vs H1 Q E:=by
 unfold tCall;simp only [List.append_nil]
theorem w6 {r:List V->Hp->VK->Prop} {t:TA}:tCB r t σ H Q=t σ H fun vs H1=>r vs H1 Q:=rfl
theorem vA {t:TA}:tLst t σ H Q=t σ H fun xs H1=>xs.length<=sizeLine/\∀ p,H1 p=none->Q (.ref p) (upd H1 p (.lst xs)):=rfl
theorem v9 {t:TA}:tTup t σ H Q=t σ H fun xs H1=>xs.length<=sizeLine/\∀ p,H1 p=none->Q (.ref p) (upd H1 p (.tup xs)):=rfl
theorem uF:tNext D σ H=D.nx σ H:=rfl
theorem vw:tSeq t u D σ H=t { D with nx:=u D } σ H:=rfl
theorem uf:tDrop te D σ H=te σ H fun _ H1=>D.nx σ H1:=rfl
theorem wq:tRet te D σ H=te σ H D.rt:=rfl
theorem wH:tIfS tc t u D σ H=tc σ H fun b H1=>if b=true then t D σ H1 else u D σ H1:=rfl
theorem vD {g:TG}:tAsg te g D σ H=te σ H fun x H1=>g x σ H1 D.nx:=rfl
theorem um {R:St->Hp->Prop}:gName i v σ H R=R (σ.set i (some v)) H:=rfl
theorem uB:tJoin t u D σ H=∃ J:St->Hp->Prop,t { D with nx:=J } σ H/\∀ σ' H',J σ' H'->u D σ' H':=rfl
theorem vO {wi:TI} {g:TG}:cFor wi g t D σ H=wi σ H fun J H1=>loopW J g t D σ H1:=rfl
theorem tT {K:Frag} {R:It->Hp->Prop}:cIter K te σ H R=te σ H fun x H1=>match x with
 | .str z=>R (Its z) H1
 | .ref a=>((∃ xs,SqL K H1 a xs)/\R (Itl K a) H1)\/((∃ xs,SqT K H1 a xs)/\R (Itt K a) H1)
 | _=>False:=rfl
theorem va {R:It->Hp->Prop}:cRng1 te σ H R=te σ H fun x H1=>match x with
 | .int j=>-1000000<=j/\j<=1000000/\R (Itr 0 j.toNat) H1
 | _=>False:=rfl
theorem vc {R:It->Hp->Prop}:cRng2 ta tb σ H R=ta σ H fun x H1=>tb σ H1 fun y H2=>match x,y with
 | .int i,.int j=>(-1000000<=i/\i<=1000000 /\ -1000000<=j/\j<=1000000)/\R (Itr i (j - i).toNat) H2
 | _,_=>False:=rfl
theorem wE {K:Frag} {R:It->Hp->Prop}:cZip K ta tb σ H R=ta σ H fun x H1=>tb σ H1 fun y H2=>srcK K H2 x fun S1=>srcK K H2 y fun S2=>R (Itz K S1 S2) H2:=rfl
theorem tU {K:Frag} {z:Str} {R:Src->Prop}:srcK K H (.str z) R=R (.str z):=rfl
theorem uD {K:Frag} {p:Addr} {R:Src->Prop}:srcK K H (.ref p) R=((∃ xs,SqL K H p xs)/\R (.lst p)):=rfl
theorem sZ {nt:Nat} {fi:List Nat} {wi:TI} {g:TG}:cComp nt fi wi g tc te σ H Q=wi σ H fun J H1=>∀ D,H1 D=none->compW J g tc te (compσ nt fi σ) D Q H1:=rfl
end
theorem xq {CX:CXT} {P:Program} {w:World} {K:Frag} {mg:Str->Option Value} {base:Heap} {N:List Str} {qual:Str} {scope:Scope} {f:Addr} {cd:Value} {A:Around} {outer:List Env} {s:Shared} {H:Hp} {E:XK}:(cxOf CX P w K mg base N qual scope f cd A outer s H E).K=K:=rfl
theorem vL {X:Cx} {scope:Scope} {cl:List (Str × Addr)} {N':List Str} {C:Addr} {s:Shared} {H:Hp} {ex:List Addr}:(cxC X scope cl N' C s H ex).K=X.K:=rfl
theorem xr {a b:Nat}:(([a]:List Nat)=[b])=(a=b):=by simp
theorem bx {X:Cx} {e:Expr} {te:TE} (h:PE X e te):PO X (some e) (cPart te):=fun pins s σ H Q I q=>uA h.mono pins s σ H Q I ⟨_,q,fun v H1 z=>by
 split at z
 ·exact ⟨_,rfl,z⟩
 ·exact z.elim⟩
end L2
namespace Mir
open PySem L2
noncomputable def cell (ns:List Int) (k:Nat):Int:=(ns[k]?).getD 0
noncomputable def num (c:Int):Nat->Int
 | 0=>c % 2147483647+1
 | i+1=>(num c i*48271+7*(i:Int)*(i:Int)+3) % 2147483647
noncomputable def stream (c:Int) (n:Nat):List Int:=(List.range n).map fun i=>num c (i+1) / 16
noncomputable def bit (m:Int):Nat:=if m % 2=0 then 48 else 49
noncomputable def rowSign (l e:Int):Nat:=if e % l > 0 then 45 else bit (e / 64)
noncomputable def row (c:Int) (w:Nat) (l:Int):List Nat:=(stream c w).map (rowSign l)
noncomputable def within (one other:List Nat):Bool:=(one.zip other).all fun p=>p.2 == 45 || p.2 == p.1
end Mir
namespace L2
open PySem PySem.Spec PyProof.Rows
theorem z_pos {K:Params->Frag} {as:List Addr} {n t:Nat} {w:World} {s:Shared} (y:PySem.W.X.obsZ as s=PySem.W.X.valZ K n t w) (e:∀ P,as=(K P).map (·.1)) (ht:0 < t):(K w.params).In s.heap/\0 < s.toks:=by
 obtain ⟨_,h,_,q⟩:=PySem.W.X.z_facts e y;exact ⟨h,by rw [q]; exact ht⟩
section
variable {prog:Program} {w:World} {A:Around} {E:Value->Shared->Prop} {s:Shared}
theorem IsList.extBut' {h h':Heap} {a l:Addr} {items:Array Value} (hl:h.IsList l items) (he:Heap.ExtBut a h h') (hne:l≠a):h'.IsList l items:=by
 obtain ⟨o,ho,r⟩:=hl;exact ⟨o,he l o hne ho,r⟩
theorem mX {it t:Addr} {items:Array Value} (apart:t≠it):∀ (mid front back:List Value) (s:Shared) (Q:List Value->Shared->Prop),items.toList=front++(mid++back)->s.heap.IsListIter it t front.length->s.heap.IsList t items ->
  (∀ g:Heap,g.IsListIter it t (front.length+mid.length)->Heap.SameBut it s.heap g->Q mid { s with heap:=g })->wpAny (model prog w) A (draw (.ref it) mid.length) Q E s
 | [],front,_,s,Q,_,at0,_,k=>wpAny_pure (k s.heap at0 (Heap.SameBut.refl ..))
 | x::mid,front,back,s,Q,e,at0,il,k=>by
  have here:items[front.length]? = some x:=by
   rw [<- Array.getElem?_toList,e,List.getElem?_append_right (Nat.le_refl _),Nat.sub_self];rfl
  refine wpAny_bind (m:=pyNext (.ref it)) (wpAny_pyNext_list_item at0 il here fun g1 at1 t1=>?_);refine wpAny_bind (wpAny_holding (mX apart mid (front++[x]) back _ _ (by rw [e]; simp) (by rw [List.length_append]; exact at1) (IsList.extBut' il t1.extBut apart) fun g2 at2 t2=>wpAny_pure (k g2 ?_ (t1.trans t2))));have sum:(front++[x]).length+mid.length=front.length+(x::mid).length:=by
   simp only [List.length_append,List.length_cons,List.length_nil];omega
  rw [sum] at at2;exact at2
theorem ik {t:Addr} {items:Array Value} {Q:List Value->Shared->Prop} (hh:A.handled=none) (ht:s.heap.IsList t items)
  (k:∀ g,Heap.ExtBut s.heap.objs.size s.heap g->Q items.toList { s with heap:=g }):wpAny (model prog w) A (unpackItems (.ref t) items.size none) Q E s:=by
 have below:t≠s.heap.objs.size:=Nat.ne_of_lt (let ⟨_,q,_⟩:=ht; Heap.lt_size q);have still:(s.heap.push { cls:=.type "list_iterator",data:=.fields #[.ref t,.int 0 0] }).IsList t items:=let ⟨o,q,r⟩:=ht; ⟨o,Heap.get?_push_of_some _ q,r⟩
 unfold unpackItems notIterableAtAll;refine wpAny_bind (wpAny_bind (wpAny_specialOf ht.typeIs slot_list_iter.lookup (wpAny_pure ?_)));rw [if_neg (by decide)];refine wpAny_bind (wpAny_holding (wpAny_pyIter_list ht ?_));have whole:=mX (prog:=prog) (w:=w) (A:=A) (E:=E) (items:=items) below items.toList [] [] { s with heap:=s.heap.push { cls:=.type "list_iterator",data:=.fields #[.ref t,.int 0 0] } };rw [Array.length_toList] at whole;refine wpAny_bind (wpAny_holding (whole _ (by simp) ⟨_,Heap.get?_push_size _ rfl,rfl,rfl⟩ still fun g1 at1 t1=>?_));rw [if_neg (by simp)];refine wpAny_bind (wpAny_holding (wpAny_pyNext_list_end hh at1 (IsList.extBut' still t1.extBut below) (by simp) fun g2 t2=>?_));rw [if_neg (by simp)];exact wpAny_pure (k g2 fun b o nb q=>t2 b o nb (t1.extBut b o nb (Heap.get?_push_of_some _ q)))
theorem gC {env:Env} {elts:List Expr} {x1} {pos:Pos} {t:Addr} {items:Array Value} {Q:Unit->Shared->Prop} (hh:A.handled=none) (ht:s.heap.IsList t items)
  (hn:(assignEach elts env).length=items.size) (hstar:(assignEach elts env).findIdx? (·.1)=none)
  (h:∀ h',Heap.ExtBut s.heap.objs.size s.heap h'->wpAny (model prog w) A (assignInOrder ((assignEach elts env).map (·.2)) items.toList) Q E { s with heap:=h' }):
  wpAny (model prog w) A (assign (.Tuple elts x1 pos) env (.ref t)) Q E s:=by
 rw [assign_Tuple];refine wpAny_bind (wpAny_standAt ?_);unfold unpack;rw [hn,hstar];exact wpAny_bind (wpAny_holding (ik hh ht h))
end
section
variable {X:Cx} {pos:Pos}
noncomputable def gSeq (K:Frag) (n:Nat) (t:TGs):TG:=fun v σ H Q=>match v with
 | .ref a=>∃ xs,(SqL K H a xs\/SqT K H a xs)/\xs.length=n/\t xs σ H Q
 | _=>False
theorem seqE (K:Frag) (hK:X.K=K) {es:List Expr} {k:Nat} {t:TGs} {n:Nat} (hc:X.calm=true) (h:PGs X es t)
  (hn:(assignEach es X.env).length=n:=by rfl) (hst:(assignEach es X.env).findIdx? (·.1)=none:=by rfl):PG X (.Tuple es k pos) (gSeq K n t):=by
 subst hK;intro pins s σ H v u Q I r hw;unfold gSeq at hw;split at hw
 ·rename_i a;obtain ⟨xs,hq,hl,hw⟩:=hw;rcases hq with hq | hq
  ·cases r;obtain ⟨its,rv,ht,hz⟩:=I.list hq;refine gC (I.ok.hd hc) ht.isList (by simp [hn,<- hl,rv.length]) hst fun h' hx=>?_
   have I1:Inv X pins σ H { s with heap:=h' }:=I.kept (t':=s.toks) fun b o e=>hx b o (Nat.ne_of_lt (Heap.lt_size e)) e
   exact h pins _ σ H xs _ Q I1 (by simpa using rv) hw
  ·exact sr hc h hn hst pins s σ H _ u Q I r ⟨_,xs,rfl,hq,hl,hw⟩
 ·exact hw.elim
end
section
variable {t:TG} {u:TGs} {σ:St} {H:Hp} {Q:St->Hp->Prop} {v:V} {r:List V} {K:Frag} {n:Nat} {p:Addr}
theorem tE:gCons t u (v::r) σ H Q=t v σ H fun σ' H'=>u r σ' H' Q:=by
 refine propext ⟨?_,fun h=>⟨v,r,rfl,h⟩⟩;rintro ⟨v',r',e,h⟩;cases e;exact h
theorem wA:gNil [] σ H Q=Q σ H:=propext ⟨fun h=>h.2,fun h=>⟨rfl,h⟩⟩
theorem vI:gSeq K n u (.ref p) σ H Q=∃ xs,(SqL K H p xs\/SqT K H p xs)/\xs.length=n/\u xs σ H Q:=rfl
end
noncomputable def rep (c d:Nat) (l:List Nat):List Nat:=l.map fun k=>if k=c then d else k
section
variable {X:Cx} {o e:Expr} {to te:TE} {apos cpos p1 p2:Pos} {j1 j2:Nat}
noncomputable def kList (K:Frag):List V->Hp->VK->Prop:=fun xs H Q=>match xs with
 | [.str z]=>z.cps.toList.length<=100000/\∀ p,H p=none->Q (.ref p) (upd H p (.lst (z.cps.toList.map fun c=>V.str (st [c]))))
 | [.ref a]=>∃ ys,(SqL K H a ys\/SqT K H a ys)/\∀ p,H p=none->Q (.ref p) (upd H p (.lst ys))
 | _=>False
theorem oq {x:Str} {acc:Array Value} (h:ItemsOf (SignAt x) acc x.cps.size):Vals (x.cps.toList.map fun c=>V.str (st [c])) acc.toList:=by
 obtain ⟨hs,hi⟩:=h;have key:∀ (l:List Nat) (us:List Value),l.length=us.length->(∀ (j:Nat) (v:Value),us[j]? = some v->∃ (c:Nat) (u:Tok),l[j]? = some c/\v=Value.str ⟨#[c]⟩ u)->Vals (l.map fun c=>V.str (st [c])) us:=by
  intro l
  induction l with
  | nil=>
   intro us hl _;cases us with
   | nil=>exact .nil
   | cons=>cases hl
  | cons a l ih=>
   intro us hl hq;cases us with
   | nil=>cases hl
   | cons v us=>
    obtain ⟨c,u,e,rfl⟩:=hq 0 v rfl;cases e;exact .cons ⟨u,rfl⟩ (ih us (by simpa using hl) fun j w hj=>hq (j+1) w hj)
 refine key _ _ (by simp [hs]) fun j v hj=>?_
 obtain ⟨c,u,e,rfl⟩:=hi j v (by simpa using hj);exact ⟨c,u,by simpa using e,rfl⟩
theorem jL (K:Frag) (hK:X.K=K) (hc:X.calm=true):CallR X (.type "list") (kList K):=by
 subst hK;intro pins s σ H xs us Q I r q;unfold kList at q;split at q
 ·obtain ⟨hl,q⟩:=q;rename_i z;obtain ⟨u,rfl,t,rfl⟩:=vals1 r;have hz:z.cps.size<=sizeLine:=by
   have:=big5;simp only [Array.length_toList] at hl;omega
  refine tokQ I.tk (call_list_str (I.ok.hd hc) z t (fun h' tk acc c' kp ho hi (htk:0 < tk)=>?_) hz);refine ⟨.ref s.heap.objs.size,_,I.laid (a:=s.heap.objs.size) (o:=.lst (z.cps.toList.map fun c=>V.str (st [c]))) kp (Nat.le_refl _) ⟨?_,acc.toList,c',oq hi,by simpa using ho⟩,rfl,q _ I.fresh⟩;rw [List.length_map];simpa using hz
 ·obtain ⟨ys,h,q⟩:=q;exact mt pins s σ H _ us Q I r ⟨_,ys,rfl,h,q⟩
 ·exact q.elim
theorem sI {K:Frag} {l:List Nat} {H:Hp} {Q:VK}:kList K [.str (st l)] H Q=(l.length<=100000/\∀ p,H p=none->Q (.ref p) (upd H p (.lst (l.map fun c=>V.str (st [c]))))):=rfl
theorem rO {K:Frag} {a:Addr} {H:Hp} {Q:VK}:kList K [.ref a] H Q=∃ ys,(SqL K H a ys\/SqT K H a ys)/\∀ p,H p=none->Q (.ref p) (upd H p (.lst ys)):=rfl
end
section
variable {X:Cx} {a:Expr} {ta:TE} {p pos:Pos}
theorem lX:bootBuiltins "enumerate" = some (.type "enumerate"):=by decide +kernel
end
section
variable {X:Cx}
noncomputable def kSum (K:Frag):List V->Hp->VK->Prop:=fun xs H Q=>match xs with
 | [.ref p]=>∃ ns:List Int,SqL K H p (ns.map V.int)/\Q (.int ns.sum) H
 | _=>False
theorem kK (K:Frag) (hK:X.K=K) (hc:X.calm=true):CallR X (.builtin "sum") (kSum K):=by
 subst hK;intro pins s σ H xs us Q I r q;unfold kSum at q;split at q
 ·obtain ⟨ns,hq,q⟩:=q;obtain ⟨u,rfl,ru⟩:=vals1 r;cases ru;obtain ⟨its,rv,pl,_⟩:=I.list hq;have hi:=oI rv;obtain ⟨xs,e⟩:=hi.allInts.items;have hn:=hi.numsOf;refine tokQ I.tk (sum_intListG (I.ok.hd hc) (xs:=xs) (by rw [<- e]; exact pl.isList) fun h' tk t' kp (htk:0 < tk)=>?_);have e2:preSum (numAt xs) xs.size=ns.sum:=by
   rw [preSum_eq,List.take_of_length_le (by simp),<- nums_intItems,<- e];show (numsOf its).sum=ns.sum;rw [hn]
  rw [e2];exact ⟨.int ns.sum,H,I.kept kp,⟨_,rfl⟩,q⟩
 ·exact q.elim
theorem vC {K:Frag} {p:Addr} {H:Hp} {Q:VK}:kSum K [.ref p] H Q=∃ ns:List Int,SqL K H p (ns.map V.int)/\Q (.int ns.sum) H:=rfl
end
theorem oj (t:SetTable) (es:Array (Int × Value)) (h:Int) (x:Value):(layNew t es h x).2.1.led=t.led/\(t.plain=false->(layNew t es h x).2.1.plain=false):=by
 unfold layNew;split
 ·rename_i slot wd e;show ((t.put slot).1.orStandIn _).led=_/\(_->((t.put slot).1.orStandIn _).plain=false);unfold SetTable.orStandIn;split
  ·exact ⟨rfl,fun q=>q⟩
  ·exact ⟨rfl,fun _=>rfl⟩
 ·exact ⟨rfl,fun _=>rfl⟩
theorem rz {mask finger moves:Nat} {led plain:Bool} {hs:Array Int} {r:SetTable × Array Nat} (h:SetTable.laid mask finger moves led plain hs=some r):r.1.led=led/\r.1.plain=plain:=by
 unfold SetTable.laid at h;cases q:SetTable.layClean mask hs with
 | none=>rw [q] at h; cases h
 | some ow=>
  rw [q] at h;cases h;exact ⟨rfl,rfl⟩
theorem lf (t:SetTable) (es:Array (Int × Value)) (n:Nat):(relayAll t es n).2.1.led=t.led/\(t.plain=false->(relayAll t es n).2.1.plain=false):=by
 unfold relayAll;split
 ·rename_i t' order e;have q:=rz e;dsimp only;split
  ·exact ⟨q.1,fun z=>q.2.trans z⟩
  ·exact ⟨rfl,fun _=>rfl⟩
 ·exact ⟨rfl,fun _=>rfl⟩
section
variable {prog:Program} {w:World} {A:Around} {E:Value->Shared->Prop} {s:Shared}
noncomputable def addT (ss:List Str) (x:Str):List Str:=if x ∈ ss then ss else ss++[x]
theorem i8 {a:Addr} {es es':Array (Int × Value)} {ep:Nat} {t t':SetTable} (ho:s.heap.get? a=some { cls:=.type "set",dict:=none,data:=.set es ep t,slots:=#[] }):
  (s.heap.update a (Obj.putSet es' t')).get? a=some { cls:=.type "set",dict:=none,data:=.set es' (ep+1) t',slots:=#[] }:=
 Heap.get?_update_self (Obj.putSet es' t') ho rfl
end
noncomputable def dd (l:List Str):List Str:=l.foldl addT []
section
variable {prog:Program} {w:World} {A:Around} {R:Result->Shared->Prop} {I:Addr} {fp wr:List Addr} {G:Array GenState->Array GenState->Prop} {n:Nat} {P:Nat->Value->Prop} {St:Nat->Shared->Prop}
end
section
variable {prog:Program} {w:World} {A:Around} {E:Value->Shared->Prop} {s:Shared}
end
section
variable {M:Model} {A:Around} {E:Value->Shared->Prop}
end
section
variable {prog:Program} {w:World} {A:Around} {E:Value->Shared->Prop} {s:Shared}
theorem nO {α:Type} {Q:α -> Shared->Prop} (hh:A.handled=none)
  (h:∀ h' e,(∀ b o,s.heap.get? b=some o->h'.get? b=some o)->(∃ o,h'.get? e=some o/\o.cls=.type "StopIteration")->E (.ref e) { s with heap:=h' }):
  wpAny (model prog w) A (newExc (.type "StopIteration") []>>=fun e=>(raiseNew e:Sem α)) Q E s:=by
 refine wpAny_bind ?_;simp only [newExc,newTuple];refine wpAny_bind (wpAny_newObj_type ?_ (by size_fits));refine wpAny_bind (m:=firstArgMember _ _) (wpAny_of_eq (a:=Value.none) (by first | rfl | (simp only [firstArgMember]; rfl)) ?_);refine wpAny_newObj_type ?_ (by size_fits);simp only [raiseNew];refine wpAny_bind (wpAny_handled ?_);rw [hh];exact wpAny_bind (wpAny_pure (wpAny_throw (h _ _ (fun b o e=>Heap.get?_push_of_some _ (Heap.get?_push_of_some _ e)) ⟨_,Heap.get?_push_size _ rfl,rfl⟩)))
end
section
variable {prog:Program} {w:World} {A:Around} {E:Value->Shared->Prop} {s:Shared} {it a:Addr} {es:Array (Int × Value)} {n ep i:Nat} {t:SetTable}
end
section
variable {prog:Program} {w:World} {A:Around} {E:Value->Shared->Prop} {s:Shared} {it a:Addr} {es:Array (Int × Value)} {n ep i:Nat} {t:SetTable}
end
section
variable {prog:Program} {w:World} {A:Around} {E:Value->Shared->Prop} {s:Shared} {it a:Addr} {es:Array (Int × Value)} {n ep i:Nat} {t:SetTable}
end
section
variable {prog:Program} {w:World} {A:Around} {E:Value->Shared->Prop} {s:Shared}
end
section
variable {prog:Program} {w:World} {A:Around} {E:Value->Shared->Prop} {s:Shared}
end
noncomputable def ins (x:List Nat):List (List Nat)->List (List Nat)
 | []=>[x]
 | y::r=>if x=y then y::r else if x < y then x::y::r else y::ins x r
noncomputable def srt (l:List (List Nat)):List (List Nat):=l.foldr ins []
section
variable {prog:Program} {w:World} {A:Around} {E:Value->Shared->Prop} {s:Shared}
end
section
variable {X:Cx}
end
inductive D where
 | f (v:V) | l (xs:List D) | t (xs:List D)
mutual
noncomputable def eqD:D->D->Bool
 | .f x,.f y=>eqV x y
 | .l xs,.l ys=>eqDs xs ys
 | .t xs,.t ys=>eqDs xs ys
 | .f _,.l _=>false
 | .f _,.t _=>false
 | .l _,.f _=>false
 | .l _,.t _=>false
 | .t _,.f _=>false
 | .t _,.l _=>false
noncomputable def eqDs:List D->List D->Bool
 | [],[]=>true
 | x::xs,y::ys=>eqD x y && eqDs xs ys
 | [],_::_=>false
 | _::_,[]=>false
end
noncomputable def Deep (K:Frag) (H:Hp):Nat->V->D->Prop
 | 0,v,d=>d=.f v/\flatV v=true
 | n+1,v,d=>(d=.f v/\flatV v=true)\/(∃ a vs ds,v=.ref a/\d=.l ds/\SqL K H a vs/\Paired (Deep K H n) vs ds)\/(∃ a vs ds,v=.ref a/\d=.t ds/\SqT K H a vs/\Paired (Deep K H n) vs ds)
theorem eM:∀ {xs ys:List D},xs.length≠ys.length->eqDs xs ys=false
 | [],[],h=>absurd rfl h
 | [],_::_,_=>by rw [eqDs]
 | _::_,[],_=>by rw [eqDs]
 | x::xs,y::ys,h=>by
  rw [eqDs,eM (xs:=xs) (ys:=ys) (fun e=>h (by simp [e])),Bool.and_false]
theorem mG {v:V} (h:flatV v=true):eqV v v=true:=by
 cases v <;> simp_all [flatV,eqV]
section
variable {X:Cx} {pins:List (Addr × Obj)} {σ:St} {H:Hp} {s:Shared}
theorem qH {A:Around} {l:Addr} {items:Array Value} {y:V} {v:Value} (hl:s.heap.IsList l items) (hu:A.units < cLine) (r:RelV y v) (f:flatV y=true):SeqAt.EqAt A s (.ref l) v false:=by
 cases y with
 | non=>cases r; exact .list_none hl hu
 | bl b=>cases r; exact .list_bool b hl hu
 | int i=>obtain ⟨t,rfl⟩:=r; exact .list_int i t hl hu
 | str x=>obtain ⟨t,rfl⟩:=r; exact .list_str x t hl hu
 | _=>exact absurd (show false=true from f) Bool.false_ne_true
theorem qy {A:Around} {l:Addr} {items:Array Value} {y:V} {v:Value} (hl:s.heap.IsList l items) (hu:A.units < cLine) (r:RelV y v) (f:flatV y=true):SeqAt.EqAt A s v (.ref l) false:=by
 cases y with
 | non=>cases r; exact .none_list hl hu
 | bl b=>cases r; exact .bool_list b hl hu
 | int i=>obtain ⟨t,rfl⟩:=r; exact .int_list i t hl hu
 | str x=>obtain ⟨t,rfl⟩:=r; exact .str_list x t hl hu
 | _=>exact absurd (show false=true from f) Bool.false_ne_true
theorem nZ {A:Around} {l:Addr} {items:Array Value} {y:V} {v:Value} (hl:s.heap.IsTuple l items) (hu:A.units < cLine) (r:RelV y v) (f:flatV y=true):SeqAt.EqAt A s (.ref l) v false:=by
 cases y with
 | non=>cases r; exact .tuple_none hl hu
 | bl b=>cases r; exact .tuple_bool b hl hu
 | int i=>obtain ⟨t,rfl⟩:=r; exact .tuple_int i t hl hu
 | str x=>obtain ⟨t,rfl⟩:=r; exact .tuple_str x t hl hu
 | _=>exact absurd (show false=true from f) Bool.false_ne_true
theorem oF {A:Around} {l:Addr} {items:Array Value} {y:V} {v:Value} (hl:s.heap.IsTuple l items) (hu:A.units < cLine) (r:RelV y v) (f:flatV y=true):SeqAt.EqAt A s v (.ref l) false:=by
 cases y with
 | non=>cases r; exact .none_tuple hl hu
 | bl b=>cases r; exact .bool_tuple b hl hu
 | int i=>obtain ⟨t,rfl⟩:=r; exact .int_tuple i t hl hu
 | str x=>obtain ⟨t,rfl⟩:=r; exact .str_tuple x t hl hu
 | _=>exact absurd (show false=true from f) Bool.false_ne_true
theorem ny (I:Inv X pins σ H s) {a:Addr} {vs ws:List V} (h:SqL X.K H a vs) (k:SqT X.K H a ws):False:=by
 obtain ⟨_,_,p1,_⟩:=I.list h;obtain ⟨_,_,p2,_⟩:=I.tuple k;exact SeqAt.ne_of_list_tuple p1.isList p2 rfl
theorem iu (I:Inv X pins σ H s):∀ (n:Nat) (v:V) (d d':D),Deep X.K H n v d->Deep X.K H n v d'->eqD d d'=true
 | 0,v,d,d',⟨e,f⟩,⟨e',_⟩=>by subst e; subst e'; rw [eqD]; exact mG f
 | n+1,v,d,d',h,h'=>by
  have pr:∀ (vs:List V) (ds ds':List D),Paired (Deep X.K H n) vs ds->Paired (Deep X.K H n) vs ds'->eqDs ds ds'=true:=by
   intro vs
   induction vs with
   | nil=>intro ds ds' p q; cases p; cases q; rw [eqDs]
   | cons v vs ih=>
    intro ds ds' p q;cases p with
    | cons p1 p2=>cases q with
     | cons q1 q2=>rw [eqDs,iu I n v _ _ p1 q1,ih _ _ p2 q2]; rfl
  rcases h with ⟨e,f⟩ | ⟨a,vs,ds,rfl,rfl,ha,p⟩ | ⟨a,vs,ds,rfl,rfl,ha,p⟩
  ·rcases h' with ⟨e',_⟩ | ⟨a',vs',ds',rfl,_⟩ | ⟨a',vs',ds',rfl,_⟩
   ·subst e; subst e'; rw [eqD]; exact mG f
   ·exact absurd (show false=true from f) Bool.false_ne_true
   ·exact absurd (show false=true from f) Bool.false_ne_true
  ·rcases h' with ⟨_,f⟩ | ⟨a',vs',ds',e,rfl,ha',p'⟩ | ⟨a',vs',ds',e,rfl,ha',p'⟩
   ·exact absurd (show false=true from f) Bool.false_ne_true
   ·cases e;obtain rfl:=I.list_inj ha ha';rw [eqD]; exact pr vs ds ds' p p'
   ·cases e;exact (ny I ha ha').elim
  ·rcases h' with ⟨_,f⟩ | ⟨a',vs',ds',e,rfl,ha',p'⟩ | ⟨a',vs',ds',e,rfl,ha',p'⟩
   ·exact absurd (show false=true from f) Bool.false_ne_true
   ·cases e;exact (ny I ha' ha).elim
   ·cases e;obtain rfl:=I.tuple_inj ha ha';rw [eqD]; exact pr vs ds ds' p p'
noncomputable def eqNth (ds ds':List D) (j:Nat):Bool:=match ds[j]?,ds'[j]? with
 | some d,some d'=>eqD d d'
 | _,_=>true
theorem dn:∀ {ds ds':List D},ds.length=ds'.length->(List.range ds.length).all (eqNth ds ds')=eqDs ds ds'
 | [],[],_=>by rw [eqDs]; rfl
 | d::ds,d'::ds',h=>by
  have ih:=dn (ds:=ds) (ds':=ds') (by simpa using h);rw [List.length_cons,List.range_succ_eq_map,List.all_cons,List.all_map,eqDs];have e:eqNth (d::ds) (d'::ds') 0=eqD d d':=rfl;have e2:(eqNth (d::ds) (d'::ds') ∘ Nat.succ)=eqNth ds ds':=funext fun j=>by simp [eqNth]
  rw [e,e2,ih]
theorem aD {α β:Type} {F:α -> β -> Prop}:∀ {l:List α} {m:List β},Paired F l m->∀ {j:Nat} {x:α},l[j]? = some x->∃ y,m[j]? = some y/\F x y
 | _,_,.nil,j,x,h=>by simp at h
 | _,_,.cons p r,0,x,h=>by simp at h; subst h; exact ⟨_,rfl,p⟩
 | _,_,.cons p r,j+1,x,h=>by simpa using aD r (j:=j) (by simpa using h)
theorem fL (I:Inv X pins σ H s):∀ (n:Nat) (A:Around) (x y:V) (dx dy:D) (u v:Value),A.units+n < cLine->Deep X.K H n x dx->Deep X.K H n y dy->RelV x u->RelV y v->SeqAt.EqAt A s u v (eqD dx dy)
 | 0,A,x,y,dx,dy,u,v,_,⟨e,f⟩,⟨e',f'⟩,ru,rv=>by subst e; subst e'; rw [eqD]; exact oi ru rv f f'
 | n+1,A,x,y,dx,dy,u,v,hu,hx,hy,ru,rv=>by
  have hu0:A.units < cLine:=by omega
  have items:∀ (vs ws:List V) (ds ds':List D) (us us':List Value),Paired (Deep X.K H n) vs ds->Paired (Deep X.K H n) ws ds'->Vals vs us->Vals ws us' ->
    ∀ j (h1:j < us.toArray.size) (h2:j < us'.toArray.size),SeqAt.EqAt A.in1 s us.toArray[j] us'.toArray[j] (eqNth ds ds' j):=by
   intro vs ws ds ds' us us' p q r r' j h1 h2;have l1:=r.length;have l2:=r'.length;simp only [List.size_toArray] at h1 h2;have g1:vs[j]? = some (vs[j]'(by omega)):=List.getElem?_eq_getElem _;have g2:ws[j]? = some (ws[j]'(by omega)):=List.getElem?_eq_getElem _;obtain ⟨d,hd,fd⟩:=aD p g1;obtain ⟨d',hd',fd'⟩:=aD q g2;obtain ⟨c,hc,rc⟩:=r.get g1;obtain ⟨c',hc',rc'⟩:=r'.get g2;have e1:us.toArray[j]=c:=by rw [List.getElem?_eq_getElem h1] at hc; simpa using hc
   have e2:us'.toArray[j]=c':=by rw [List.getElem?_eq_getElem h2] at hc'; simpa using hc'
   rw [e1,e2];unfold eqNth;rw [hd,hd'];exact fL I n A.in1 _ _ d d' c c' (by rw [Around.in1_units]; omega) fd fd' rc rc'
  rcases hx with ⟨e,f⟩ | ⟨a,vs,ds,rfl,rfl,ha,p⟩ | ⟨a,vs,ds,rfl,rfl,ha,p⟩
  ·subst e;rcases hy with ⟨e',f'⟩ | ⟨b,ws,ds',rfl,rfl,hb,q⟩ | ⟨b,ws,ds',rfl,rfl,hb,q⟩
   ·subst e'; rw [eqD]; exact oi ru rv f f'
   ·cases rv;obtain ⟨_,_,pl,_⟩:=I.list hb;rw [eqD]; exact qy pl.isList hu0 ru f
   ·cases rv;obtain ⟨_,_,pl,_⟩:=I.tuple hb;rw [eqD]; exact oF pl hu0 ru f
  ·cases ru;obtain ⟨us,r1,pl,_⟩:=I.list ha;rcases hy with ⟨e',f'⟩ | ⟨b,ws,ds',rfl,rfl,hb,q⟩ | ⟨b,ws,ds',rfl,rfl,hb,q⟩
   ·subst e'; rw [eqD]; exact qH pl.isList hu0 rv f'
   ·cases rv;by_cases eab:a=b
    ·subst eab;have:=iu I (n+1) (.ref a) (.l ds) (.l ds') (.inr (.inl ⟨a,vs,ds,rfl,rfl,ha,p⟩)) (.inr (.inl ⟨a,ws,ds',rfl,rfl,hb,q⟩));rw [this];exact SeqAt.EqAt.same _
    ·obtain ⟨us',r2,pl2,_⟩:=I.list hb;have l1:=r1.length;have l2:=r2.length;have l3:=p.length;have l4:=q.length;rw [eqD];by_cases el:ds.length=ds'.length
     ·rw [<- dn el,show ds.length=us.toArray.size by simp only [List.size_toArray]; omega];exact .of_refs eab (.lists pl.isList pl2.isList (by simp only [List.size_toArray]; omega) hu0 (items vs ws ds ds' us us' p q r1 r2))
     ·rw [eM el];exact .of_refs eab (.lists_lengths pl.isList pl2.isList (by simp only [List.size_toArray,bne_iff_ne,ne_eq]; omega) hu0)
   ·cases rv;obtain ⟨_,_,pl2,_⟩:=I.tuple hb;rw [eqD]; exact .list_tuple pl.isList pl2 hu0
  ·cases ru;obtain ⟨us,r1,pl,_⟩:=I.tuple ha;rcases hy with ⟨e',f'⟩ | ⟨b,ws,ds',rfl,rfl,hb,q⟩ | ⟨b,ws,ds',rfl,rfl,hb,q⟩
   ·subst e'; rw [eqD]; exact nZ pl hu0 rv f'
   ·cases rv;obtain ⟨_,_,pl2,_⟩:=I.list hb;rw [eqD]; exact .tuple_list pl pl2.isList hu0
   ·cases rv;by_cases eab:a=b
    ·subst eab;have:=iu I (n+1) (.ref a) (.t ds) (.t ds') (.inr (.inr ⟨a,vs,ds,rfl,rfl,ha,p⟩)) (.inr (.inr ⟨a,ws,ds',rfl,rfl,hb,q⟩));rw [this];exact SeqAt.EqAt.same _
    ·obtain ⟨us',r2,pl2,_⟩:=I.tuple hb;have l1:=r1.length;have l2:=r2.length;have l3:=p.length;have l4:=q.length;rw [eqD];have key:eqDs ds ds'=((List.range (min us.toArray.size us'.toArray.size)).all (eqNth ds ds') && us.toArray.size == us'.toArray.size):=by
      by_cases el:ds.length=ds'.length
      ·rw [<- dn el,show min us.toArray.size us'.toArray.size=ds.length by simp only [List.size_toArray]; omega,show (us.toArray.size == us'.toArray.size)=true by simp only [List.size_toArray,beq_iff_eq]; omega,Bool.and_true]
      ·rw [eM el,show (us.toArray.size == us'.toArray.size)=false by simp only [List.size_toArray,beq_eq_false_iff_ne,ne_eq]; omega,Bool.and_false]
     rw [key];exact .of_refs eab (.tuples pl pl2 hu0 (items vs ws ds ds' us us' p q r1 r2))
end
section
variable {X:Cx} {pins:List (Addr × Obj)} {σ:St} {H:Hp} {s:Shared}
theorem jC (I:Inv X pins σ H s) {n:Nat} {A:Around} (hu:A.units+n+1 < cLine) {vs ws:List V} {ds ds':List D} {us us':List Value} (p:Paired (Deep X.K H n) vs ds) (q:Paired (Deep X.K H n) ws ds') (r:Vals vs us) (r':Vals ws us'):
  ∀ j (h1:j < us.toArray.size) (h2:j < us'.toArray.size),SeqAt.EqAt A.in1 s us.toArray[j] us'.toArray[j] (eqNth ds ds' j):=by
 intro j h1 h2;have l1:=r.length;have l2:=r'.length;simp only [List.size_toArray] at h1 h2;have g1:vs[j]? = some (vs[j]'(by omega)):=List.getElem?_eq_getElem _;have g2:ws[j]? = some (ws[j]'(by omega)):=List.getElem?_eq_getElem _;obtain ⟨d,hd,fd⟩:=aD p g1;obtain ⟨d',hd',fd'⟩:=aD q g2;obtain ⟨c,hc,rc⟩:=r.get g1;obtain ⟨c',hc',rc'⟩:=r'.get g2;have e1:us.toArray[j]=c:=by rw [List.getElem?_eq_getElem h1] at hc; simpa using hc
 have e2:us'.toArray[j]=c':=by rw [List.getElem?_eq_getElem h2] at hc'; simpa using hc'
 rw [e1,e2];unfold eqNth;rw [hd,hd'];exact fL I n A.in1 _ _ d d' c c' (by rw [Around.in1_units]; omega) fd fd' rc rc'
noncomputable def kEqD (K:Frag) (neg:Bool):R2:=fun x y H Q=>match x,y with
 | .ref a,.ref b=>∃ n dx dy,n<=100/\Deep K H n (.ref a) dx/\Deep K H n (.ref b) dy/\Q (.bl (neg ^^ eqD dx dy)) H
 | _,_=>False
theorem pK {us us':List Value} {ds ds':List D} (l1:ds.length=us.length) (l2:ds'.length=us'.length):((List.range (min us.toArray.size us'.toArray.size)).all (eqNth ds ds') && us.toArray.size == us'.toArray.size)=eqDs ds ds':=by
 by_cases el:ds.length=ds'.length
 ·rw [<- dn el,show min us.toArray.size us'.toArray.size=ds.length by simp only [List.size_toArray]; omega,show (us.toArray.size == us'.toArray.size)=true by simp only [List.size_toArray,beq_iff_eq]; omega,Bool.and_true]
 ·rw [eM el,show (us.toArray.size == us'.toArray.size)=false by simp only [List.size_toArray,beq_eq_false_iff_ne,ne_eq]; omega,Bool.and_false]
theorem eqDE (K:Frag) (hK:X.K=K) {k:Nat} (hr:Room k X.A):OpR X (compareOp .Eq) (kEqD K false):=by
 subst hK;intro pins s σ H x y v u Q I rx ry h;unfold kEqD at h;split at h
 ·rename_i a b;obtain ⟨n,dx,dy,hn,hx,hy,q⟩:=h;cases rx;cases ry;simp only [Bool.false_bne] at q;have hu:=hr.un;cases n with
  | zero=>exact absurd (show false=true from hx.2) Bool.false_ne_true
  | succ n=>
   rcases hx with ⟨_,f⟩ | ⟨a',vs,ds,e,rfl,ha,p⟩ | ⟨a',vs,ds,e,rfl,ha,p⟩
   ·exact absurd (show false=true from f) Bool.false_ne_true
   ·cases e;obtain ⟨us,r1,pl,_⟩:=I.list ha;have l1:=r1.length;have l3:=p.length;rcases hy with ⟨_,f⟩ | ⟨b',ws,ds',e,rfl,hb,p'⟩ | ⟨b',ws,ds',e,rfl,hb,p'⟩
    ·exact absurd (show false=true from f) Bool.false_ne_true
    ·cases e;obtain ⟨us',r2,pl2,_⟩:=I.list hb;have l2:=r2.length;have l4:=p'.length;rw [eqD] at q;by_cases el:ds.length=ds'.length
     ·refine SeqAt.eq_listAt (e:=eqNth ds ds') pl.isList pl2.isList (by simp only [List.size_toArray]; omega) (by omega) (jC I (by omega) p p' r1 r2) ?_;rw [show us.toArray.size=ds.length by simp only [List.size_toArray]; omega,dn el];exact ⟨.bl _,H,I,rfl,q⟩
     ·refine SeqAt.eq_list_lengthsAt pl.isList pl2.isList (by simp only [List.size_toArray,bne_iff_ne,ne_eq]; omega) (by omega) ?_;rw [eM el] at q;exact ⟨.bl _,H,I,rfl,q⟩
    ·cases e;obtain ⟨us',r2,pl2,_⟩:=I.tuple hb;rw [eqD] at q;exact SeqAt.RcAt.list_tuple pl.isList pl2 (by omega) _ _ _ _ ⟨.bl _,H,I,rfl,q⟩
   ·cases e;obtain ⟨us,r1,pl,_⟩:=I.tuple ha;have l1:=r1.length;have l3:=p.length;rcases hy with ⟨_,f⟩ | ⟨b',ws,ds',e,rfl,hb,p'⟩ | ⟨b',ws,ds',e,rfl,hb,p'⟩
    ·exact absurd (show false=true from f) Bool.false_ne_true
    ·cases e;obtain ⟨us',r2,pl2,_⟩:=I.list hb;rw [eqD] at q;exact SeqAt.RcAt.tuple_list pl pl2.isList (by omega) _ _ _ _ ⟨.bl _,H,I,rfl,q⟩
    ·cases e;obtain ⟨us',r2,pl2,_⟩:=I.tuple hb;have l2:=r2.length;have l4:=p'.length;rw [eqD] at q;refine SeqAt.eq_tupleAt (e:=eqNth ds ds') pl pl2 (by omega) (jC I (by omega) p p' r1 r2) ?_;rw [pK (by omega) (by omega)];exact ⟨.bl _,H,I,rfl,q⟩
 ·exact h.elim
end
section
variable {X:Cx}
theorem wb {K:Frag} {n:Bool} {a b:Addr} {H:Hp} {Q:VK}:kEqD K n (.ref a) (.ref b) H Q=∃ k dx dy,k<=100/\Deep K H k (.ref a) dx/\Deep K H k (.ref b) dy/\Q (.bl (n ^^ eqD dx dy)) H:=rfl
theorem nL {bs:List Bool}:∀ {us:List Value},Vals (bs.map V.bl) us->us=bs.map Value.bool:=by
 induction bs with
 | nil=>intro us h; cases h; rfl
 | cons b bs ih=>
  intro us h;cases h with
  | cons r t=>cases r; rw [ih t]; rfl
end
section
variable {X:Cx}
end
noncomputable abbrev tx (l:List Nat):V:=V.str (st l)
section
variable {K:Frag} {g:TG} {tc:TT} {te:TE} {σc:St} {D:Addr} {Q:VK} {H:Hp}
end
section
variable {X:Cx}
noncomputable def kMulL:R2:=fun x y H Q=>match x,y with
 | .ref l,.int k=>∃ xs,H l=some (.lst xs)/\0<=k/\k<=10000/\xs.length<=100/\∀ p,H p=none->Q (.ref p) (upd H p (.lst (List.replicate k.toNat xs).flatten))
 | _,_=>False
theorem u4:OpR X (binaryOp .Mult) kMulL:=rA.imp fun x y H Q q=>by
 unfold kMulL at q;split at q
 ·rename_i l k;obtain ⟨xs,h1,h2,h3,h4,q⟩:=q;have h5:xs.length*k.toNat<=100*10000:=Nat.mul_le_mul h4 (by omega);exact ⟨l,k,xs,rfl,rfl,h1,by omega,by omega,Nat.le_trans h5 (by rw [sizeLine_eq]; decide),q⟩
 ·exact q.elim
theorem ux {l:Addr} {k:Int} {H:Hp} {Q:VK}:kMulL (.ref l) (.int k) H Q=∃ xs,H l=some (.lst xs)/\0<=k/\k<=10000/\xs.length<=100/\∀ p,H p=none->Q (.ref p) (upd H p (.lst (List.replicate k.toNat xs).flatten)):=rfl
end
theorem vJ {to ti:TE} {t:TSet} {v:V} {σ:St} {H:Hp} {Q:St->Hp->Prop}:gSub to ti t v σ H Q=to σ H fun o H1=>ti σ H1 fun i H2=>t o i v H2 fun H3=>Q σ H3:=rfl
theorem tP {p:Addr} {k:Int} {v:V} {H:Hp} {Q:Hp->Prop}:rSetL (.ref p) (.int k) v H Q=∃ xs j,H p=some (.lst xs)/\ixN xs.length k=some j/\Q (upd H p (.lst (xs.set j v))):=by
 refine propext ⟨?_,?_⟩
 ·rintro ⟨p',xs,k',j,e1,e2,h⟩;cases e1;cases e2;exact ⟨xs,j,h⟩
 ·rintro ⟨xs,j,h⟩;exact ⟨p,xs,k,j,rfl,rfl,h⟩
theorem qN (x y:Str):Txt.startswith x y=decide (y.cps.toList <+: x.cps.toList):=by
 have key:Txt.startswith x y=true ↔ y.cps.toList <+: x.cps.toList:=by
  unfold Txt.startswith Builtin.Str.subAt;rw [Bool.and_eq_true,decide_eq_true_eq,beq_iff_eq,List.prefix_iff_eq_take];have e:(x.cps.extract 0 (0+y.length)).toList=x.cps.toList.take y.cps.toList.length:=by
   rw [Array.toList_extract];simp [Str.length,List.extract]
  constructor
  ·rintro ⟨_,h⟩;rw [<- e,h]
  ·intro h;refine ⟨?_,?_⟩
   ·have:=congrArg List.length h;simp only [List.length_take,Array.length_toList] at this;simp only [Str.length];omega
   ·apply Array.ext';rw [e];exact h.symm
 by_cases h:y.cps.toList <+: x.cps.toList
 ·rw [key.mpr h,decide_eq_true h]
 ·rw [decide_eq_false h];cases q:Txt.startswith x y with
  | true=>exact absurd (key.mp q) h
  | false=>rfl
section
variable {X:Cx} {o e:Expr} {to te:TE} {apos cpos:Pos}
theorem pO:MtR X "str.startswith" (fun x vs H Q=>∃ a b,x=.str a/\vs=[.str b]/\Q (.bl (decide (b.cps.toList <+: a.cps.toList))) H):=by
 intro pins s σ H x vs v us Q I rx rv h;obtain ⟨a,b,rfl,rfl,q⟩:=h;obtain ⟨t,rfl⟩:=rx;obtain ⟨u,rfl,ru⟩:=rv.one;obtain ⟨t2,rfl⟩:=ru;refine SC.startswith ?_;rw [qN];exact ⟨.bl _,H,I,rfl,q⟩
noncomputable def cStarts (to te:TE):TE:=fun σ H Q=>to σ H fun x H1=>match x with
 | .str a=>te σ H1 fun y H2=>match y with
  | .str b=>Q (.bl (decide (b.cps.toList <+: a.cps.toList))) H2
  | _=>False
 | _=>False
theorem kX (ho:PE X o to) (he:PE X e te) (hbase:attributeBase o "startswith" X.env (eval o X.env)=eval o X.env:=by rfl)
  (hfew:((backTo cpos (starEach [e] X.env)).all (fun x=>!x.1) && (backToKw cpos (keywordEach [] X.env)).all (fun x=>x.1.isSome)
   && decide ([e].length+([]:List Keyword).length+(if ([]:List Keyword).isEmpty then 0 else 1) < 30))=true:=by rfl)
  (hline:(apos.endLine == cpos.line)=true:=by rfl) (hs:starEach [e] X.env=(false,eval e X.env)::starEach [] X.env:=by rfl) (hplain:(backTo cpos (starEach [] X.env)).any (·.1)=false:=by rfl):
  PE X (.Call (.Attribute o "startswith" apos) [e] [] cpos) (cStarts to te):=
 (lb PySem.F.plainAttrs_str PySem.F.slot_str_startswith PySem.F.type_str_startswith pO ho.mono (aa he.mono ad hs) hbase hfew hline hs hplain).imp fun σ H Q q=>⟨_,q,fun x H1 z=>by
  split at z
  ·refine ⟨rfl,_,z,fun y H2 z2=>?_⟩;split at z2
   ·exact ⟨_,_,rfl,rfl,z2⟩
   ·exact z2.elim
  ·exact z.elim⟩
theorem pS {σ:St} {H:Hp} {Q:VK}:cStarts to te σ H Q=to σ H fun x H1=>match x with
 | .str a=>te σ H1 fun y H2=>match y with
  | .str b=>Q (.bl (decide (b.cps.toList <+: a.cps.toList))) H2
  | _=>False
 | _=>False:=rfl
end
section
variable {X:Cx} {tg a b c:Expr} {ta tb tc:TE} {pos p:Pos}
end
section
variable {g:TG} {tb:TS} {D:Ends} {σ:St} {H:Hp}
end
noncomputable def Itel (K:Frag) (a:Addr):It:=⟨fun i H=>∃ xs x,SqL K H a xs/\xs[i]? = some x,fun i H v H'=>∃ T x,v=.ref T/\H T=none/\(∀ xs,SqL K H a xs->xs[i]? = some x)/\H'=upd H T (.tup [.int i,x]),fun i H=>∃ xs,SqL K H a xs/\i=xs.length⟩
theorem og {P:Program} {w:World} {K:Frag} {elts:List Expr} {kk:Nat} {pos:Pos} (a e it:Addr) (hne:e≠it) (hae:a≠e) (hai:a≠it):
  Turn P w K (.Tuple elts kk pos) (Itel K a) [e,it] e (fun i h=>(∃ old,IsEnum h e it i old)/\h.IsListIter it a i) where
 mem:=by simp
 obj:=fun i h st b hb=>by
  obtain ⟨⟨old,he⟩,o,e',c,d⟩:=st;simp only [List.mem_cons,List.not_mem_nil,or_false] at hb;rcases hb with rfl | rfl
  ·exact ⟨_,he,fun v z=>by
    have z':Data.fields _=Data.cell v:=z;cases z'⟩
  ·exact ⟨o,e',fun v z=>by rw [d] at z; cases z⟩
 keep:=fun i h h' st k=>by
  obtain ⟨⟨old,he⟩,hl⟩:=st;exact ⟨⟨old,k e (by simp) _ he⟩,hl.at fun o q=>k it (by simp) o q⟩
 item:=by
  intro X hP hw hK hc i pins s σ H E I hf st hg;subst hP hw hK;obtain ⟨xs,x,hq,hx⟩:=hg;obtain ⟨its,rv,pl,hz⟩:=I.list hq;obtain ⟨u,hu,ru⟩:=rv.get hx;have W:=WalksT.enumerate (prog:=X.prog) (w:=X.w) (A:=X.A) (I.ok.hd hc) e it a hne hae hai its.toArray;have hi:i < its.toArray.size:=by
   have:=(List.getElem?_eq_some_iff.mp hu).1;simpa using this
  refine tokQ I.tk (W.item i s _ _ hi ⟨st.1,st.2,pl.isList⟩ fun T vals h' tk hv hsz hT hmid kp (htk:0 < tk)=>?_);obtain ⟨t',xv,hxv,rfl⟩:=hv;have e2:xv=u:=by
   have:its[i]? = some xv:=by simpa using hxv
   rw [hu] at this;exact (Option.some.inj this).symm
  subst e2;have hap:=W.apart i T h' hmid;refine ⟨_,rfl,W.go elts kk pos i T { s with heap:=h',toks:=tk } _ _ hmid fun h'' st'' kp''=>?_⟩;have hT2:h''.IsTuple T #[.int i t',xv]:=by
   obtain ⟨o,ho,r⟩:=hT;exact ⟨o,kp'' T o hap ho,r⟩
  have I1:Inv X pins σ (upd H T (.tup [.int i,x])) { s with heap:=h'',toks:=tk }:=by
   refine I.turnedLaid (its:=[e,it]) (fun b ob hb q=>kp'' b ob hb (kp b ob hb q)) hf hsz ?_;exact ⟨by show 2<=sizeLine; decide,[.int i t',xv],.cons ⟨_,rfl⟩ (.cons ru .nil),hT2⟩
  refine ⟨.ref T,_,I1,rfl,⟨T,x,rfl,I.hok.fresh hsz,fun ys hy=>by rw [I.list_inj hy hq]; exact hx,rfl⟩,⟨st''.1,st''.2.1⟩,fun b hb=>?_⟩;have nb:b≠T:=fun z=>hap (z ▸ hb)
  rw [aA nb];exact (hf b hb).1
 done:=by
  intro X hP hw hK hc i pins s σ H E I hf st hg;subst hP hw hK;obtain ⟨xs,hq,rfl⟩:=hg;obtain ⟨its,rv,pl,hz⟩:=I.list hq;have hl:=rv.length;have W:=WalksT.enumerate (prog:=X.prog) (w:=X.w) (A:=X.A) (I.ok.hd hc) e it a hne hae hai its.toArray;have hn:its.toArray.size=xs.length:=by simp only [List.size_toArray]; omega
  rw [hn] at W;exact tokQ I.tk (W.done s _ _ ⟨st.1,st.2,pl.isList⟩ fun h' tk kp (htk:0 < tk)=>⟨rfl,I.turnedL (its:=[e,it]) (fun b o hb q=>kp b o hb q) hf⟩)
 self:=fun A i s Q E st h=>by
  obtain ⟨⟨old,he⟩,_⟩:=st;exact wpAny_pyIter_enum he h
section
variable {X:Cx} {a:Expr} {ta:TE} {p pos:Pos}
noncomputable def cEnumL (K:Frag) (te:TE):TI:=fun σ H R=>te σ H fun x H1=>match x with
 | .ref l=>(∃ xs,SqL K H1 l xs)/\R (Itel K l) H1
 | _=>False
theorem mO (K:Frag) (hK:X.K=K) {elts:List Expr} {kk:Nat} {tpos:Pos} (hg:Gl X "enumerate") (hm:X.mg "enumerate" = none) (ha:PE X a ta) (hs:starEach [a] X.env=[(false,eval a X.env)]:=by rfl):
  PI X (.Tuple elts kk tpos) (.Call (.Name "enumerate" p) [a] [] pos) (cEnumL K ta):=by
 subst hK;intro pins s σ H R I h;refine Call_ (fq I hg hm lX (PyProof.Rows.callWith_type1 (thn ((aa ha.mono ad hs) pos pins s σ H (fun vs H1=>∃ l,vs=[.ref l]/\(∃ xs,SqL X.K H1 l xs)/\R (Itel X.K l) H1) I ⟨_,h,fun v H' z=>by
  split at z
  ·exact ⟨_,rfl,z⟩
  ·exact z.elim⟩) fun us s1 ⟨vs,H1,I1,r1,q1⟩=>?_) hs rfl))
 obtain ⟨l,rfl,⟨xs,hq⟩,q1⟩:=q1;cases r1 with
 | cons r rr=>
  cases rr;cases r;obtain ⟨its,rv,pl,hz⟩:=I1.list hq;have hlt:l < s1.heap.objs.size:=by
   obtain ⟨o,ho,_⟩:=pl.isList;exact Heap.lt_size ho
  refine call_enumerate_list pl.isList fun h' he hi hz kp=>?_
  have I2:Inv X pins σ H1 { s1 with heap:=h' }:=I1.kept (t':=s1.toks) kp;refine wpAny_pyIter_enum he ?_;refine ⟨_,[s1.heap.objs.size+1,s1.heap.objs.size],_,Itel X.K l,H1,rfl,I2,og l (s1.heap.objs.size+1) s1.heap.objs.size (Nat.succ_ne_self _) (Nat.ne_of_lt (Nat.lt_succ_of_lt hlt)) (Nat.ne_of_lt hlt),⟨⟨_,he⟩,hi⟩,fun c hc=>?_,q1⟩;have hc':s1.heap.objs.size<=c:=by
   simp only [List.mem_cons,List.not_mem_nil,or_false] at hc;rcases hc with rfl | rfl <;> omega
  exact I1.fpOk hc' (I1.hok.fresh hc')
theorem rg {K:Frag} {σ:St} {H:Hp} {R:It->Hp->Prop}:cEnumL K ta σ H R=ta σ H fun x H1=>match x with
 | .ref l=>(∃ xs,SqL K H1 l xs)/\R (Itel K l) H1
 | _=>False:=rfl
end
theorem jt {K:Frag} {tb:TS} {D:Ends} {σ:St} {H:Hp} {a:Addr} {xs:List V} {j k:Nat} (Pv:Nat->St->Hp->Prop) (h0:Pv 0 σ H) (hl:∀ i σ H,i<=xs.length->Pv i σ H->SqL K H a xs)
  (hs:∀ i x σ H T,xs[i]? = some x->Pv i σ H->H T=none->tb (D.turn (Pv (i+1))) ((σ.set j (some (.int i))).set k (some x)) (upd H T (.tup [.int i,x]))) (hd:∀ σ H,Pv xs.length σ H->D.nx σ H):
  loopW (Itel K a) (gTup K 2 (gCons (gName j) (gCons (gName k) gNil))) tb D σ H:=
 n8 (n:=xs.length) Pv h0 (fun i σ H hi p=>⟨xs,xs[i],hl i σ H (Nat.le_of_lt hi) p,by simp [hi]⟩)
  (fun σ H p=>⟨xs,hl _ σ H (Nat.le_refl _) p,rfl⟩)
  (fun i σ H v H' hi p y=>by
   obtain ⟨T,x,rfl,hT,hx,rfl⟩:=y;exact ⟨T,[_,_],rfl,SqT.upd_same,rfl,_,[_],rfl,_,[],rfl,rfl,hs i x σ H T (hx xs (hl i σ H (Nat.le_of_lt hi) p)) p hT⟩) hd
section
variable {prog:Program} {w:World} {A:Around} {E:Value->Shared->Prop} {s:Shared}
end
section
variable {X:Cx}
end
end L2
namespace L2
open PySem PySem.Spec PyProof.Rows PySem.Builtin PySem.Builtin.Str
section
variable {X:Cx}
end
end L2
namespace L2
open PySem PySem.Spec PyProof.Rows
section
variable {X:Cx}
theorem uj {i:Nat} {x:Str} {pos' spos:Pos} {elt tg iter:Expr} {ifs:List Expr} {scope:Scope} {pos:Pos} {wi:TI} {g:TG} {tc:TT} {te:TE} {nt:Nat} {fi:List Nat} {N':List Str} (hN:X.N.Nodup) (hi0:X.N[i]? = some x) (hx:Loc X.env.scope x) (hcalm:X.calm=true)
  (S:CScope scope) (cn:CNames X scope nt fi N') (gk:GK nt g) (hi:PI X tg iter wi)
  (hg:∀ cl C s H ex,PG (cxC X scope cl N' C s H ex) tg g) (hc:∀ cl C s H ex,PIf (cxC X scope cl N' C s H ex) ifs tc) (he:∀ cl C s H ex,PE (cxC X scope cl N' C s H ex) elt te)
  (hsw:swapsWith (.ListComp elt [⟨tg,iter,ifs,0⟩] scope pos) (some (.Name x pos')) spos.line X.env=pure true:=by rfl)
  (hs:∀ x,foldedSetIterable iter X.env x=pure x:=by intro _; rfl) (hf:X.fn x=true\/X.env.scope.names.lookup x=some .local:=by first | exact .inl rfl | exact .inr rfl | assumption):
  PS X (.Assign [.Name x pos'] (.ListComp elt [⟨tg,iter,ifs,0⟩] scope pos) spos) (tAsg (cComp nt fi wi g tc te) (gName i)):=by
 intro pins s σ H D I h;have hfr:∀ y ∈ scope.names,y.2=.free->∃ c,X.env.cells.lookup y.1=some c:=fun y hy e=>I.ok.has y.1 (cn.fre y hy e)
 rw [exec_Assign_Name_used _ _ _ _ hsw];refine wpAny_bind (wpAny_standAt (wpAny_bind ?_));change wpAny _ X.A (do let _ <- comprehension (.ListComp elt [⟨tg,iter,ifs,0⟩] scope pos) scope X.env _ (newList []) false (eval iter X.env) (some (assign (.Name x pos') X.env))) _ _ s;refine wpAny_bind (thn (Q:=fun _ s'=>∃ σ' H',Inv X pins σ' H' s'/\D.nx σ' H') ?_ fun _ s' q=>wpAny_pure (wpAny_pure q));refine wpAny_comprehension_free (use:=some (assign (.Name x pos') X.env)) rfl hs (eE hfr) S.kind S.loc (thn (hi pins s σ H _ I h) fun v s1 h1=>thn h1 fun itv s2 h2=>?_);obtain ⟨it,fp,tn,J,H2,e,I2,T,st2,f2,hW⟩:=h2;subst e;have fD:H2 s2.heap.objs.size=none:=I2.hok.fresh (Nat.le_refl _);obtain ⟨W,⟨m0,w0⟩,turn⟩:=hW s2.heap.objs.size fD;refine wpAny_newObj_type (wpAny_newFunctionEnv S.nocell (by intro y hy; simp at hy) (fun h₁ hns₁ hsb₁=>?_) S.kind);have I3:Inv X pins σ (upd H2 s2.heap.objs.size (.lst [])) { s2 with heap:=s2.heap.push { cls:=.type "list",dict:=none,data:=.seq ([]:List Value).toArray } }:=I2.lnew (its:=[]) (t':=s2.toks) .nil (Nat.zero_le _);generalize hs3:({ s2 with heap:=s2.heap.push { cls:=.type "list",dict:=none,data:=.seq ([]:List Value).toArray } }:Shared)=s3 at I3 hns₁ hsb₁ ⊢;have hsz:s3.heap.objs.size=s2.heap.objs.size+1:=by rw [<- hs3]; exact Heap.size_push ..
 have ob2:∀ b ∈ fp,∃ o,s3.heap.get? b=some o:=fun b hb=>by
  obtain ⟨o,e,_⟩:=T.obj _ _ st2 b hb;rw [<- hs3];exact ⟨o,Heap.get?_push_of_some _ e⟩
 have f3:∀ b ∈ fp,FpOk X pins (upd H2 s2.heap.objs.size (.lst [])) b:=fun b hb=>by
  obtain ⟨o,e,_⟩:=T.obj _ _ st2 b hb;refine ⟨?_,(f2 b hb).2⟩;rw [aA (Nat.ne_of_lt (Heap.lt_size e))];exact (f2 b hb).1
 have kp:∀ b o,s3.heap.get? b=some o->h₁.get? b=some o:=fun b o e=>hsb₁.extBut b o (Nat.ne_of_lt (Heap.lt_size e)) (Heap.get?_push_of_some _ e)
 have st3:tn 0 h₁:=T.keep _ _ _ st2 fun b _ o e=>kp b o (by rw [<- hs3]; exact Heap.get?_push_of_some _ e)
 have J4:Inv (cxC X scope (clOf X.env.cells scope.names []) N' s3.heap.objs.size s3 (upd H2 s2.heap.objs.size (.lst [])) fp) (X.pn++pins) (compσ nt fi σ) (upd H2 s2.heap.objs.size (.lst [])) { s3 with heap:=h₁,toks:=s3.toks+([]:List (Str × Value)).length }:=
  mD I3 S cn f3 ob2 hns₁ kp I3.tk
 generalize hcl:clOf X.env.cells scope.names []=cl at J4 ⊢;generalize hH3:upd H2 s2.heap.objs.size (.lst [])=H3 at J4 I3 f3 w0;have stat:∀ {H':Hp},(∀ b ∈ fp,H' b=none)->∀ b ∈ fp,FpOk (cxC X scope cl N' s3.heap.objs.size s3 H3 fp) (X.pn++pins) H' b:=fun {H'} hn b hb=>by
  obtain ⟨g0,g1,g2,g3,g4,g5⟩:=f3 b hb;have ok:=J4.ok;refine ⟨hn b hb,(ok.exf b hb).1,ok.exfs b hb,.inl hb,(ok.exf b hb).2,fun p hp=>g5 p ?_⟩;have hp':p ∈ ([]:List (Addr × Obj))++(X.pn++pins):=hp;simpa using hp'
 have loop:∀ s₃:Shared,s₃ = { s3 with heap:=h₁,toks:=s3.toks+([]:List (Str × Value)).length } ->
   codeAny (model X.prog X.w) X.A (.compLoop (.ListComp elt [⟨tg,iter,ifs,0⟩] scope pos) 0 (.ref it) (.ref s2.heap.objs.size) (compEnvC scope cl s3.heap.objs.size X.env))
    (compPost (model X.prog X.w) X.A X.xe (some (assign (.Name x pos') X.env)) (fun _ s'=>∃ σ' H',Inv X pins σ' H' s'/\D.nx σ' H') (.ref s2.heap.objs.size) s3.heap.objs.size) s₃:=by
  rintro s₃ rfl;refine gA (fun n s'=>∃ i acc H',Inv (cxC X scope cl N' s3.heap.objs.size s3 H3 fp) (X.pn++pins) (compσ nt fi σ) H' s'/\tn i s'.heap/\(∀ b ∈ fp,H' b=none)/\W i n acc H') ?_ m0
   ⟨0,[],H3,J4,st3,fun b hb=>(f3 b hb).1,w0⟩
  rintro n s5 ⟨ii,acc,H5,I5,st5,fr5,w5⟩;rcases turn ii n acc H5 w5 with ⟨stop,qn⟩ | ⟨go,step⟩
  ·refine thn (T.done (cxC X scope cl N' s3.heap.objs.size s3 H3 fp) rfl rfl rfl hcalm ii (X.pn++pins) s5 (compσ nt fi σ) H5 (fun _ _=>False) I5 (stat fr5) st5 stop) fun r s6 ⟨hr,I6⟩=>?_
   subst hr;obtain ⟨m6,hn6,_⟩:=I6.loc;have I7:Inv X pins σ H5 s6:=nC I3 f3 (Nat.le_refl _) I6 (Heap.SameBut.refl _ s6.heap);have fC:FpOk X pins H5 s3.heap.objs.size:=I3.fpOk (Nat.le_refl _) I6.free;obtain ⟨c0,c1,c2,c3,c4,c5⟩:=fC;refine wpAny_assign_Name (kZ I7 hN hi0 hx (v:=.ref s2.heap.objs.size) rfl (fun s8 I8 ⟨a,sb,ha⟩=>?_) hf);have na:a≠s3.heap.objs.size:=by
    rcases ha with rfl | ha
    ·exact c1.symm
    ·exact c4 x a ha
   refine ⟨m6,hn6.sameBut sb na.symm,fun h' sb'=>⟨_,H5,?_,qn⟩⟩;exact I8.turned (t':=s8.toks) (fun b o nb e=>(sb'.2 b nb).trans e) c0 c1 c3 c4 c5
  ·refine thn (T.item (cxC X scope cl N' s3.heap.objs.size s3 H3 fp) rfl rfl rfl hcalm ii (X.pn++pins) s5 (compσ nt fi σ) H5 (fun _ _=>False) I5 (stat fr5) st5 go) fun r s6 ⟨u,hr,h6⟩=>?_
   subst hr;refine thn h6 fun _ s7 ⟨y,H7,I7,r7,y7,st7,fr7⟩=>?_
   have I7':=I7.pinned (stat fr7) (T.obj _ _ st7);refine thn (hg _ _ _ _ _ _ s7 (compσ nt fi σ) H7 y u _ I7' r7 (gk _ _ _ _ (step y H7 y7))) fun _ s8 ⟨σ8,H8,I8,q8,l8,d8⟩=>?_
   refine thn (hc _ _ _ _ _ _ s8 σ8 H8 _ I8 q8) fun b s9 ⟨H9,I9,q9⟩=>?_
   have again:∀ {s':Shared} {H':Hp} {m':Nat} {acc':List V},Inv (cxC X scope cl N' s3.heap.objs.size s3 H3 fp) ((X.pn++pins)++pinsAt fp s7.heap) σ8 H' s'->m' < n->W (ii+1) m' acc' H' ->
     ∃ m,m < n/\∃ i acc H',Inv (cxC X scope cl N' s3.heap.objs.size s3 H3 fp) (X.pn++pins) (compσ nt fi σ) H' s'/\tn i s'.heap/\(∀ b ∈ fp,H' b=none)/\W i m acc H':=fun {s' H' m' acc'} I' hm w'=>by
    refine ⟨m',hm,ii+1,acc',H',I'.unpinned.weak l8.symm (compσ_weak l8 d8),T.keep _ _ _ st7 fun b hb o e=>(I'.pin (b,o) (List.mem_append_right _ (List.mem_append_right _ (cf hb e)))).1,fun b hb=>?_,w'⟩;obtain ⟨o,e,d⟩:=T.obj _ _ st7 b hb;exact (I'.pin (b,o) (List.mem_append_right _ (List.mem_append_right _ (cf hb e)))).2.1
   cases b with
   | false=>
    rw [if_neg Bool.false_ne_true] at q9 ⊢;obtain ⟨m',hm,w'⟩:=q9;exact again I9 hm w'
   | true=>
    rw [if_pos rfl] at q9 ⊢;refine thn (he _ _ _ _ _ _ s9 σ8 H9 _ I9 q9) fun uv s10 ⟨v10,H10,I10,r10,hD,hlt,m',hm,w'⟩=>?_
    refine thn (ip (X:=cxC X scope cl N' s3.heap.objs.size s3 H3 fp) _ s10 σ8 H10 (.ref s2.heap.objs.size) [v10] (.ref s2.heap.objs.size) [uv] (fun _ H'=>H'=upd H10 s2.heap.objs.size (.lst (acc++[v10]))) I10 rfl (.cons r10 .nil) ⟨_,acc,v10,rfl,rfl,hD,hlt,rfl⟩) fun _ s11 ⟨_,H11,I11,_,e11⟩=>?_
    subst e11;exact again I11 hm w'
 exact codeAny_compStart_list (loop _ rfl) (T.self _ 0 _ _ _ st3 (loop _ rfl))
end
structure Fly (P:Program) (w:World) (outer:List Env) (H H':Hp) (h h':Heap) (ea C:Addr):Prop where
 un:Un (frs outer) [] H H' h h'
 hok:HOk P w H' h'
 new:∀ b o,h.get? b=some o->b≠ea
 fr:H' ea=none
 fl:∃ B a0,Heap.FlyingW B outer ea (.ref C) a0 h'/\∀ b,((∃ o,h.get? b=some o)/\b ∉ frs outer)\/H' b≠none->∃ o,B.get? b=some o
noncomputable def XR (P:Program) (w:World):CXT:=fun outer H s E e s'=>
 ∃ ea C H',e=.ref ea/\0 < s'.toks/\s'.os=s.os/\AllBare s'.gens/\Fly P w outer H H' s.heap s'.heap ea C/\E (.ref C) none H'
section
variable {X:Cx} {pins:List (Addr × Obj)} {σ:St} {H:Hp} {s:Shared}
theorem nv {env:Env} {l:List Env} {L:Addr} (hf:env.frame=some L):frs (env::l)=L::frs l:=by unfold frs; rw [List.filterMap_cons,hf]
theorem Inv.leave (I:Inv X pins σ H s) (hex:X.ex=[]) {B h2:Heap} {ea C:Addr} {a0:Value} (hB:B.StaysIn s.heap) (up:s.heap.UpToSlots h2)
  (inB:∀ b,((∃ o,X.s₀.heap.get? b=some o)/\b ∉ frs X.outer)\/H b≠none->∃ o,B.get? b=some o) (fl:Heap.FlyingW B X.outer ea (.ref C) a0 h2)
  (new:∀ b o,X.s₀.heap.get? b=some o->b≠ea) (fr:H ea=none):Fly X.prog X.w X.outer X.H₀ H X.s₀.heap h2 ea C:=by
 have nx:∀ b:Addr,b ∉ X.ex:=fun b z=>by rw [hex] at z; cases z
 have same:∀ b o,((∃ o,X.s₀.heap.get? b=some o)/\b ∉ frs X.outer)\/H b≠none->s.heap.get? b=some o->h2.get? b=some o:=fun b o hb e=>by
  obtain ⟨o',eB⟩:=inB b hb;have e1:=hB b o' eB;rw [e] at e1; cases e1;exact fl.1 b o eB
 have sl:∀ b o,b ∈ frs X.outer->s.heap.get? b=some o->∃ sl,h2.get? b=some { o with slots:=sl }:=fun b o hb e=>by
  obtain ⟨_,o',ho',hd⟩:=I.funs.mem hb;rw [e] at ho'; cases ho';exact up b o e hd
 refine ⟨⟨fun b o e n hf _=>same b o (.inl ⟨⟨o,e⟩,hf⟩) (I.base.keep b o e n hf (nx b)),fun b o e n hf _=>?_,fun b o e n _=>I.base.free b o e n (nx b),fun b o e _=>?_,I.base.tups,I.base.frzs,I.base.tbls⟩,fun a o e=>?_,new,fr,B,a0,fl,inB⟩
 ·obtain ⟨s1,e1⟩:=I.base.slot b o e n hf (nx b);obtain ⟨s2,e2⟩:=sl b _ hf e1;exact ⟨s2,e2⟩
 ·obtain ⟨o1,e1⟩:=I.base.there b o e (nx b);by_cases hf:b ∈ frs X.outer
  ·obtain ⟨s2,e2⟩:=sl b _ hf e1;exact ⟨_,e2⟩
  ·exact ⟨o1,same b o1 (.inl ⟨⟨o,e⟩,hf⟩) e1⟩
 ·refine (I.hok a o e).stay (fun b u hb q=>same b u (.inr ?_) q) (fun _ q=>q) fun _ _ q=>q
  rcases hb with rfl | hb
  ·rw [e]; simp
  ·rw [hb]; simp
end
def Raises (X:Cx) (E:XK):Prop:=∀ (pins:List (Addr × Obj)) (σ:St) (H:Hp) (s:Shared) (h':Heap) (e C:Addr) (vs:List Value),
 Inv X pins σ H s->Heap.MadeExcOf s.heap h' e (.ref C) vs->E (.ref C) none H->X.xe (.ref e) { s with heap:=h' }
section
variable {P:Program} {w:World} {K:Frag} {mg:Str->Option Value} {base:Heap} {N:List Str} {qual:Str} {scope:Scope} {f:Addr} {cd:Value} {A:Around} {outer:List Env} {s₀:Shared} {H₀:Hp} {E:XK}
theorem fO:Raises (cxOf (XR P w) P w K mg base N qual scope f cd A outer s₀ H₀ E) E:=by
 intro pins σ H s h' e C vs I M q
 let X:Cx:=cxOf (XR P w) P w K mg base N qual scope f cd A outer s₀ H₀ E
 have I:Inv X pins σ H s:=I;have hf:X.env.frame=some X.env.locals:=rfl;have hst:X.stack=X.env::X.outer:=rfl;show wpAny (model P w) X.A (leaving X.env (.ref e)) (fun _ s''=>XR P w outer H₀ s₀ E (.ref e) s'') (fun e' s''=>XR P w outer H₀ s₀ E e' s'') { s with heap:=h' };have hin:∀ env ∈ X.stack,∀ a,env.frame=some a->a ∈ frs X.stack:=fun env he a ha=>List.mem_filterMap.mpr ⟨env,he,ha⟩
 refine wpAny_leaves_madeW (s:={ s with heap:=h' }) (base:=PySem.W.hideAll s.heap (frs X.stack)) (h:=s.heap) (env:=X.env) (outer:=X.outer) (L:=X.env.locals) I.ok.frames hf (fun b o z=>PySem.W.of_hideAll _ z) (PySem.W.funFrames_hide I.stack hin) M fun h2 t fl _ _ up=>?_
 have up1:s.heap.UpToSlots h2:=(Heap.UpToSlots.of_keeps M.keeps).trans up;have ne:∀ b o,s.heap.get? b=some o->b≠e:=fun b o q z=>by rw [z,M.new] at q; cases q
 refine ⟨e,C,H,rfl,I.tk,I.os,I.bare,I.leave rfl (fun b o z=>PySem.W.of_hideAll _ z) up1 (fun b hb=>?_) fl (fun b o z=>?_) ?_,q⟩
 ·rcases hb with ⟨⟨o,eo⟩,nf⟩ | hb
  ·obtain ⟨o1,e1⟩:=I.base.there b o eo (by intro z; cases z);refine ⟨o1,PySem.W.hideAll_get _ e1 ?_⟩;rw [hst,nv hf];intro z;rcases List.mem_cons.mp z with z | z
   ·exact absurd (Nat.lt_of_lt_of_le (Heap.lt_size eo) I.ok.above) (by rw [z]; exact Nat.lt_irrefl _)
   ·exact nf z
  ·cases eb:H b with
   | none=>exact absurd eb hb
   | some u=>
    have lt:=I.hok.lt eb;cases eo:s.heap.get? b with
    | none=>
     exfalso;have:=(I.hok b u eb);cases u with
     | lst xs=>obtain ⟨_,_,_,_,e⟩:=this; rw [eo] at e; cases e
     | tup xs=>obtain ⟨_,_,_,_,e,_⟩:=this; rw [eo] at e; cases e
     | dK kvs=>obtain ⟨_,_,_,_,o,_,_,e,_⟩:=this; rw [eo] at e; cases e
     | dT kvs=>obtain ⟨_,_,_,_,o,_,_,e,_⟩:=this; rw [eo] at e; cases e
     | set S n=>obtain ⟨o,_,_,_,e,_⟩:=this; rw [eo] at e; cases e
     | ins C dx fs=>obtain ⟨_,_,_,e,_⟩:=this; rw [eo] at e; cases e
     | own y=>obtain ⟨_,e⟩:=this; rw [eo] at e; cases e
     | xd fs=>obtain ⟨_,⟨_,_,_,e,_⟩,_⟩:=this; rw [eo] at e; cases e
     | rng lo hi=>obtain ⟨_,_,_,e⟩:=this; rw [eo] at e; cases e
     | frz ob u=>obtain ⟨e,_⟩:=this; rw [eo] at e; cases e
     | tbl ps=>obtain ⟨_,e,_⟩:=this; rw [eo] at e; cases e
     | met f y=>have e:s.heap.get? b=some _:=this; rw [eo] at e; cases e
     | ext φ=>obtain ⟨_,⟨_,e⟩,_⟩:=this; rw [eo] at e; cases e
    | some o=>
     refine ⟨o,PySem.W.hideAll_get _ eo fun z=>?_⟩;exact hb (I.stkFree b z)
 ·obtain ⟨o1,e1⟩:=I.base.there b o z (by intro z; cases z);exact ne b o1 e1
 ·cases eb:H e with
  | none=>rfl
  | some u=>
   exfalso;have:=(I.hok e u eb);have eo:=M.new;cases u with
   | lst xs=>obtain ⟨_,_,_,_,e⟩:=this; rw [eo] at e; cases e
   | tup xs=>obtain ⟨_,_,_,_,e,_⟩:=this; rw [eo] at e; cases e
   | dK kvs=>obtain ⟨_,_,_,_,o,_,_,e,_⟩:=this; rw [eo] at e; cases e
   | dT kvs=>obtain ⟨_,_,_,_,o,_,_,e,_⟩:=this; rw [eo] at e; cases e
   | set S n=>obtain ⟨o,_,_,_,e,_⟩:=this; rw [eo] at e; cases e
   | ins C dx fs=>obtain ⟨_,_,_,e,_⟩:=this; rw [eo] at e; cases e
   | own y=>obtain ⟨_,e⟩:=this; rw [eo] at e; cases e
   | xd fs=>obtain ⟨_,⟨_,_,_,e,_⟩,_⟩:=this; rw [eo] at e; cases e
   | rng lo hi=>obtain ⟨_,_,_,e⟩:=this; rw [eo] at e; cases e
   | frz ob u=>obtain ⟨e,_⟩:=this; rw [eo] at e; cases e
   | tbl ps=>obtain ⟨_,e,_⟩:=this; rw [eo] at e; cases e
   | met f y=>have e:s.heap.get? _=some _:=this; rw [eo] at e; cases e
   | ext φ=>obtain ⟨_,⟨_,e⟩,_⟩:=this; rw [eo] at e; cases e
theorem bN:Passes (XR P w) (cxOf (XR P w) P w K mg base N qual scope f cd A outer s₀ H₀ E) E:=by
 intro pins σ H s e s' I h
 let X:Cx:=cxOf (XR P w) P w K mg base N qual scope f cd A outer s₀ H₀ E
 have I:Inv X pins σ H s:=I;obtain ⟨ea,C,H',rfl,tk,os,bare,F,q⟩:=h;have hf:X.env.frame=some X.env.locals:=rfl;have hst:X.stack=X.env::X.outer:=rfl;show wpAny (model P w) X.A (leaving X.env (.ref ea)) (fun _ s''=>XR P w outer H₀ s₀ E (.ref ea) s'') (fun e' s''=>XR P w outer H₀ s₀ E e' s'') s';obtain ⟨B,a0,fl,inB⟩:=F.fl;have I2:Inv X pins σ H' s':=I.call' os F.un F.hok bare (fun b z=>nomatch z) tk;refine wpAny_leaves_onW (env:=X.env) (outer:=X.outer) (L:=X.env.locals) I.ok.frames hf fl fun h2 fl2 up=>?_
 refine ⟨ea,C,H',rfl,tk,os.trans I.os,bare,I2.leave rfl fl.1 up (fun b hb=>inB b ?_) fl2 (fun b o z=>?_) F.fr,q⟩
 ·rcases hb with ⟨⟨o,eo⟩,nf⟩ | hb
  ·obtain ⟨o1,e1⟩:=I.base.there b o eo (by intro z; cases z);refine .inl ⟨⟨o1,e1⟩,?_⟩;show b ∉ frs X.stack;rw [hst,nv hf];intro z;rcases List.mem_cons.mp z with z | z
   ·exact absurd (Nat.lt_of_lt_of_le (Heap.lt_size eo) I.ok.above) (by rw [z]; exact Nat.lt_irrefl _)
   ·exact nf z
  ·exact .inr hb
 ·obtain ⟨o1,e1⟩:=I.base.there b o z (by intro z; cases z);exact F.new b o1 e1
end
abbrev bmV:List Value:=[.type "ValueError",.type "Exception",.type "BaseException",.type "object"]
structure XCl (K:Frag) (C:Addr):Prop where
 ex:PySem.W.excIn K C bmV "ValueError.__new__" = true
 ty:PySem.W.typeIn K (.ref C)=some (.type "type")
 mb:PySem.W.mroIn K C (.type "BaseException")=some true
 ga:findIn K (.ref C) "__getattribute__" = some (some (.builtin "BaseException.__getattribute__"))
 gh:findIn K (.ref C) "__getattr__" = some none
 ca:findIn K (.ref C) "__class__" = some (some (.builtin "object.__class__"))
 gt:PySem.W.specialIn K (.builtin "object.__class__") "__get__" = some (some (.builtin "getset_descriptor.__get__"))
 tk:PySem.W.takesIn K (.builtin "object.__class__")=some true
 mo:PySem.W.mroIn K C (.type "object")=some true
theorem XCl.own {K:Frag} {h:Heap} {C:Addr} (c:XCl K C) (X:K.In h):OwnCls "x" C bmV "ValueError.__new__" (fun _=>some (.ref C)) h:=by
 have q:=c.ex;refine ⟨rfl,?_⟩;revert q;unfold PySem.W.excIn;rcases hk:K.lookup C with _ | ⟨oc,odd,oda,osl⟩
 ·intro q; cases q
 ·intro q;split at q
  case h_2=>cases q
  case h_1 dd cdt sl eo=>
   cases eo;split at q
   case h_2=>cases q
   case h_1 C' bm a0 a1 a2 a3 n a5 em es=>
    simp only [Bool.and_eq_true,beq_iff_eq,Bool.not_eq_true'] at q;obtain ⟨⟨⟨⟨⟨e1,e2⟩,e3⟩,e4⟩,e5⟩,e6⟩:=q;subst e1 e2;obtain ⟨f1,f2,f3,f4,f5,f6,f7,f8,f9,f10,f11⟩:=cdt;dsimp only at em e3 e5 e6;subst em e3;have el:osl=#[a0,a1,a2,a3,some (.builtin "ValueError.__new__"),a5]:=by
     rcases osl with ⟨l⟩
     simp only at es;rw [es]
    subst el;exact ⟨bm,f4,f1,f5,f2,f6,f7,f8,f9,f10,odd,a0,a1,a2,a3,a5,_,X _ _ hk,.of_isNs (PySem.W.isNs_of_in X e5),PySem.W.nsMap_none_of_in X e5 e6,PySem.W.tail_of_in X e4⟩
section
variable {X:Cx} {x:Str} {C:Addr} {np cpos pos:Pos} {e:Expr} {es:List Expr} {t:TA} {E:XK}
noncomputable def tRaise (C:Addr) (E:XK) (t:TA):TS:=fun _ σ H=>t σ H fun vs H1=>vs.length<=sizeLine/\E (.ref C) none H1
theorem gI (hc:X.calm=true) (hx:Raises X E) (hg:Gl X x) (hm:X.mg x=some (.ref C)) (c:XCl X.K C) (ha:PA X (e::es) t) (hdb:(x == ("__debug__" : Str))=false:=by decide)
  (he:starEach (e::es) X.env=(false,eval e X.env)::starEach es X.env:=by rfl) (hpl:(backTo cpos (starEach es X.env)).any (·.1)=false:=by rfl):
  PS X (.Raise (some (.Call (.Name x np) (e::es) [] cpos)) none pos) (tRaise C E t):=by
 intro pins s σ H D I h;obtain ⟨tl,N,nm,q,bs,hdct,sn,sub,ab,col,dd,k0,k1,k2,k3,k5,mN,hC,hN,hni,T⟩:=(c.own I.mod.kin).obj;refine wpAny_Raise_call_subU (k5:=k5) (k3:=k3) (k2:=k2) (k1:=k1) (k0:=k0) (dd:=dd) (col:=col) (ab:=ab) (sub:=sub) (sn:=sn) (hdct:=hdct) (bs:=bs) (q:=q) (C:=C) (nm:=nm) (N:=N) (bm:=tl) (mN:=mN) PySem.F.excBase_ValueError (by decide) PySem.F.excBase_ValueError (T.hasType PySem.F.excBase_ValueError.hasBase) (I.ok.hd hc) ?_ hni (pF I hg hm ⟨rfl,?_⟩ hdb)
 ·rw [he];show (false || (backTo cpos (starEach es X.env)).any (·.1))=false;rw [hpl]; rfl
 ·have hp:=ha cpos pins s σ H _ I h;rw [he] at hp ⊢;refine Calls.evalArgs_plain (wpAny_mono hp (fun us s2 hq=>?_) fun _ _ y=>y);obtain ⟨vs,H1,I1,r,z,q1⟩:=hq;exact ⟨rfl,by rw [<- r.length]; exact z,I1.bk _ _ hC,hN.keeps I1.bk,T.keeps I1.bk,fun h' ea M=>hx pins σ H1 s2 h' ea C us I1 M q1⟩
end
section
variable {K:Frag} {M:Model} {h:Heap} {C D e:Addr}
end
section
variable {X:Cx} {W:St->XK} {p pins:List (Addr × Obj)} {σ:St} {H:Hp} {s:Shared}
end
section
variable {X:Cx} {CX:CXT} {k:Nat} {f:Addr} {fd:FuncData} {ps:List Str} {sp:Sp} {dvs:List V} {ds:List Value} {W:St->XK} {x:Str} {p pos:Pos} {e:Expr} {es:List Expr} {t:TA}
end
end L2
namespace L2
open PySem PySem.Spec PySem.Calls PyProof.Rows PySem.W Builtin Builtin.ObjectAttr Builtin.Getset_descriptor
section
variable {prog:Program} {w:World} {A:Around} {E:Value->Shared->Prop} {K:Frag} {x C:Addr} {o:Obj} {h:Heap} {g:Array GenState} {d:Drawn} {t:Nat} {os:OsState}
end
section
variable {X:Cx} {pins:List (Addr × Obj)} {σ:St} {H:Hp} {s:Shared}
noncomputable def V.cv:V->Option Value
 | .ref a=>some (.ref a)
 | .ty n=>some (.type n)
 | _=>none
end
end L2
namespace L2
open PySem PySem.Spec PyProof.Rows
def CalleeX (P:Program) (w:World) (K:Frag) (mg:Str->Option Value) (base:Heap) (k:Nat) (x:Str) (ps:List Str) (sp:Sp):Prop:=
 ∃ f fd,FnOk P w K mg base (XR P w) k f fd ps sp/\Binds K fd ps []/\keepIn K (.ref f)=true/\mg x=some (.ref f)
theorem Fn.calX {P:Program} {w:World} {K:Frag} {mg:Str->Option Value} {base:Heap} {x:Str} {st:Stmt} {N ps:List Str} {k:Nat} {sp:Sp} (F:Fn K mg x st) (S:FnScope N ps (defScope st)) (len:∀ vs H Q E,sp vs H Q E->vs.length=ps.length)
  (hb:∀ (kV doc pm:Value) (an:Option Addr) (cdv ct:Value) (us:List Value),us.length=ps.length->bindArgs (fnOf x x (defArgs st) (defBody st) (defScope st) .none kV doc pm an cdv ct) ⟨us,[]⟩=pure (ps.zip us))
  (hbody:∀ (f:Addr) (cdv:Value) (A:Around) (outer:List Env) (s:Shared) (H:Hp) (vs:List V) (Q:VK) (E:XK),Room k (A.deeper (envOfC x (defScope st) s.heap.objs.size f cdv))->sp vs H Q E ->
   ∃ t,PSs (cxOf (XR P w) P w K mg base N x (defScope st) f cdv A outer s H E) (defBody st) t/\t { nx:=fun _ H'=>Q .non H',rt:=Q } (start N vs) H):CalleeX P w K mg base (k+1) x ps sp:=by
 obtain ⟨f,fd,F,m⟩:=F;have hB:=F.binds hb;have hK:=F.kp;obtain ⟨oc,od,kV,doc,pm,an,cdv,ct,osl,rfl,lk,hcd⟩:=F.ex;exact ⟨f,_,vg lk hcd S len (hbody f cdv),hB,hK,m⟩
section
variable {X:Cx} {k:Nat} {x:Str} {ps:List Str} {sp:Sp} {p pos:Pos} {e:Expr} {es:List Expr} {t:TA} {E:XK} {W:St->XK}
theorem fo (C:CalleeX X.prog X.w X.K X.mg X.base k x ps sp) (hr:Room k X.A) (hx:Passes (XR X.prog X.w) X E) (hg:Gl X x) (ha:PA X (e::es) t)
  (he:starEach (e::es) X.env=(false,eval e X.env)::starEach es X.env:=by rfl) (hpl:(backTo pos (starEach es X.env)).any (·.1)=false:=by rfl) (hd:(x == ("__debug__" : Str))=false:=by decide):PE X (.Call (.Name x p) (e::es) [] pos) (tCall sp [] E t):=by
 obtain ⟨f,fd,F,b,kp,m⟩:=C;exact pj F hr hg m kp b .nil hx ha (hdb:=hd) (he:=he) (hpl:=hpl)
theorem CalleeX.calm {P:Program} {w:World} {K:Frag} {mg:Str->Option Value} {base:Heap} {k:Nat} {x:Str} {ps:List Str} {sp:Sp} (C:CalleeX P w K mg base k x ps sp):
  Callee P w K mg base k x ps (fun vs H Q _=>sp vs H Q E0):=by
 obtain ⟨f,fd,F,b,kp,m⟩:=C;refine ⟨f,fd,⟨fun vs H Q _ h=>F.len vs H Q E0 h,fun A outer s H args us vs Q E hr e0 hb hv h=>?_⟩,b,kp,m⟩;refine codeAny_mono (F.run A outer s H args us vs Q E0 hr e0 hb hv h) fun r s' q=>?_
 rcases r with er | fl
 ·obtain ⟨_,_,_,_,_,_,_,_,z⟩:=q;exact z.elim
 ·cases fl with
  | ret u=>exact q
  | _=>exact q.elim
end
section
variable {X:Cx} {a c:Expr} {es:List Expr} {ta:TE} {pos p tpos:Pos} {x1:Nat}
end
noncomputable abbrev TJ:=Nat->St->Hp->(Hp->Prop)->Prop
def PJ (X:Cx) (es:List Expr) (t:TJ):Prop:=∀ (acc:Str) (pins:List (Addr × Obj)) (s:Shared) (σ:St) (H:Hp) (Q:Hp->Prop),acc.length<=sizeLine->Inv X pins σ H s->t acc.length σ H Q ->
 Joins (model X.prog X.w) X.A X.xe (evalEach es X.env) acc (fun out s1=>out.length<=sizeLine/\∃ H1,Inv X pins σ H1 s1/\Q H1) s
noncomputable def jNil:TJ:=fun _ _ H Q=>Q H
noncomputable def jCons (te:TE) (tj:TJ):TJ:=fun n σ H Q=>te σ H fun x H1=>match x with
 | .str y=>n+y.length<=sizeLine/\tj (n+y.length) σ H1 Q
 | _=>False
section
variable {X:Cx} {e v1 v2:Expr} {es rest:List Expr} {te:TE} {tj:TJ} {pos:Pos}
theorem lZ:PJ X [] jNil:=fun acc pins s σ H Q hz I q=>⟨hz,H,I,q⟩
theorem cP (he:PE X e te) (hr:PJ X es tj) (hs:evalEach (e::es) X.env=eval e X.env::evalEach es X.env:=by rfl):PJ X (e::es) (jCons te tj):=by
 intro acc pins s σ H Q hz I q;rw [hs];refine thn (he pins s σ H _ I q) fun u s1 ⟨x,H1,I1,r,z⟩=>?_
 dsimp only at z;split at z
 ·rename_i y;obtain ⟨t,rfl⟩:=r;have hl:(acc++y).length=acc.length+y.length:=strLen_append _ _;exact ⟨y,t,rfl,by rw [hl]; exact z.1,hr (acc++y) pins s1 σ H1 Q (by rw [hl]; exact z.1) I1 (by rw [hl]; exact z.2)⟩
 ·exact z.elim
noncomputable def cFS (tj:TJ):TE:=fun σ H Q=>tj 0 σ H fun H1=>∀ z,Q (.str z) H1
theorem px (h:PJ X (v1::v2::rest) tj):PE X (.JoinedStr (v1::v2::rest) pos) (cFS tj):=by
 intro pins s σ H Q I q;have J:=h Str.empty pins s σ H _ (by decide) I q;refine wpAny_JoinedStr ?_;have mono:∀ {P R:Str->Shared->Prop} (l:List (Sem Value)) (acc:Str) (s:Shared),(∀ o s,P o s->R o s)->Joins (model X.prog X.w) X.A X.xe l acc P s->Joins (model X.prog X.w) X.A X.xe l acc R s:=by
  intro P R l
  induction l with
  | nil=>intro acc s k z; exact k _ _ z
  | cons x r ih=>
   intro acc s k z;exact thn z fun v s1 ⟨y,t,e,hz,z⟩=>⟨y,t,e,hz,ih _ _ k z⟩
 exact mono _ _ _ (fun out s1 ⟨hz,H1,I1,z⟩=>⟨hz,⟨.str out,H1,I1.tok _,⟨_,rfl⟩,z out⟩⟩) J
noncomputable def cFmtR (tv:TE):TE:=fun σ H Q=>tv σ H fun x H1=>match x with
 | .str y=>(∀ c ∈ y.cps.toList,c < 16 ^ 8)/\y.length<=100000/\∀ z:Str,z.length<=10*y.length+2->Q (.str z) H1
 | _=>False
theorem lK (hv:PE X e te):PE X (.FormattedValue e 114 none pos) (cFmtR te):=by
 intro pins s σ H Q I q;refine wpAny_FormattedValue_repr (thn (hv pins s σ H _ I q) fun u s1 ⟨x,H1,I1,r,z⟩=>?_);dsimp only at z;split at z
 ·rename_i y;obtain ⟨t,rfl⟩:=r;obtain ⟨h1,h2,z⟩:=z;have hl:=PySem.StrLaws.reprText_len y h1;have hs:(reprText y).length<=sizeLine:=Nat.le_trans hl (Nat.le_trans (by omega:10*y.length+2<=1000002) (by decide));refine wpAny_pyReprObj_str ?_ hs;exact tokQ (Nat.succ_pos _) (formatField_str (fun t' tk (htk:0 < tk)=>⟨.str (reprText y),H1,I1.tok _,⟨_,rfl⟩,z _ hl⟩) hs)
 ·exact z.elim
end
noncomputable def xA (K:Frag) (x:Str):Addr:=match nsIn K mainGlobals x with
 | some (some (.ref a))=>a
 | _=>0
theorem xc {K:Frag} {x:Str} {C:Addr} (e:nsIn K mainGlobals x=some (some (.ref C))):xA K x=C:=by unfold xA; rw [e]
def Xn (K:Frag) (mg:Str->Option Value) (x:Str):Prop:=mg x=some (.ref (xA K x))/\XCl K (xA K x)
section
variable {K:Frag} {h:Heap} {mg:Str->Option Value} {x y:Str} {C D:Addr}
theorem wW (X:K.In h) (G:h.Ns mainGlobals mg) (n:nsIn K mainGlobals x=some (some (.ref C))) (ex:PySem.W.excIn K C bmV "ValueError.__new__" = true) (ty:PySem.W.typeIn K (.ref C)=some (.type "type")) (mb:PySem.W.mroIn K C (.type "BaseException")=some true)
  (ga:findIn K (.ref C) "__getattribute__" = some (some (.builtin "BaseException.__getattribute__"))) (gh:findIn K (.ref C) "__getattr__" = some none) (ca:findIn K (.ref C) "__class__" = some (some (.builtin "object.__class__"))) (mo:PySem.W.mroIn K C (.type "object")=some true)
  (gt:PySem.W.specialIn K (.builtin "object.__class__") "__get__" = some (some (.builtin "getset_descriptor.__get__"))) (tk:PySem.W.takesIn K (.builtin "object.__class__")=some true):Xn K mg x:=by
 unfold Xn;rw [xc n];exact ⟨mg_of X G n,⟨ex,ty,mb,ga,gh,ca,gt,tk,mo⟩⟩
end
theorem rq {C:Addr} {E:XK} {t:TA} {D:Ends} {σ:St} {H:Hp}:tRaise C E t D σ H=t σ H fun vs H1=>vs.length<=sizeLine/\E (.ref C) none H1:=rfl
theorem wZ {tj:TJ} {σ:St} {H:Hp} {Q:VK}:cFS tj σ H Q=tj 0 σ H fun H1=>∀ z,Q (.str z) H1:=rfl
theorem vH {n:Nat} {σ:St} {H:Hp} {Q:Hp->Prop}:jNil n σ H Q=Q H:=rfl
theorem tF {te:TE} {tj:TJ} {n:Nat} {σ:St} {H:Hp} {Q:Hp->Prop}:jCons te tj n σ H Q=te σ H fun x H1=>match x with
 | .str y=>n+y.length<=sizeLine/\tj (n+y.length) σ H1 Q
 | _=>False:=rfl
theorem tq {tv:TE} {σ:St} {H:Hp} {Q:VK}:cFmtR tv σ H Q=tv σ H fun x H1=>match x with
 | .str y=>(∀ c ∈ y.cps.toList,c < 16 ^ 8)/\y.length<=100000/\∀ z:Str,z.length<=10*y.length+2->Q (.str z) H1
 | _=>False:=rfl
end L2
namespace L2
open PySem PySem.Spec PyProof.Rows PySem.Builtin PySem.Builtin.Str
theorem lB {n a b:Nat} (h1:a<=b) (h2:b<=n):strSliceIndices (some (a:Int)) (some (b:Int)) 1 n=(List.range (b - a)).map fun k=>a+k:=by
 have e1:¬ ((a:Int) < 0):=by omega
 have e2:¬ ((b:Int) < 0):=by omega
 have e3:max 0 (min (a:Int) (n:Int))=a:=by omega
 have e4:max 0 (min (b:Int) (n:Int))=b:=by omega
 simp only [strSliceIndices,e1,e2,if_false,show (1:Int) > 0 by decide,if_true,e3,e4,sliceRange];have c:(if (a:Int) < b then ((b:Int) - a+1 - 1) / 1 else 0).toNat=b - a:=by
  split <;> omega
 rw [c];apply List.map_congr_left;intro k _;omega
theorem iY (l:List Nat) (a m:Nat) (h:a+m<=l.length):((List.range m).map fun k=>a+k).filterMap (fun i=>l[i]?)=(l.drop a).take m:=by
 induction m with
 | zero=>simp
 | succ m ih=>
  have hl:a+m < l.length:=by omega
  rw [List.range_succ,List.map_append,List.filterMap_append,ih (by omega),List.take_add_one,List.getElem?_drop];simp [List.getElem?_eq_getElem hl]
theorem oO (l:List Nat) (a b:Nat) (h1:a<=b) (h2:b<=l.length):Txt.slice (st l) (some (a:Int)) (some (b:Int))=st ((l.drop a).take (b - a)):=by
 have hl:(st l).length=l.length:=by simp [Str.length]
 unfold Txt.slice;rw [hl,lB h1 h2];have f:((List.range (b - a)).map fun k=>a+k).filterMap ((st l).cps[·]?)=(l.drop a).take (b - a):=by
  rw [<- iY l a (b - a) (by omega)];congr 1;funext i;simp
 split
 ·rename_i g;simp only [List.length_map,List.length_range,beq_self_eq_true,Bool.true_and,beq_iff_eq] at g;have e1:a=0:=by omega
  have e2:b=l.length:=by omega
  subst e1 e2;simp
 ·rw [f]
section
variable {X:Cx}
noncomputable def kSlB:V->Option Int->Option Int->Hp->VK->Prop:=fun x lo hi H Q=>match x,lo,hi with
 | .str z,some i,some j=>z.cps.toList.length<=100000/\0<=i/\i<=j/\j<=z.cps.toList.length/\Q (.str (st ((z.cps.toList.drop i.toNat).take (j.toNat - i.toNat)))) H
 | _,_,_=>False
theorem slB:SlR X kSlB:=qX.imp fun x lo hi H Q q=>by
 unfold kSlB at q;split at q
 ·rename_i z i j;obtain ⟨h,h0,h1,h2,q⟩:=q;obtain ⟨a,rfl⟩:∃ k:Nat,i=k:=⟨i.toNat,by omega⟩;obtain ⟨b,rfl⟩:∃ k:Nat,j=k:=⟨j.toNat,by omega⟩;refine ⟨z,rfl,by rw [strlen]; exact Nat.le_trans h big5,?_⟩;have e:=oO z.cps.toList a b (by omega) (by omega);rw [aF] at e;rw [e];simpa using q
 ·exact q.elim
theorem wk {l:List Nat} {i j:Int} {H:Hp} {Q:VK}:kSlB (.str (st l)) (some i) (some j) H Q=(l.length<=100000/\0<=i/\i<=j/\j<=l.length/\Q (.str (st ((l.drop i.toNat).take (j.toNat - i.toNat)))) H):=rfl
end
end L2
namespace L2
open PySem PySem.Spec PyProof.Rows
section
variable {K:Frag} {g:TG} {tc:TT} {te:TE} {σc:St} {D:Addr} {Q:VK} {H:Hp}
theorem d6 {α β:Type} {F:α -> β -> Prop} {l:List α} {m:List β} {x:α} {y:β} (h:Paired F l m) (r:F x y):Paired F (l++[x]) (m++[y]):=by
 induction h with
 | nil=>exact .cons r .nil
 | cons r' _ ih=>exact .cons r' ih
end
section
variable {X:Cx} {k:Nat} {x:Str} {ps:List Str} {sp:Sp} {p pos:Pos} {e:Expr} {es:List Expr} {t:TA}
end
section
variable {κ:Type} [DecidableEq κ]
noncomputable def valV (kvs:List (κ × V)) (k:κ):Option V:=(kvs.find? fun kv=>decide (kv.1=k)).map (·.2)
noncomputable def putK (kvs:List (κ × V)) (k:κ) (v:V):List (κ × V):=
 if (kvs.any fun kv=>decide (kv.1=k))=true then kvs.map (fun kv=>if kv.1=k then (kv.1,v) else kv) else kvs++[(k,v)]
theorem bg {p:κ × V} {r:List (κ × V)} {k:κ} (e:p.1=k):valV (p::r) k=some p.2:=by simp [valV,List.find?_cons,e]
theorem bf {p:κ × V} {r:List (κ × V)} {k:κ} (e:¬ p.1=k):valV (p::r) k=valV r k:=by simp [valV,List.find?_cons,e]
theorem eV (k:κ):∀ kvs:List (κ × V),(kvs.any fun kv=>decide (kv.1=k))=(valV kvs k).isSome
 | []=>rfl
 | p::r=>by
  rw [List.any_cons];by_cases e:p.1=k
  ·simp only [bg e,decide_eq_true e,Bool.true_or,Option.isSome_some]
  ·rw [bf e,decide_eq_false e,Bool.false_or]; exact eV k r
theorem mW (k j:κ) (y:V):∀ kvs:List (κ × V),valV (kvs.map fun kv=>if kv.1=k then (kv.1,y) else kv) j=(valV kvs j).map fun x=>if j=k then y else x
 | []=>rfl
 | p::r=>by
  have ih:=mW k j y r;rw [List.map_cons];by_cases h:p.1=k
  ·rw [if_pos h];by_cases e:p.1=j
   ·rw [bg (p:=(p.1,y)) e,bg e,Option.map_some,if_pos (e.symm.trans h)]
   ·rw [bf (p:=(p.1,y)) e,bf e,ih]
  ·rw [if_neg h];by_cases e:p.1=j
   ·rw [bg (p:=p) e,bg e,Option.map_some,if_neg (fun z=>h (e.trans z))]
   ·rw [bf (p:=p) e,bf e,ih]
theorem kW (k j:κ) (y:V):∀ kvs:List (κ × V),valV kvs k=none->valV (kvs++[(k,y)]) j=if j=k then some y else valV kvs j
 | [],_=>by
  by_cases e:k=j
  ·rw [if_pos e.symm]; exact bg (p:=(k,y)) e
  ·rw [if_neg (fun z=>e z.symm)]; exact bf (p:=(k,y)) e
 | p::r,hn=>by
  rw [List.cons_append];have hk:¬ p.1=k:=fun z=>by rw [bg z] at hn; cases hn
  rw [bf hk] at hn;have ih:=kW k j y r hn;by_cases e:p.1=j
  ·rw [bg e,bg e,if_neg (fun z=>hk (e.trans z))]
  ·rw [bf e,bf e,ih]
theorem mI (kvs:List (κ × V)) (k j:κ) (y:V):valV (putK kvs k y) j=if j=k then some y else valV kvs j:=by
 unfold putK;by_cases a:(kvs.any fun kv=>decide (kv.1=k))=true
 ·rw [if_pos a,mW];rw [eV] at a;by_cases e:j=k
  ·obtain ⟨x,hx⟩:=Option.isSome_iff_exists.mp a;rw [if_pos e,e,hx,Option.map_some,if_pos rfl]
  ·rw [if_neg e];cases valV kvs j with
   | none=>rfl
   | some x=>rw [Option.map_some,if_neg e]
 ·rw [if_neg a];refine kW k j y kvs ?_;rw [eV] at a;cases q:valV kvs k with
  | none=>rfl
  | some x=>rw [q] at a; exact (a rfl).elim
theorem cR (kvs:List (κ × V)) (k:κ) (v:V):(putK kvs k v).length<=kvs.length+1:=by
 unfold putK;split
 ·rw [List.length_map]; omega
 ·rw [List.length_append,List.length_cons,List.length_nil]; omega
theorem rB {kvs:List (κ × V)} {k:κ} (v:V) (h:valV kvs k=none):putK kvs k v=kvs++[(k,v)]:=by
 unfold putK;rw [eV,h];exact if_neg (by decide)
theorem RelO.isSome_eq {o:Option V} {u:Option Value} (r:RelO o u):o.isSome=u.isSome:=by
 cases o with
 | none=>cases u with
  | none=>rfl
  | some _=>exact (show False from r).elim
 | some _=>cases u with
  | none=>exact (show False from r).elim
  | some _=>rfl
theorem KV.val {kvs:List (κ × V)} {vs:List (κ × Value)} (r:KV kvs vs) (k:κ):RelO (valV kvs k) (valueAt vs k):=by
 unfold KV at r
 induction r with
 | nil=>exact True.intro
 | @cons p q ps qs h t ih=>
  obtain ⟨h1,h2⟩:=h;by_cases e:p.1=k
  ·have e':q.1=k:=h1.symm.trans e;have b:valueAt (q::qs) k=some q.2:=by simp [valueAt,List.find?_cons,e']
   rw [bg e,b]; exact h2
  ·have e':¬ q.1=k:=fun z=>e (h1.trans z)
   have b:valueAt (q::qs) k=valueAt qs k:=by simp [valueAt,List.find?_cons,e']
   rw [bf e,b]; exact ih
theorem KV.any {kvs:List (κ × V)} {vs:List (κ × Value)} (r:KV kvs vs) (k:κ):(kvs.any fun kv=>decide (kv.1=k))=vs.any fun kv=>decide (kv.1=k):=by
 unfold KV at r
 induction r with
 | nil=>rfl
 | cons h t ih=>rw [List.any_cons,List.any_cons,ih,h.1]
theorem KV.repl {kvs:List (κ × V)} {vs:List (κ × Value)} (r:KV kvs vs) (k:κ) {y:V} {u:Value} (ry:RelV y u):
  KV (kvs.map fun kv=>if kv.1=k then (kv.1,y) else kv) (vs.map fun kv=>if kv.1=k then (kv.1,u) else kv):=by
 unfold KV at r ⊢
 induction r with
 | nil=>exact .nil
 | @cons p q ps qs h t ih=>
  rw [List.map_cons,List.map_cons];refine .cons ?_ ih;obtain ⟨h1,h2⟩:=h;by_cases e:p.1=k
  ·rw [if_pos e,if_pos (h1.symm.trans e)]; exact ⟨h1,ry⟩
  ·rw [if_neg e,if_neg (fun z=>e (h1.trans z))]; exact ⟨h1,h2⟩
theorem KV.put {kvs:List (κ × V)} {vs:List (κ × Value)} (r:KV kvs vs) (k:κ) {y:V} {u:Value} (ry:RelV y u):KV (putK kvs k y) (stored vs k u):=by
 unfold putK stored;rw [r.any k];by_cases e:(vs.any fun kv=>decide (kv.1=k))=true
 ·rw [if_pos e,if_pos e]; exact r.repl k ry
 ·rw [if_neg e,if_neg e]; exact Paired.snoc r ⟨rfl,ry⟩
theorem KV.keys {kvs:List (κ × V)} {vs:List (κ × Value)} (r:KV kvs vs):kvs.map (·.1)=vs.map (·.1):=by
 unfold KV at r
 induction r with
 | nil=>rfl
 | cons h t ih=>rw [List.map_cons,List.map_cons,ih,h.1]
theorem KV.length {kvs:List (κ × V)} {vs:List (κ × Value)} (r:KV kvs vs):kvs.length=vs.length:=Paired.length r
end
theorem lu {P:Program} {w:World} {k:Key} {u:Value} (r:RelV (kV k) u):(mixKind P w).is k u=true:=by
 cases k with
 | inl i=>obtain ⟨t,e⟩:=(show ∃ t,u=Value.int i t from r); subst e; exact mz P w i t
 | inr x=>obtain ⟨t,e⟩:=(show ∃ t,u=Value.str x t from r); subst e; exact mL P w x t
theorem kH {P:Program} {w:World}:∀ {ks:List Key} {us:List Value},Vals (ks.map kV) us->ItemsAre (mixKind P w) ks us
 | [],_,r=>by rw [List.map_nil] at r; cases r; exact .nil
 | k::ks,_,r=>by
  rw [List.map_cons] at r;cases r with
  | cons h t=>exact .cons (lu h) (kH t)
noncomputable abbrev KT (H:Hp):List (List Key × V)->List (List Key × Addr × Value)->Prop:=Paired fun p q=>p.1=q.1/\H q.2.1=some (.tup (p.1.map kV))/\RelV p.2 q.2.2
theorem KT.val {H:Hp} {kvs:List (List Key × V)} {xs:List (List Key × Addr × Value)} (r:KT H kvs xs) (k:List Key):RelO (valV kvs k) ((atKey xs k).map (·.2)):=by
 induction r with
 | nil=>exact True.intro
 | @cons p q ps qs h t ih=>
  obtain ⟨h1,_,h2⟩:=h;by_cases e:p.1=k
  ·have e':q.1=k:=h1.symm.trans e;have b:atKey (q::qs) k=some q.2:=by simp [atKey,List.find?_cons,e']
   rw [bg e,b]; exact h2
  ·have e':¬ q.1=k:=fun z=>e (h1.trans z)
   have b:atKey (q::qs) k=atKey qs k:=by simp [atKey,List.find?_cons,e']
   rw [bf e,b]; exact ih
theorem KT.repl {H:Hp} {kvs:List (List Key × V)} {xs:List (List Key × Addr × Value)} (r:KT H kvs xs) (k:List Key) {y:V} {u:Value} (ry:RelV y u):
  KT H (kvs.map fun kv=>if kv.1=k then (kv.1,y) else kv) (xs.map (putAt k u)):=by
 induction r with
 | nil=>exact .nil
 | @cons p q ps qs h t ih=>
  rw [List.map_cons,List.map_cons];refine .cons ?_ ih;obtain ⟨h1,h2,h3⟩:=h;unfold putAt;by_cases e:p.1=k
  ·rw [if_pos e,if_pos (h1.symm.trans e)]; exact ⟨h1,h2,ry⟩
  ·rw [if_neg e,if_neg (fun z=>e (h1.trans z))]; exact ⟨h1,h2,h3⟩
theorem KT.put {H:Hp} {kvs:List (List Key × V)} {xs:List (List Key × Addr × Value)} (r:KT H kvs xs) (k:List Key) {b:Addr} {y:V} {u:Value} (hb:H b=some (.tup (k.map kV))) (ry:RelV y u):
  KT H (putK kvs k y) (storedH xs k b u):=by
 have e:(kvs.any fun kv=>decide (kv.1=k))=(atKey xs k).isSome:=by
  rw [eV,(r.val k).isSome_eq,Option.isSome_map]
 unfold putK storedH;rw [e];by_cases q:(atKey xs k).isSome=true
 ·rw [if_pos q,if_pos q]; exact r.repl k ry
 ·rw [if_neg q,if_neg q]; exact Paired.snoc r ⟨rfl,hb,ry⟩
theorem KT.keeps {H H':Hp} {kvs:List (List Key × V)} {xs:List (List Key × Addr × Value)} (r:KT H kvs xs) (ht:∀ b ys,H b=some (.tup ys)->H' b=some (.tup ys)):KT H' kvs xs:=
 Paired.mapP r fun _ _ z=>⟨z.1,ht _ _ z.2.1,z.2.2⟩
section
variable {P:Program} {w:World} {H:Hp} {h:Heap} {a:Addr}
theorem vm {u:HO} (ok:HOk P w H h) (e:Rd H a u):ObjOk P w H h a u:=e.ok ok
theorem nH {kvs:List (Key × V)} (ok:HOk P w H h) (e:Rd H a (.dK kvs)):kvs.length<=sizeLine/\(a == sysModules)=false/\∃ vs,KV kvs vs/\h.DictOf (mixKind P w) a vs:=
 show ObjOk P w H h a (.dK kvs) from vm ok e
theorem xi {kvs:List (Key × V)} (ok:HOk P w H h) (e:H a=some (.dK kvs)):kvs.length<=sizeLine/\(a == sysModules)=false/\∃ vs,KV kvs vs/\h.DictOf (mixKind P w) a vs:=nH ok (.inl e)
theorem jD {ks:List Key} (ok:HOk P w H h) (e:H a=some (.tup (ks.map kV))):(tupleKind (mixKind P w)).is h ks a:=by
 obtain ⟨_,its,r,o,h1,h2,n,h3⟩:=(show ObjOk P w H h a (.tup (ks.map kV)) from ok a _ e);exact ⟨o,its.toArray,n,h1,h2,h3,by simpa using kH r⟩
theorem nA {kvs:List (List Key × V)} (ok:HOk P w H h) (e:Rd H a (.dT kvs)):kvs.length<=sizeLine/\(a == sysModules)=false /\
  ∃ xs,KT H kvs xs/\h.DictOfH (tupleKind (mixKind P w)) a xs:=by
 obtain ⟨z,y,xs,r,o,es,ep,h1,h2,h3,h4,h5⟩:=(show ObjOk P w H h a (.dT kvs) from vm ok e);refine ⟨z,y,xs,r,o,es,ep,h1,h2,h3,h4,fun x hx=>?_,h5⟩;have all:∀ {l:List (List Key × V)} {m:List (List Key × Addr × Value)},KT H l m->∀ x ∈ m,(tupleKind (mixKind P w)).is h x.1 x.2.1:=by
  intro l m q
  induction q with
  | nil=>intro x hx; exact nomatch hx
  | @cons p q ps qs hq t ih=>
   intro x hx;rcases List.mem_cons.mp hx with e | hx
   ·subst e;exact jD ok (by rw [<- hq.1]; exact hq.2.1)
   ·exact ih x hx
 exact all r x hx
theorem vh {kvs:List (List Key × V)} (ok:HOk P w H h) (e:H a=some (.dT kvs)):kvs.length<=sizeLine/\(a == sysModules)=false /\
  ∃ xs,KT H kvs xs/\h.DictOfH (tupleKind (mixKind P w)) a xs:=nA ok (.inl e)
end
def DGet (H:Hp) (a:Addr) (y:V) (r:Option V):Prop:=
 (∃ kvs k,Rd H a (.dK kvs)/\y=kV k/\r=valV kvs k)\/∃ kvs k b,Rd H a (.dT kvs)/\y=.ref b/\H b=some (.tup (k.map kV))/\r=valV kvs k
def DPut (H:Hp) (a:Addr) (y v:V) (H':Hp):Prop:=
 (∃ kvs k,H a=some (.dK kvs)/\y=kV k/\kvs.length < sizeLine/\H'=upd H a (.dK (putK kvs k v))) \/
 ∃ kvs k b,H a=some (.dT kvs)/\y=.ref b/\H b=some (.tup (k.map kV))/\kvs.length < sizeLine/\H'=upd H a (.dT (putK kvs k v))
theorem DGet.k {H:Hp} {a:Addr} {kvs:List (Key × V)} {k:Key} (e:H a=some (.dK kvs)):DGet H a (kV k) (valV kvs k):=.inl ⟨kvs,k,.inl e,rfl,rfl⟩
theorem DGet.t {H:Hp} {a b:Addr} {kvs:List (List Key × V)} {k:List Key} (e:H a=some (.dT kvs)) (eb:H b=some (.tup (k.map kV))):DGet H a (.ref b) (valV kvs k):=.inr ⟨kvs,k,b,.inl e,rfl,eb,rfl⟩
theorem DPut.t {H:Hp} {a b:Addr} {kvs:List (List Key × V)} {k:List Key} {v:V} (e:H a=some (.dT kvs)) (eb:H b=some (.tup (k.map kV))) (hl:kvs.length < sizeLine):
  DPut H a (.ref b) v (upd H a (.dT (putK kvs k v))):=.inr ⟨kvs,k,b,e,rfl,eb,hl,rfl⟩
section
variable {X:Cx} {pins:List (Addr × Obj)} {σ:St} {H:Hp} {s:Shared} {a:Addr} {y v:V} {u r:Value} {o:Option V} {A:Around} {E:Value->Shared->Prop}
theorem Inv.big (I:Inv X pins σ H s):sysModules < s.heap.objs.size:=by
 have h:mainGlobals < s.heap.objs.size:=(I.mod.glob.keeps I.bk).lt;exact Nat.lt_trans (by decide) h
theorem qu {Q:Value->Shared->Prop} (hu:A.units+1 < cLine) (I:Inv X pins σ H s) (g:DGet H a y (some v)) (ry:RelV y u) (h:∀ w' s',Inv X pins σ H s'->RelV v w'->Q w' s'):
  wpAny (model X.prog X.w) A (getItem (.ref a) u) Q E s:=by
 rcases g with ⟨kvs,k,e,ey,l⟩ | ⟨kvs,k,b,e,ey,eb,l⟩
 ·subst ey;obtain ⟨z,hd,vs,rel,dd⟩:=nH I.hok e;obtain ⟨w',hw,rw'⟩:=RelO.some_of (v:=v) (o:=valueAt vs k) (by rw [l]; exact rel.val k);exact wpAny_getItem_of (lu ry) dd.mapOf hw (h w' _ (I.tok _) rw')
 ·subst ey;cases (show u=Value.ref b from ry);obtain ⟨z,hd,xs,rel,dd⟩:=nA I.hok e;obtain ⟨w',hw,rw'⟩:=RelO.some_of (v:=v) (o:=(atKey xs k).map (·.2)) (by rw [l]; exact rel.val k);obtain ⟨p,hp,hp2⟩:=Option.map_eq_some_iff.mp hw;refine wpAny_getItem_heap (tupleKind_room_in1 hu) (jD I.hok eb) dd hp ?_;rw [hp2];exact h w' _ (I.tok _) rw'
theorem xB {Q:Value->Shared->Prop} (hu:A.units+1 < cLine) (I:Inv X pins σ H s) (g:DGet H a y o) (ry:RelV y u) (h:∀ s',Inv X pins σ H s'->Q (.bool o.isSome) s'):
  wpAny (model X.prog X.w) A (compareOp .In u (.ref a)) Q E s:=by
 rcases g with ⟨kvs,k,e,ey,l⟩ | ⟨kvs,k,b,e,ey,eb,l⟩
 ·subst ey;obtain ⟨z,hd,vs,rel,dd⟩:=nH I.hok e;refine wpAny_in_of (lu ry) hd dd.mapOf ?_;rw [<- (rel.val k).isSome_eq,<- l];exact h _ (I.tok _)
 ·subst ey;cases (show u=Value.ref b from ry);obtain ⟨z,hd,xs,rel,dd⟩:=nA I.hok e;refine wpAny_in_heap (tupleKind_room_in1 hu) (jD I.hok eb) hd dd ?_;have q:=(rel.val k).isSome_eq;rw [Option.isSome_map] at q;rw [<- q,<- l];exact h _ (I.tok _)
theorem uL {Q:Value->Shared->Prop} (hu:A.units+1 < cLine) (I:Inv X pins σ H s) (g:DGet H a y o) (ry:RelV y u) (h:∀ s',Inv X pins σ H s'->Q (.bool (!o.isSome)) s'):
  wpAny (model X.prog X.w) A (compareOp .NotIn u (.ref a)) Q E s:=by
 rcases g with ⟨kvs,k,e,ey,l⟩ | ⟨kvs,k,b,e,ey,eb,l⟩
 ·subst ey;obtain ⟨z,hd,vs,rel,dd⟩:=nH I.hok e;refine wpAny_notIn_of (lu ry) hd dd.mapOf ?_;rw [<- (rel.val k).isSome_eq,<- l];exact h _ (I.tok _)
 ·subst ey;cases (show u=Value.ref b from ry);obtain ⟨z,hd,xs,rel,dd⟩:=nA I.hok e;refine wpAny_notIn_heap (tupleKind_room_in1 hu) (jD I.hok eb) hd dd ?_;have q:=(rel.val k).isSome_eq;rw [Option.isSome_map] at q;rw [<- q,<- l];exact h _ (I.tok _)
theorem oX {h':Heap} {t':Nat} {ob:HO} (I:Inv X pins σ H s) (mu:Mut (H a)) (hs:Heap.SameBut a s.heap h') (he:∃ q,h'.get? a=some q) (new:ObjOk X.prog X.w (upd H a ob) h' a ob) (ht:0 < t':=by first | assumption | exact Nat.succ_pos _ | (apply Inv.tk; assumption) | omega):
  Inv X pins σ (upd H a ob) { s with heap:=h',toks:=t' }:=
 I.write (x:=a) (e:=a) mu (.inl rfl) (fun b q hb z=>(hs.2 b hb).trans z) he new
theorem q5 {P:Program} {w:World} {H':Hp} {h':Heap} {kvs:List (Key × V)} {vs:List (Key × Value)} (z:kvs.length<=sizeLine) (hd:(a == sysModules)=false) (rel:KV kvs vs) (dd:h'.DictOf (mixKind P w) a vs):
  ObjOk P w H' h' a (.dK kvs):=⟨z,hd,vs,rel,dd⟩
theorem qj {H':Hp} {Q:Unit->Shared->Prop} (hu:A.units+1 < cLine) (I:Inv X pins σ H s) (g:DPut H a y v H') (ry:RelV y u) (rv:RelV v r) (h:∀ s',Inv X pins σ H' s'->Q () s'):
  wpAny (model X.prog X.w) A (setItem (.ref a) u r) Q E s:=by
 rcases g with ⟨kvs,k,e,ey,l,eH⟩ | ⟨kvs,k,b,e,ey,eb,l,eH⟩
 ·subst ey eH;obtain ⟨z,hd,vs,rel,dd⟩:=xi I.hok e;have hz:vs.length<=sizeLine:=by rw [<- rel.length]; exact z
  have hl:(putK kvs k v).length<=sizeLine:=by have:=cR kvs k v; omega
  refine wpAny_setItem_pairs (hsz:=hz) (lu ry) dd fun h' dd' hs=>h _ ?_
  have he:∃ q,h'.get? a=some q:=let ⟨q,_,_,hq,_⟩:=dd'; ⟨q,hq⟩
  exact oX I (by rw [e]; exact True.intro) hs he (q5 hl hd (rel.put k rv) dd')
 ·subst ey eH;cases (show u=Value.ref b from ry);obtain ⟨z,hd,xs,rel,dd⟩:=vh I.hok e;have hz:xs.length<=sizeLine:=by rw [<- Paired.length rel]; exact z
  have hl:(putK kvs k v).length<=sizeLine:=by have:=cR kvs k v; omega
  refine wpAny_setItem_heap (hsz:=hz) (tupleKind_room_in1 hu) (jD I.hok eb) dd fun h' dd' hs=>h _ ?_
  obtain ⟨q,es,ep,hq,h2,h3,h4,_,h5⟩:=dd';refine oX I (by rw [e]; exact True.intro) hs ⟨q,hq⟩ ⟨hl,hd,_,(rel.put k eb rv).keeps fun c ys ec=>?_,q,es,ep,hq,h2,h3,h4,h5⟩;rw [aA (wV ec e (fun z=>nomatch z))];exact ec
end
section
variable {X:Cx} {pins:List (Addr × Obj)} {σ:St} {H:Hp} {s:Shared} {a:Addr} {kvs:List (Key × V)} {k:Key} {u:Value} {A:Around} {E:Value->Shared->Prop}
end
def NoSl (i:Expr):Prop:=∀ ov iv,subscripted i false ov iv=operate [ov,iv] (getItem ov iv)
theorem uZ {prog:Program} {w:World} {A:Around} {E:Value->Shared->Prop} {s:Shared} {env:Env} {value slice:Expr} {pos:Pos} {T id:String} {Q:Value->Shared->Prop}
  (hl:typeLookup (.type T) "__getitem__" = pure (some (.builtin id))) (hs:NoSl slice)
  (h:wpAny (model prog w) A (eval value env) (fun o s₁=>wpAny (model prog w) A (eval slice env) (fun i s₂=>s₂.TypeIs o T/\wpAny (model prog w) A (getItem o i) Q E s₂) E s₁) E s):
  wpAny (model prog w) A (eval (.Subscript value slice pos) env) Q E s:=by
 refine Subscript_ (wpAny_mono h (fun o s₁ h₁=>wpAny_mono h₁ (fun i s₂ h₂=>?_) fun _ _ x=>x) fun _ _ x=>x);obtain ⟨hT,h₂⟩:=h₂;unfold subscriptTail;refine wpAny_bind ?_;rw [getitemInPython_of_ne hT.not_modules];refine wpAny_bind (wpAny_specialOf hT hl ?_);have fin:wpAny (model prog w) A (subscripted slice false o i) (fun r s₃=>wpAny (model prog w) A (letTemporaryGo value o r>>=fun _=>pure r) Q E s₃) E s₂:=by
  rw [hs o i];exact wpAny_operating (wpAny_mono h₂ (fun r s₃ h₃=>wpAny_bind (wpAny_letTemporaryGo (wpAny_pure h₃))) fun _ _ x=>x)
 first
  | exact wpAny_pure (wpAny_bind fin)
  | exact wpAny_bind (wpAny_pure (wpAny_bind fin))
  | exact wpAny_bind fin
theorem mR {X:Cx} {pins:List (Addr × Obj)} {σ:St} {H:Hp} {s:Shared} {a:Addr} {y:V} {o:Option V} (I:Inv X pins σ H s) (g:DGet H a y o):s.TypeIs (.ref a) "dict" := by
 rcases g with ⟨kvs,k,e,_,_⟩ | ⟨kvs,k,b,e,_,_,_⟩
 ·obtain ⟨_,_,vs,_,dd⟩:=nH I.hok e;exact dd.typeIs
 ·obtain ⟨_,_,xs,_,dd⟩:=nA I.hok e;exact dd.typeIs
noncomputable def tDGet (td ty:TE):TE:=fun σ H Q=>td σ H fun x H1=>ty σ H1 fun y H2=>∃ a v,x=.ref a/\DGet H2 a y (some v)/\Q v H2
noncomputable def tDIn (ty td:TE):TE:=fun σ H Q=>ty σ H fun y H1=>td σ H1 fun x H2=>∃ a o,x=.ref a/\DGet H2 a y o/\Q (.bl o.isSome) H2
noncomputable def tDNotIn (ty td:TE):TE:=fun σ H Q=>ty σ H fun y H1=>td σ H1 fun x H2=>∃ a o,x=.ref a/\DGet H2 a y o/\Q (.bl (!o.isSome)) H2
noncomputable def sDPut (td ty tv:TE):TS:=fun D σ H=>tv σ H fun v H1=>td σ H1 fun x H2=>ty σ H2 fun y H3=>∃ a H4,x=.ref a/\DPut H3 a y v H4/\D.nx σ H4
section
variable {X:Cx} {o i e value:Expr} {pos pos' tpos:Pos} {td ty tv:TE}
theorem tm (hu:X.A.units+1 < cLine) (ho:PE X o td) (hi:PE X i ty) (hs:NoSl i):PE X (.Subscript o i pos) (tDGet td ty):=by
 intro pins s σ H Q I h;refine uZ PySem.F.slot_dict_getitem.lookup hs (thn (ho pins s σ H _ I h) fun u s1 ⟨x,H1,I1,rx,q1⟩=>thn (hi pins s1 σ H1 _ I1 q1) fun iv s2 ⟨y,H2,I2,ry,a,v,ex,g,q2⟩=>?_);subst ex;obtain rfl:u=Value.ref a:=rx;exact ⟨mR I2 g,qu hu I2 g ry fun w' s3 I3 rw'=>⟨v,H2,I3,rw',q2⟩⟩
theorem wg (hu:X.A.units+1 < cLine) (hi:PE X i ty) (ho:PE X o td):PC X .In i o (tDIn ty td):=by
 intro pins s σ H Q I h;refine thn (hi pins s σ H _ I h) fun iv s1 ⟨y,H1,I1,ry,q1⟩=>thn (ho pins s1 σ H1 _ I1 q1) fun u s2 ⟨x,H2,I2,rx,a,ov,ex,g,q2⟩=>?_
 subst ex;obtain rfl:u=Value.ref a:=rx;exact xB hu I2 g ry fun s3 I3=>⟨.bl ov.isSome,H2,I3,rfl,q2⟩
theorem qD (hu:X.A.units+1 < cLine) (hi:PE X i ty) (ho:PE X o td):PC X .NotIn i o (tDNotIn ty td):=by
 intro pins s σ H Q I h;refine thn (hi pins s σ H _ I h) fun iv s1 ⟨y,H1,I1,ry,q1⟩=>thn (ho pins s1 σ H1 _ I1 q1) fun u s2 ⟨x,H2,I2,rx,a,ov,ex,g,q2⟩=>?_
 subst ex;obtain rfl:u=Value.ref a:=rx;exact uL hu I2 g ry fun s3 I3=>⟨.bl (!ov.isSome),H2,I3,rfl,q2⟩
theorem tH (hu:X.A.units+1 < cLine) (ho:PE X o td) (hi:PE X i ty) (hv:PE X value tv) (hs:swapsWith value (some (.Subscript o i pos')) pos.line X.env=pure false):
  PS X (.Assign [.Subscript o i pos'] value pos) (sDPut td ty tv):=by
 intro pins s σ H D I h;refine wpAny_Assign_Subscript (thn (hv pins s σ H _ I h) fun r s1 ⟨v,H1,I1,rv,q1⟩=>thn (ho pins s1 σ H1 _ I1 q1) fun u s2 ⟨x,H2,I2,rx,q2⟩=>thn (hi pins s2 σ H2 _ I2 q2) fun iv s3 ⟨y,H3,I3,ry,a,H4,ex,g,q3⟩=>?_) hs;subst ex;obtain rfl:u=Value.ref a:=rx;exact qj hu I3 g ry rv fun s4 I4=>⟨σ,H4,I4,q3⟩
end
theorem rZ {P:Program} {w:World} {H:Hp} (h:Heap) (hb:sysModules < h.objs.size):ObjOk P w H (h.push { cls:=.type "dict",data:=.dict #[] }) h.objs.size (.dT []):=
 ⟨Nat.zero_le _,beq_eq_false_iff_ne.mpr (Ne.symm (Nat.ne_of_lt hb)),[],.nil,_,#[],0,Heap.get?_push_size _ rfl,⟨rfl,rfl,rfl⟩,rfl,rfl,List.nodup_nil⟩
noncomputable def tDNewT:TE:=fun _ H Q=>∀ p,H p=none->Q (.ref p) (upd H p (.dT []))
section
variable {X:Cx} {pos:Pos}
theorem nE:PE X (.Dict [] [] pos) tDNewT:=fun pins s σ H Q I h=>
 wpAny_Dict_empty ⟨.ref s.heap.objs.size,_,I.laid (a:=s.heap.objs.size) (o:=.dT []) (t':=s.toks) (fun _ _ q=>Heap.get?_push_of_some _ q) (Nat.le_refl _) (rZ s.heap I.big),rfl,h _ (I.hok.fresh (Nat.le_refl _))⟩
end
section
variable {X:Cx} {pins:List (Addr × Obj)} {σ:St} {H:Hp} {s:Shared} {a:Addr} {y d:V} {u r:Value} {o:Option V} {A:Around} {E:Value->Shared->Prop}
end
section
variable {X:Cx} {o e f:Expr} {apos cpos:Pos} {td ty tx:TE}
end
section
variable {X:Cx} {pins:List (Addr × Obj)} {σ:St} {H:Hp} {s:Shared} {a:Addr} {kvs:List (Key × V)} {A:Around} {E:Value->Shared->Prop}
end
section
variable {X:Cx} {pins:List (Addr × Obj)} {σ:St} {H:Hp} {s:Shared} {a:Addr} {y:V} {u:Value} {A:Around} {E:Value->Shared->Prop}
end
section
variable {X:Cx}
end
section
variable {κ:Type} [DecidableEq κ]
end
section
variable {X:Cx} {o i e value:Expr} {pos pos' apos cpos:Pos} {td ty tv ta:TE}
noncomputable def cDGet (td ty:TE):TE:=fun σ H Q=>td σ H fun x H1=>ty σ H1 fun y H2=>match x with
 | .ref a=>∃ v,DGet H2 a y (some v)/\Q v H2
 | _=>False
theorem o0 (hu:X.A.units+1 < cLine) (ho:PE X o td) (hi:PE X i ty) (hs:NoSl i):PE X (.Subscript o i pos) (cDGet td ty):=
 (tm hu ho.mono hi.mono hs).imp fun σ H Q q=>⟨_,q,fun x H1 z=>⟨_,z,fun y H2 z=>by
  split at z
  ·obtain ⟨v,g,q⟩:=z;exact ⟨_,v,rfl,g,q⟩
  ·exact z.elim⟩⟩
noncomputable def cDIn (neg:Bool) (ty td:TE):TE:=fun σ H Q=>ty σ H fun y H1=>td σ H1 fun x H2=>match x with
 | .ref a=>∃ v,DGet H2 a y v/\Q (.bl (neg ^^ v.isSome)) H2
 | _=>False
theorem wF (hu:X.A.units+1 < cLine) (hi:PE X i ty) (ho:PE X o td) (h1:behindInMarks .In o=false:=by rfl):PT X (.Compare i [.In] [o] pos) (cTest (cDIn false ty td)):=
 (sB (wg hu hi.mono ho.mono) h1).imp fun σ H Q q=>⟨_,q,fun y H1 z=>⟨_,z,fun x H2 z=>by
  split at z
  ·obtain ⟨v,g,q⟩:=z;exact ⟨_,v,rfl,g,hJ (by simpa using q)⟩
  ·exact z.elim⟩⟩
theorem qq (hu:X.A.units+1 < cLine) (hi:PE X i ty) (ho:PE X o td) (h1:behindInMarks .NotIn o=false:=by rfl):PT X (.Compare i [.NotIn] [o] pos) (cTest (cDIn true ty td)):=
 (sB (qD hu hi.mono ho.mono) h1).imp fun σ H Q q=>⟨_,q,fun y H1 z=>⟨_,z,fun x H2 z=>by
  split at z
  ·obtain ⟨v,g,q⟩:=z;exact ⟨_,v,rfl,g,hJ (by simpa using q)⟩
  ·exact z.elim⟩⟩
noncomputable def cDPut (td ty tv:TE):TS:=fun D σ H=>tv σ H fun v H1=>td σ H1 fun x H2=>ty σ H2 fun y H3=>match x with
 | .ref a=>∃ H4,DPut H3 a y v H4/\D.nx σ H4
 | _=>False
theorem lT (hu:X.A.units+1 < cLine) (ho:PE X o td) (hi:PE X i ty) (hv:PE X value tv) (hs:swapsWith value (some (.Subscript o i pos')) pos.line X.env=pure false:=by rfl):
  PS X (.Assign [.Subscript o i pos'] value pos) (cDPut td ty tv):=fun pins s σ H D I h=>
 tH hu ho.mono hi.mono hv.mono hs pins s σ H D I ⟨_,h,fun v H1 z=>⟨_,z,fun x H2 z=>⟨_,z,fun y H3 z=>by
  split at z
  ·obtain ⟨H4,g,q⟩:=z;exact ⟨_,H4,rfl,g,q⟩
  ·exact z.elim⟩⟩⟩
theorem uP {σ:St} {H:Hp} {Q:VK}:cDGet td ty σ H Q=td σ H fun x H1=>ty σ H1 fun y H2=>match x with
 | .ref a=>∃ v,DGet H2 a y (some v)/\Q v H2
 | _=>False:=rfl
theorem wC {neg:Bool} {σ:St} {H:Hp} {Q:VK}:cDIn neg ty td σ H Q=ty σ H fun y H1=>td σ H1 fun x H2=>match x with
 | .ref a=>∃ v,DGet H2 a y v/\Q (.bl (neg ^^ v.isSome)) H2
 | _=>False:=rfl
theorem uz {D:Ends} {σ:St} {H:Hp}:cDPut td ty tv D σ H=tv σ H fun v H1=>td σ H1 fun x H2=>ty σ H2 fun y H3=>match x with
 | .ref a=>∃ H4,DPut H3 a y v H4/\D.nx σ H4
 | _=>False:=rfl
theorem tt {σ:St} {H:Hp} {Q:VK}:tDNewT σ H Q=∀ p,H p=none->Q (.ref p) (upd H p (.dT [])):=rfl
end
theorem m8 {ts:List Str} {b:Nat} (h:∀ t ∈ ts,t.length<=b):piled ts<=(b+2)*ts.length:=by
 induction ts with
 | nil=>simp [piled]
 | cons t r ih=>
  rw [piled_cons,List.length_cons,Nat.mul_succ];have:=ih fun x hx=>h x (List.mem_cons_of_mem _ hx)
  have:=h t List.mem_cons_self;omega
theorem iI:∀ (ts:List Str) (k:Nat) (acc:Str),(textFrom k acc ts).length<=acc.length+piled ts
 | [],k,acc=>by simp [textFrom,piled]
 | t::ts,k,acc=>by
  rw [textFrom,piled_cons];have:=iI ts (k+1) (acc++(if k > 0 then ", " else "" : String)++t);have e:(acc++(if k > 0 then ", " else "" : String)++t).length<=acc.length+2+t.length:=by
   rw [strLen_append,strLen_append];split
   ·exact Nat.le_refl _
   ·show acc.length+0+t.length<=_; omega
  omega
theorem nr {ts:List Str} {b:Nat} (h:∀ t ∈ ts,t.length<=b):(listText ts).length<=(b+2)*ts.length+2:=by
 unfold listText;rw [strLen_append];have h1:=iI ts 0 "[";have h2:=m8 h;have e1:("[" : Str).length=1:=rfl;have e2:("]" : Str).length=1:=rfl;omega
theorem lx {ts:List Str} {b:Nat} (h:∀ t ∈ ts,t.length<=b):(tupleText ts).length<=(b+2)*ts.length+3:=by
 unfold tupleText;rw [strLen_append,strLen_append];have h2:=m8 h;have e1:("(" : Str).length=1:=rfl;have e3:((if ts.length == 1 then ",)" else ")" : String):Str).length<=2:=by split <;> decide
 by_cases hn:ts=[]
 ·subst hn;have:(Str.join ", " ([]:List Str)).length=0:=rfl;omega
 ·have:=join_length_add ts hn;omega
section
variable {X:Cx} {e:Expr} {te:TE} {pos:Pos}
def Few (ls:List (List Nat)):Prop:=ls.length<=100/\∀ l ∈ ls,l.length<=100/\∀ c ∈ l,c < 16 ^ 8
noncomputable def cFmtA (tv:TE):TE:=fun σ H Q=>tv σ H fun x H1=>match x with
 | .non=>∀ z:Str,z.length<=200000->Q (.str z) H1
 | .bl _=>∀ z:Str,z.length<=200000->Q (.str z) H1
 | .int i=>(i=0\/i=10)/\∀ z:Str,z.length<=200000->Q (.str z) H1
 | .str y=>(∀ c ∈ y.cps.toList,c < 16 ^ 8)/\y.length<=10000/\∀ z:Str,z.length<=200000->Q (.str z) H1
 | .ref p=>∃ ls,Few ls/\(H1 p=some (.lst (ls.map fun l=>V.str (st l)))\/H1 p=some (.tup (ls.map fun l=>V.str (st l))))/\∀ z:Str,z.length<=200000->Q (.str z) H1
 | _=>False
theorem su {ls:List (List Nat)} (h:Few ls):∀ t ∈ ls.map fun l=>reprText (st l),t.length<=1002:=fun t ht=>by
 obtain ⟨l,hl,rfl⟩:=List.mem_map.mp ht;obtain ⟨h1,h2⟩:=h.2 l hl;have:=PySem.StrLaws.reprText_len (st l) (by rw [al]; exact h2);have e:(st l).length=l.length:=by simp [Str.length]
 omega
theorem jp:∀ {ls:List (List Nat)} {us:List Value},Vals (ls.map fun l=>V.str (st l)) us->∃ _:List Nat,us.length=ls.length/\∀ (i:Nat) u,us[i]? = some u->∃ l t,ls[i]? = some l/\u=Value.str (st l) t
 | [],_,.nil=>⟨[],rfl,fun i u h=>by simp at h⟩
 | l::ls,_,.cons r t=>by
  obtain ⟨ts,h1,h2⟩:=jp t;obtain ⟨tk,rfl⟩:=r;refine ⟨[],by rw [List.length_cons,List.length_cons,h1],fun i u h=>?_⟩;cases i with
  | zero=>simp only [List.getElem?_cons_zero,Option.some.injEq] at h; exact ⟨l,tk,rfl,h.symm⟩
  | succ i=>rw [List.getElem?_cons_succ] at h; exact h2 i u h
theorem tW (hgd:X.A.guards=some []) (hu:X.A.units < cLine) (hv:PE X e te):PE X (.FormattedValue e 114 none pos) (cFmtA te):=by
 intro pins s σ H Q I q;refine wpAny_FormattedValue_repr (thn (hv pins s σ H _ I q) fun u s1 ⟨x,H1,I1,r,z⟩=>?_);dsimp only at z;have fin:∀ (y:Str) (h':Heap) (tk:Nat),0 < tk->(∀ b o,s1.heap.get? b=some o->h'.get? b=some o)->y.length<=200000->(∀ z:Str,z.length<=200000->Q (.str z) H1)->∀ u,wpAny (model X.prog X.w) X.A (formatField (.str y u) Str.empty) (EP X pins σ Q) X.xe { s1 with heap:=h',toks:=tk }:=
  fun y h' tk htk kp hy z u=>tokQ htk (formatField_str (fun t' tk' (htk':0 < tk')=>⟨.str y,H1,I1.kept kp,⟨_,rfl⟩,z y hy⟩) (Nat.le_trans hy (by decide)))
 have same:∀ b o,s1.heap.get? b=some o->s1.heap.get? b=some o:=fun _ _ e=>e
 split at z
 ·cases r;exact pyReprObj_none (fin _ s1.heap _ (Nat.succ_pos _) same (by decide) z _)
 ·rename_i b;cases r;exact pyReprObj_bool (fin _ s1.heap _ (Nat.succ_pos _) same (by cases b <;> decide) z _)
 ·rename_i i;obtain ⟨t,rfl⟩:=r;obtain ⟨hi,z⟩:=z;refine pyReprObj_int (by rcases hi with rfl | rfl <;> decide) (fin _ s1.heap _ (Nat.succ_pos _) same ?_ z _);rcases hi with rfl | rfl <;> decide
 ·rename_i y;obtain ⟨t,rfl⟩:=r;obtain ⟨h1,h2,z⟩:=z;have hl:=PySem.StrLaws.reprText_len y h1;exact wpAny_pyReprObj_str (fin _ s1.heap _ (Nat.succ_pos _) same (by omega) z _) (Nat.le_trans (by omega:(reprText y).length<=200000) (by decide))
 ·rename_i p;cases r;obtain ⟨ls,hf,hp,z⟩:=z;have hb:=su hf;have hmul:(1002+2)*(ls.map fun l=>reprText (st l)).length+3<=200000:=by
   rw [List.length_map];have:=hf.1;omega
  rcases hp with hp | hp
  ·obtain ⟨_,its,n,rv,ho⟩:=I1.hok p _ hp;obtain ⟨_,hlen,hat⟩:=jp rv;have hsz:(listText (ls.map fun l=>reprText (st l))).length<=200000:=by have:=nr hb; omega
   cases its with
   | nil=>
    have e:ls=[]:=by cases ls with | nil=>rfl | cons _ _=>simp at hlen
    exact wpAny_pyReprObj_list_empty (s:=s1) ⟨_,ho,rfl⟩ hu ho rfl (fin _ s1.heap _ (Nat.succ_pos _) same (by decide) z _)
   | cons v vs=>
    refine tokQ I1.tk (wpAny_pyReprObj_list (s:=s1) (ts:=ls.map fun l=>reprText (st l)) ⟨_,ho,rfl⟩ hgd (fun _ _ _ hm=>by cases hm) hu ho rfl (by simp only [List.length_map,List.size_toArray]; exact hlen.symm) (fun i y hy=>?_) (fun h' u tk kp (htk:0 < tk)=>fin _ h' tk htk kp hsz z u) (Nat.le_trans hsz (by decide)));rw [List.getElem?_toArray] at hy;obtain ⟨l,t,hl,rfl⟩:=hat i y hy;have hlb:=hb _ (List.mem_map.mpr ⟨l,List.mem_of_getElem? hl,rfl⟩);exact ⟨reprText (st l),by rw [List.getElem?_map,hl]; rfl,ReprIs.str (st l) t (Nat.le_trans hlb (by decide))⟩
  ·obtain ⟨_,its,rv,o,ho,hoc,n,hod⟩:=I1.hok p _ hp;obtain ⟨_,hlen,hat⟩:=jp rv;have hsz:(tupleText (ls.map fun l=>reprText (st l))).length<=200000:=by have:=lx hb; omega
   have all:∀ (ls:List (List Nat)) (us:List Value),us.length=ls.length->(∀ (i:Nat) u,us[i]? = some u->∃ l t,ls[i]? = some l/\u=Value.str (st l) t)->(∀ l ∈ ls,(reprText (st l)).length<=1002)->ReprAll X.prog X.w us (ls.map fun l=>reprText (st l)):=by
    intro ls
    induction ls with
    | nil=>intro us h1 _ _; cases us with | nil=>exact .nil | cons _ _=>simp at h1
    | cons l ls ih=>
     intro us h1 h2 h3;cases us with
     | nil=>simp at h1
     | cons u us=>
      obtain ⟨l',t,e1,rfl⟩:=h2 0 u rfl;cases e1;exact .cons (ReprIs.str (st l) t (Nat.le_trans (h3 l List.mem_cons_self) (by decide))) (ih us (by simpa using h1) (fun i u hu=>h2 (i+1) u (by simpa using hu)) fun x hx=>h3 x (List.mem_cons_of_mem _ hx))
   refine tokQ I1.tk (wpAny_pyReprObj_tuple (s:=s1) (ts:=ls.map fun l=>reprText (st l)) ⟨_,ho,hoc⟩ hgd (fun _ hm=>by cases hm) hu ho hod (all ls its hlen hat fun l hl=>hb _ (List.mem_map.mpr ⟨l,hl,rfl⟩)) (fun u tk (htk:0 < tk)=>fin _ s1.heap tk htk same hsz z u) (Nat.le_trans hsz (by decide)))
 ·exact z.elim
end
section
variable {X:Cx}
variable {o e f:Expr} {to te tf:TE} {apos cpos:Pos}
theorem uN {tv:TE} {σ:St} {H:Hp} {Q:VK}:cFmtA tv σ H Q=tv σ H fun x H1=>match x with
 | .non=>∀ z:Str,z.length<=200000->Q (.str z) H1
 | .bl _=>∀ z:Str,z.length<=200000->Q (.str z) H1
 | .int i=>(i=0\/i=10)/\∀ z:Str,z.length<=200000->Q (.str z) H1
 | .str y=>(∀ c ∈ y.cps.toList,c < 16 ^ 8)/\y.length<=10000/\∀ z:Str,z.length<=200000->Q (.str z) H1
 | .ref p=>∃ ls,Few ls/\(H1 p=some (.lst (ls.map fun l=>V.str (st l)))\/H1 p=some (.tup (ls.map fun l=>V.str (st l))))/\∀ z:Str,z.length<=200000->Q (.str z) H1
 | _=>False:=rfl
end
section
variable {X:Cx} {e:Expr} {te:TE} {apos cpos:Pos}
end
section
variable {X:Cx}
end
section
variable {X:Cx} {pins:List (Addr × Obj)} {σ:St} {H:Hp} {s:Shared} {a:Addr} {y v:V} {u r:Value} {A:Around} {E:Value->Shared->Prop}
end
section
variable {X:Cx} {o e f:Expr} {apos cpos:Pos} {td ty tx:TE}
end
section
variable {X:Cx} {o:Expr} {to:TE} {apos cpos:Pos}
end
section
variable {X:Cx}
end
section
variable {K:Frag} {g:TG} {tc:TT} {te:TE} {σc:St} {D:Addr} {Q:VK} {H:Hp} {td ty:TE}
end
section
variable {K:Frag} {J:It} {g:TG} {tc:TT} {te:TE} {σc:St} {D:Addr} {Q:VK} {H:Hp}
theorem mT {α:Type} (xs:List α) (keep:α -> Bool) (R:α -> V->Hp->Prop) (hfree:H D=none) (hn:xs.length<=100000) (hgo:∀ i H1,i < xs.length->Same H H1->J.go i H1) (hst:∀ H1,Same H H1->J.stop xs.length H1)
  (hy:∀ i H1 v H2,i < xs.length->J.yld i H1 v H2->Same H1 H2)
  (mono:∀ x v H1 H2 acc,H1 D=some (.lst acc)->(∀ b o,b≠D->H1 b=some o->H2 b=some o)->R x v H1->R x v H2)
  (hs:∀ i x v H1 H2 (out:VK) (non:Hp->Prop),xs[i]? = some x->Same H H1->J.yld i H1 v H2->(∀ v H6,keep x=true->Same H2 H6->R x v H6->out v H6)->(∀ H5,keep x=false->Same H2 H5->non H5) ->
   g v σc H2 fun σ4 H4=>tc σ4 H4 fun b H5=>if b=true then te σ4 H5 out else non H5)
  (hq:∀ H' vs,Same H H'->H' D=some (.lst vs)->Paired (fun x v=>R x v H') (xs.filter keep) vs->Q (.ref D) H'):compW J g tc te σc D Q H:=by
 refine ⟨fun i m acc H2=>m=xs.length - i/\i<=xs.length/\Paired (fun x v=>R x v H2) ((xs.take i).filter keep) acc/\Same H H2/\H2 D=some (.lst acc),⟨xs.length,by simp,Nat.zero_le _,.nil,ag hfree _,upd_same⟩,?_⟩;rintro i m acc H2 ⟨rfl,hi,pr,sm,hD⟩;have len:acc.length<=i:=by
  have a:=pr.length;have b:=List.length_filter_le keep (xs.take i);rw [List.length_take] at b;omega
 by_cases hlt:i < xs.length
 ·refine .inr ⟨hgo i H2 hlt sm,fun x H3 y=>?_⟩;have s3:=hy i H2 x H3 hlt y;have ht:xs.take (i+1)=xs.take i++[xs[i]]:=by rw [List.take_add_one,List.getElem?_eq_getElem hlt]; rfl
  have hD3:=s3 _ _ hD;refine hs i xs[i] x _ _ _ _ (List.getElem?_eq_getElem hlt) sm y (fun v H6 k s6 r=>?_) fun H5 k s5=>?_
  ·refine ⟨s6 _ _ hD3,Nat.lt_of_le_of_lt len (sizeBig (by omega)),xs.length - (i+1),by omega,rfl,hlt,?_,?_,upd_same⟩
   ·have m1:∀ x v,R x v H6->R x v (upd H6 D (.lst (acc++[v]))):=fun x v r=>mono x v H6 _ acc (s6 _ _ hD3) (fun b o nb q=>by rw [aA nb]; exact q) r
    rw [ht,List.filter_append];have f1:[xs[i]].filter keep=[xs[i]]:=by simp [k]
    rw [f1];have lift:∀ {l:List α} {vs:List V},Paired (fun x v=>R x v H2) l vs->Paired (fun x v'=>R x v' (upd H6 D (.lst (acc++[v])))) l vs:=by
     intro l vs pp
     induction pp with
     | nil=>exact .nil
     | cons r _ ih=>exact .cons (mono _ _ H2 _ acc hD (fun b o nb q=>by rw [aA nb]; exact s6 _ _ (s3 _ _ q)) r) ih
    have app:∀ {l:List α} {vs:List V} {x:α} {v':V} {F:α -> V->Prop},Paired F l vs->F x v'->Paired F (l++[x]) (vs++[v']):=by
     intro l vs x v' F pp r
     induction pp with
     | nil=>exact .cons r .nil
     | cons r' _ ih=>exact .cons r' ih
    exact app (lift pr) (m1 _ _ r)
   ·exact aW (sm.trans (s3.trans s6)) hfree
  ·refine ⟨xs.length - (i+1),by omega,rfl,hlt,?_,sm.trans (s3.trans s5),s5 _ _ hD3⟩;rw [ht,List.filter_append];have f1:[xs[i]].filter keep=[]:=by simp [k]
   rw [f1,List.append_nil];have lift:∀ {l:List α} {vs:List V},Paired (fun x v=>R x v H2) l vs->Paired (fun x v'=>R x v' H5) l vs:=by
    intro l vs pp
    induction pp with
    | nil=>exact .nil
    | cons r _ ih=>exact .cons (mono _ _ H2 _ acc hD (fun b o _ q=>s5 _ _ (s3 _ _ q)) r) ih
   exact lift pr
 ·have e:i=xs.length:=by omega
  subst e;rw [List.take_length] at pr;exact .inl ⟨hst H2 sm,hq H2 acc sm hD pr⟩
end
section
variable {X:Cx} {e:Expr} {te:TE} {pos:Pos}
theorem js (xs:List V) (n:Nat) (h:n<=xs.length):cutV xs (some (n:Int)) none=xs.drop n:=by
 unfold cutV;have e1:HT.sIx xs.length 0 (some (n:Int))=n:=by
  simp only [HT.sIx];rw [if_neg (by omega)];omega
 have e2:HT.sIx xs.length xs.length none=xs.length:=by simp [HT.sIx]
 rw [e1,e2];rw [List.take_of_length_le (by rw [List.length_drop]; omega)]
end
section
variable {X:Cx} {o e:Expr} {to te:TE} {apos cpos:Pos}
noncomputable def cPopAt (to te:TE):TE:=fun σ H Q=>to σ H fun x H1=>match x with
 | .ref l=>(∃ xs,H1 l=some (.lst xs))/\te σ H1 fun y H2=>match y with
  | .int i=>∃ (xs:List V) (k:Nat) (v:V),i=(k:Int)/\H2 l=some (.lst xs)/\xs.length<=100000/\xs[k]? = some v/\Q v (upd H2 l (.lst (xs.eraseIdx k)))
  | _=>False
 | _=>False
theorem rR (ho:PE X o to) (he:PE X e te) (hbase:attributeBase o "pop" X.env (eval o X.env)=eval o X.env:=by rfl)
  (hfew:((backTo cpos (starEach [e] X.env)).all (fun x=>!x.1) && (backToKw cpos (keywordEach [] X.env)).all (fun x=>x.1.isSome) && decide ([e].length+([]:List Keyword).length+(if ([]:List Keyword).isEmpty then 0 else 1) < 30))=true:=by rfl)
  (hline:(apos.endLine == cpos.line)=true:=by rfl) (hs:starEach [e] X.env=(false,eval e X.env)::starEach [] X.env:=by rfl) (hplain:(backTo cpos (starEach [] X.env)).any (·.1)=false:=by rfl):
  PE X (.Call (.Attribute o "pop" apos) [e] [] cpos) (cPopAt to te):=
 (lb PySem.F.plainAttrs_list PySem.F.slot_list_pop PySem.F.type_list_pop rL ho.mono (aa he.mono ad hs) hbase hfew hline hs hplain).imp fun σ H Q q=>⟨_,q,fun x H1 z=>by
  split at z
  ·rename_i l;obtain ⟨⟨xs,h⟩,z⟩:=z;refine ⟨.inl ⟨rfl,_,SqL.of h⟩,_,z,fun y H2 z2=>?_⟩;split at z2
   ·obtain ⟨xs2,k,v,rfl,h2,h3,h4,z3⟩:=z2;have hk:k < xs2.length:=(List.getElem?_eq_some_iff.mp h4).1;exact ⟨l,xs2,k,k,v,rfl,rfl,h2,by omega,by omega,by unfold seqIndex?; simp; omega,h4,z3⟩
   ·exact z2.elim
  ·exact z.elim⟩
theorem re {σ:St} {H:Hp} {Q:VK}:cPopAt to te σ H Q=to σ H fun x H1=>match x with
 | .ref l=>(∃ xs,H1 l=some (.lst xs))/\te σ H1 fun y H2=>match y with
  | .int i=>∃ (xs:List V) (k:Nat) (v:V),i=(k:Int)/\H2 l=some (.lst xs)/\xs.length<=100000/\xs[k]? = some v/\Q v (upd H2 l (.lst (xs.eraseIdx k)))
  | _=>False
 | _=>False:=rfl
end
end L2
namespace L2
open PySem PySem.Spec PyProof.Rows PySem.W
end L2
namespace L2
open PySem PySem.Spec PyProof.Rows
section
variable {prog:Program} {w:World} {A:Around} {s:Shared} {E:Value->Shared->Prop}
end
section
variable {X:Cx} {pins:List (Addr × Obj)} {σ:St} {H:Hp} {s:Shared}
end
theorem bM {α β:Type} {R:α -> β -> Prop} {l l':List α} (p:l'.Perm l):∀ {m:List β},Paired R l m->∃ m':List β,m'.Perm m/\Paired R l' m':=by
 induction p with
 | nil=>exact fun {m} h=>⟨m,.refl _,h⟩
 | cons x _ ih=>
  intro m h;cases h with
  | cons a r=>
   obtain ⟨m',q1,q2⟩:=ih r;exact ⟨_::m',q1.cons _,.cons a q2⟩
 | swap x y l=>
  intro m h;cases h with
  | cons a r=>
   cases r with
   | cons b r=>exact ⟨_,.swap _ _ _,.cons b (.cons a r)⟩
 | trans _ _ ih1 ih2=>
  intro m h;obtain ⟨m1,q1,q2⟩:=ih2 h;obtain ⟨m2,q3,q4⟩:=ih1 q2;exact ⟨m2,q3.trans q1,q4⟩
theorem eR {α β:Type} {R:α -> β -> Prop}:∀ {l:List α} {m:List β},Paired R l m->∀ b ∈ m,∃ a ∈ l,R a b
 | _,_,.nil,b,h=>absurd h List.not_mem_nil
 | _,_,.cons q r,b,h=>by
  rcases List.mem_cons.mp h with e | h
  ·rw [e]; exact ⟨_,List.mem_cons_self ..,q⟩
  ·obtain ⟨a,h1,h2⟩:=eR r b h;exact ⟨a,List.mem_cons_of_mem _ h1,h2⟩
theorem b9 {key:V->Nat}:∀ {xs:List V} {vs:List Value},Vals xs vs->Paired (fun (p:Int × Value) x=>p.1=key x/\RelV x p.2) ((xs.map fun x=>(key x:Int)).zip vs) xs
 | _,_,.nil=>.nil
 | _,_,.cons a r=>.cons ⟨rfl,a⟩ (b9 r)
section
variable {X:Cx}
end
section
variable {X:Cx}
end
noncomputable def tupEq (H:Hp) (zs:List V) (y:V):Bool:=match y with
 | .ref t=>match H t with
  | some (.tup ys)=>eqDs (ys.map D.f) (zs.map D.f)
  | _=>false
 | _=>false
noncomputable def tupEqU (H:Hp) (zs:List V) (u:Value):Bool:=match u with
 | .ref t=>tupEq H zs (.ref t)
 | _=>false
def FlatT (H:Hp) (y:V):Prop:=∃ t ys,y=.ref t/\H t=some (.tup ys)/\ys.all flatV=true
theorem cF {K:Frag} {H:Hp}:∀ {ys:List V},ys.all flatV=true->Paired (Deep K H 0) ys (ys.map D.f)
 | [],_=>.nil
 | y::ys,h=>by
  rw [List.all_cons,Bool.and_eq_true] at h;exact .cons ⟨rfl,h.1⟩ (cF h.2)
theorem jr {H:Hp} {zs:List V}:∀ {xs:List V} {us:List Value},Vals xs us->(∀ y ∈ xs,FlatT H y)->us.any (tupEqU H zs)=xs.any (tupEq H zs)
 | _,_,.nil,_=>rfl
 | y::xs,u::us,.cons r t,f=>by
  obtain ⟨a,ys,rfl,_⟩:=f _ List.mem_cons_self;cases r;rw [List.any_cons,List.any_cons,jr t fun z hz=>f z (List.mem_cons_of_mem _ hz)];rfl
section
variable {X:Cx}
end
section
variable {X:Cx} {k:Nat} {x m:Str} {ps:List Str} {sp:Sp} {p pos apos:Pos} {e o:Expr} {es:List Expr} {ta:TE} {t:TA}
noncomputable def kTupL (K:Frag):List V->Hp->VK->Prop:=fun xs H Q=>match xs with
 | [.ref p]=>∃ ys,SqL K H p ys/\∀ l,H l=none->Q (.ref l) (upd H l (.tup ys))
 | _=>False
theorem qF (K:Frag) (hK:X.K=K):CallR X (.type "tuple") (kTupL K):=by
 subst hK;intro pins s σ H xs us Q I r q;unfold kTupL at q;split at q
 ·obtain ⟨ys,h,q⟩:=q;exact ky pins s σ H _ us Q I r ⟨_,ys,rfl,.inl ⟨h,q⟩⟩
 ·exact q.elim
theorem u6 {K:Frag} {p:Addr} {H:Hp} {Q:VK}:kTupL K [.ref p] H Q=∃ ys,SqL K H p ys/\∀ l,H l=none->Q (.ref l) (upd H l (.tup ys)):=rfl
end
section
variable {X:Cx}
noncomputable def kMin2:List V->Hp->VK->Prop:=fun xs H Q=>match xs with
 | [.int a,.int b]=>Q (.int (if b < a then b else a)) H
 | _=>False
theorem ou (hc:X.calm=true):CallR X (.builtin "min") kMin2:=by
 intro pins s σ H xs us Q I r q;unfold kMin2 at q;split at q
 ·exact pQ hc pins s σ H _ us Q I r ⟨_,_,rfl,q⟩
 ·exact q.elim
theorem tJ {a b:Int} {H:Hp} {Q:VK}:kMin2 [.int a,.int b] H Q=Q (.int (if b < a then b else a)) H:=rfl
end
section
variable {X:Cx} {a b c:Expr} {ta tb tc:TE} {pos:Pos}
theorem tV {te:TE} {σ:St} {H:Hp} {Q:Bool->Hp->Prop}:tTest te σ H Q=te σ H fun z H3=>∃ k,z=.bl k/\Q k H3:=rfl
end
section
variable {K:Frag} {α:Type} {xs:List α} {item:α -> V} {h:α -> List V} {H:Hp} {D:Addr} {σc:St} {Q:VK}
end
end L2
namespace L2
open PySem
section
variable {K:Frag} {h:Heap} {mg:Str->Option Value} {x m qual:Str} {C f:Addr} {fd:FuncData} {st:Stmt}
end
end L2
namespace L2
open PySem PySem.Spec PyProof.Rows
section
variable {X:Cx} {o e f:Expr} {to te tf:TE} {apos cpos:Pos}
noncomputable def insAt (xs:List V) (k:Nat) (y:V):List V:=xs.take k++y::xs.drop k
noncomputable def rInsert:V->List V->Hp->VK->Prop:=fun x vs H Q=>∃ (l:Addr) (xs:List V) (i:Int) (k:Nat) (y:V),x=.ref l/\vs=[.int i,y]/\i=(k:Int)/\H l=some (.lst xs)/\k<=xs.length/\xs.length < 100000/\Q .non (upd H l (.lst (insAt xs k y)))
theorem ue (l:List Value) (k:Nat) (y:Value):(l.toArray.extract 0 k).push y++l.toArray.extract k=(l.take k++y::l.drop k).toArray:=by
 apply Array.toList_inj.mp;have:(l.drop k).take (l.length - k)=l.drop k:=List.take_of_length_le (by simp);simp [this]
theorem qK:MtM X "list.insert" rInsert:=by
 intro pins s σ H x vs v us Q I rx rv h;obtain ⟨l,xs,i,k,y,rfl,rfl,hi,hH,hk,hz,q⟩:=h;cases rx;obtain ⟨u,u2,rfl,ru,ru2⟩:=Vals.two rv;obtain ⟨t,rfl⟩:=ru;obtain ⟨z,its,n,r,hl,e⟩:=I.lstM hH;have hb:=big5;have h1:-(2 ^ 63)<=i:=by rw [hi]; exact Int.le_trans (by decide) (Int.natCast_nonneg k)
 have h2:i < 2 ^ 63:=by rw [hi]; exact Int.lt_of_le_of_lt (Int.ofNat_le.mpr (Nat.le_trans hk (Nat.le_of_lt hz))) (by decide)
 have h3:¬(!Builtin.List.listFitsIndex i)=true:=by rw [show Builtin.List.listFitsIndex i=true from fitsIndex_both h1 h2]; decide
 have h4:its.toArray.size<=sizeLine:=by rw [List.size_toArray]; omega
 refine call_meets F.slot_list_insert ⟨_,e,rfl⟩ F.entry_list_insert (F.args_list_insert_3 _ _ _) (AutoSeq1.list_insert_list_int_val_1 l its.toArray n i t u2 h3 h4) ⟨e,?_⟩;refine ⟨.non,_,I.lset (its':=its.take k++u2::its.drop k) hH e ?_ ((r.take k).append (.cons ru2 (r.drop k))) ?_,rfl,q⟩
 ·show (its.toArray.extract 0 (if i < 0 then (i+(its.toArray.size:Int)).toNat else min i.toNat its.toArray.size)).push u2++its.toArray.extract (if i < 0 then (i+(its.toArray.size:Int)).toNat else min i.toNat its.toArray.size)=_;rw [if_neg (by omega),show min i.toNat its.toArray.size=k by rw [List.size_toArray]; omega,ue]
 ·rw [List.length_append,List.length_cons,List.length_take,List.length_drop];omega
noncomputable def cInsert (to te tf:TE):TE:=fun σ H Q=>to σ H fun x H1=>match x with
 | .ref l=>(∃ xs,H1 l=some (.lst xs))/\te σ H1 fun y H2=>tf σ H2 fun z H3=>match y with
  | .int i=>∃ (xs:List V) (k:Nat),i=(k:Int)/\H3 l=some (.lst xs)/\k<=xs.length/\xs.length < 100000/\Q .non (upd H3 l (.lst (insAt xs k z)))
  | _=>False
 | _=>False
theorem kO (ho:PE X o to) (he:PE X e te) (hf:PE X f tf) (hbase:attributeBase o "insert" X.env (eval o X.env)=eval o X.env:=by rfl)
  (hfew:((backTo cpos (starEach [e,f] X.env)).all (fun x=>!x.1) && (backToKw cpos (keywordEach [] X.env)).all (fun x=>x.1.isSome) && decide ([e,f].length+([]:List Keyword).length+(if ([]:List Keyword).isEmpty then 0 else 1) < 30))=true:=by rfl)
  (hline:(apos.endLine == cpos.line)=true:=by rfl) (hs:starEach [e,f] X.env=(false,eval e X.env)::starEach [f] X.env:=by rfl) (hs2:starEach [f] X.env=(false,eval f X.env)::starEach [] X.env:=by rfl) (hplain:(backTo cpos (starEach [f] X.env)).any (·.1)=false:=by rfl):PE X (.Call (.Attribute o "insert" apos) [e,f] [] cpos) (cInsert to te tf):=
 (lb PySem.F.plainAttrs_list PySem.F.slot_list_insert PySem.F.type_list_insert qK ho.mono (aa he.mono (aa hf.mono ad hs2) hs) hbase hfew hline hs hplain).imp fun σ H Q q=>⟨_,q,fun x H1 z=>by
  split at z
  ·rename_i l;obtain ⟨⟨xs,h⟩,z⟩:=z;refine ⟨.inl ⟨rfl,_,SqL.of h⟩,_,z,fun y H2 z2=>⟨_,z2,fun w H3 z3=>?_⟩⟩;split at z3
   ·obtain ⟨xs2,k,rfl,h2,h3,h4,z4⟩:=z3;exact ⟨l,xs2,_,k,w,rfl,rfl,rfl,h2,h3,h4,z4⟩
   ·exact z3.elim
  ·exact z.elim⟩
theorem qb {σ:St} {H:Hp} {Q:VK}:cInsert to te tf σ H Q=to σ H fun x H1=>match x with
 | .ref l=>(∃ xs,H1 l=some (.lst xs))/\te σ H1 fun y H2=>tf σ H2 fun z H3=>match y with
  | .int i=>∃ (xs:List V) (k:Nat),i=(k:Int)/\H3 l=some (.lst xs)/\k<=xs.length/\xs.length < 100000/\Q .non (upd H3 l (.lst (insAt xs k z)))
  | _=>False
 | _=>False:=rfl
noncomputable def kAll (K:Frag):List V->Hp->VK->Prop:=fun xs H Q=>match xs with
 | [.ref p]=>∃ bs:List Bool,SqL K H p (bs.map V.bl)/\Q (.bl (bs.all id)) H
 | _=>False
theorem qM (K:Frag) (hK:X.K=K) (hc:X.calm=true):CallR X (.builtin "all") (kAll K):=by
 subst hK;intro pins s σ H xs us Q I r q;unfold kAll at q;split at q
 ·rename_i p;obtain ⟨bs,hq,q⟩:=q;obtain ⟨u,rfl,ru⟩:=vals1 r;cases ru;obtain ⟨its,rv,pl,_⟩:=I.list hq;obtain rfl:=nL rv;have hl:s.heap.IsList p (bs.map Value.bool).toArray:=pl.isList;have hp:p < s.heap.objs.size:=by obtain ⟨o,ho,_⟩:=hl; exact Heap.lt_size ho
  refine tokQ I.tk (call_all_walk (wpAny_pyIter_list hl ?_));refine ⟨_,_,_,_,_,_,fun i=>(bs[i]?).getD true,rfl,Walks.list (A:=X.A.in1) (I.ok.hd hc) _ p (Nat.ne_of_lt hp) (bs.map Value.bool).toArray,⟨⟨_,Heap.get?_push_size _ rfl,rfl,rfl⟩,hl.push _⟩,?_,fun h' tk k (htk:0 < tk)=>?_⟩
  ·intro i v s' Q' E' hP hQ';have hi:bs[i]?.map Value.bool=some v:=by simpa using hP
   cases hb:bs[i]? with
   | none=>rw [hb] at hi; cases hi
   | some b=>
    have e:(fun i=>(bs[i]?).getD true) i=b:=by simp [hb]
    rw [e] at hQ';rw [hb] at hi;cases hi;exact wpAny_truthy_bool hQ'
  ·have e:((List.range (bs.map Value.bool).toArray.size).all fun i=>(bs[i]?).getD true)=bs.all id:=by
    simp only [List.size_toArray,List.length_map];rw [Bool.eq_iff_iff,List.all_eq_true,List.all_eq_true];constructor
    ·intro h b hb;obtain ⟨i,hi,rfl⟩:=List.getElem_of_mem hb;have:=h i (by simpa using hi);rw [List.getElem?_eq_getElem hi] at this;exact this
    ·intro h i hi;have hi:i < bs.length:=by simpa using hi
     rw [List.getElem?_eq_getElem hi];exact h _ (List.getElem_mem hi)
   rw [e];refine ⟨.bl _,H,I.kept (fun b o q=>k b o ?_ (Heap.get?_push_of_some _ q)),rfl,q⟩;intro z;have:=Heap.lt_size q;rw [List.mem_singleton.mp z] at this;exact Nat.lt_irrefl _ this
 ·exact q.elim
theorem vE {K:Frag} {p:Addr} {H:Hp} {Q:VK}:kAll K [.ref p] H Q=∃ bs:List Bool,SqL K H p (bs.map V.bl)/\Q (.bl (bs.all id)) H:=rfl
end
section
variable {X:Cx} {e:Expr} {te:TE} {lo hi:Option Expr} {st:Expr} {tl th ts:TO} {p2 pos:Pos}
end
def Rise (xs:Array Nat):Prop:=∀ a b,a < b->∀ (hb:b < xs.size) (ha:a < xs.size),xs[a] < xs[b]
theorem jN {xs:Array Nat} {j:Nat} (hr:Rise xs):∀ (fuel lo hi:Nat),hi - lo<=fuel->lo<=hi->hi<=xs.size->(∀ i (h:i < xs.size),i < lo->xs[i] < j)->(∀ i (h:i < xs.size),hi<=i->j<=xs[i]) ->
  SetTable.below.go xs j fuel lo hi<=xs.size/\(∀ i (h:i < xs.size),i < SetTable.below.go xs j fuel lo hi->xs[i] < j)/\(∀ i (h:i < xs.size),SetTable.below.go xs j fuel lo hi<=i->j<=xs[i])
 | 0,lo,hi,hf,h1,h2,h3,h4=>by
  have:lo=hi:=by omega
  subst this;unfold SetTable.below.go;exact ⟨h2,h3,h4⟩
 | fuel+1,lo,hi,hf,h1,h2,h3,h4=>by
  unfold SetTable.below.go;by_cases hlt:lo < hi
  ·rw [if_pos hlt];have hm:(lo+hi) / 2 < xs.size:=by omega
   have hg:xs.getD ((lo+hi) / 2) j=xs[(lo+hi) / 2]:=by simp [hm]
   simp only [hg];by_cases hx:xs[(lo+hi) / 2] < j
   ·rw [if_pos hx];refine jN hr fuel _ hi (by omega) (by omega) h2 (fun i h hi'=>?_) h4;rcases Nat.lt_or_ge i ((lo+hi) / 2) with z | z
    ·exact Nat.lt_trans (hr i _ z hm h) hx
    ·obtain rfl:i=(lo+hi) / 2:=by omega
     exact hx
   ·rw [if_neg hx];refine jN hr fuel lo _ (by omega) (by omega) (by omega) h3 (fun i h hi'=>?_);rcases Nat.lt_or_ge ((lo+hi) / 2) i with z | z
    ·have:=hr _ i z h hm;omega
    ·obtain rfl:i=(lo+hi) / 2:=by omega
     omega
  ·rw [if_neg hlt];obtain rfl:lo=hi:=by omega
   exact ⟨h2,h3,h4⟩
theorem qY {xs:Array Nat} (hr:Rise xs) (j:Nat):SetTable.below xs j<=xs.size/\(∀ i (h:i < xs.size),i < SetTable.below xs j->xs[i] < j)/\(∀ i (h:i < xs.size),SetTable.below xs j<=i->j<=xs[i]):=by
 unfold SetTable.below;exact jN hr xs.size 0 xs.size (by omega) (by omega) (Nat.le_refl _) (fun i _ h=>absurd h (by omega)) (fun i h z=>absurd h (by omega))
theorem kS {xs:Array Nat}:Rise xs ↔ xs.toList.Pairwise (· < ·):=by
 rw [List.pairwise_iff_getElem];constructor
 ·intro h a b ha hb hab;have:=h a b hab (by simpa using hb) (by simpa using ha);simpa using this
 ·intro h a b hab hb ha;have:=h a b (by simpa using ha) (by simpa using hb) hab;simpa using this
theorem mV {xs:Array Nat} (hr:Rise xs) {j:Nat} (hj:¬ xs[SetTable.below xs j]? = some j):Rise (SetTable.insertAt xs (SetTable.below xs j) j):=by
 obtain ⟨b0,b1,b2⟩:=qY hr j;generalize SetTable.below xs j=p at *;have hlt:∀ i (h:i < xs.size),p<=i->j < xs[i]:=fun i h z=>by
  have h0:=b2 i h z;rcases Nat.lt_or_ge j xs[i] with q | q
  ·exact q
  ·exfalso;have e:xs[i]=j:=by omega
   rcases Nat.lt_or_ge p i with z2 | z2
   ·have hp:p < xs.size:=by omega
    have:=hr p i z2 h hp;have:=b2 p hp (Nat.le_refl _);omega
   ·obtain rfl:i=p:=by omega
    exact hj (by rw [Array.getElem?_eq_getElem h,e])
 have hl:=kS.mp hr;rw [kS,SetTable.toList_insertAt];have A:∀ a ∈ xs.toList.take p,a < j:=fun a ha=>by
  obtain ⟨i,hi,rfl⟩:=List.mem_take_iff_getElem.mp ha;have:=b1 i (by simp at hi; omega) (by omega);simpa using this
 have B:∀ b ∈ xs.toList.drop p,j < b:=fun b hb=>by
  obtain ⟨i,hi,rfl⟩:=List.mem_drop_iff_getElem.mp hb;have:=hlt (p+i) (by simp at hi; omega) (by omega);simpa using this
 have hl':=hl;rw [<- List.take_append_drop p xs.toList,List.pairwise_append] at hl';refine List.pairwise_append.mpr ⟨hl'.1,List.pairwise_cons.mpr ⟨B,hl'.2.1⟩,fun a ha b hb=>?_⟩;rcases List.mem_cons.mp hb with rfl | hb
 ·exact A a ha
 ·exact Nat.lt_trans (A a ha) (B b hb)
def Laid0 (t:SetTable):Prop:=Rise t.place/\t.dummies=#[]
theorem pE (j:Nat):SetTable.has #[] j=false:=by
 unfold SetTable.has;simp
theorem jH {t:SetTable} (h0:t.dummies=#[]) (f:Nat->Int) (h:Int):∀ (n:Nat) (p:SetTable.Probe) (j:Nat) (d:Option Nat),p.dummy=none->SetTable.probe.go t f h n p=some (.empty j d)->d=none/\¬ t.place[SetTable.below t.place j]? = some j
 | 0,p,j,d,_,e=>by simp [SetTable.probe.go] at e
 | n+1,p,j,d,hp,e=>by
  unfold SetTable.probe.go at e;have hs:t.slot p.j=if t.place[SetTable.below t.place p.j]? == some p.j then .live (SetTable.below t.place p.j) else .empty:=by
   unfold SetTable.slot;rw [h0,pE];rfl
  rw [hs] at e;by_cases z:t.place[SetTable.below t.place p.j]? = some p.j
  ·rw [if_pos (by rw [z]; exact beq_self_eq_true _)] at e;dsimp only at e;split at e
   ·cases e
   ·refine jH h0 f h n _ j d ?_ e;unfold SetTable.advance;split
    ·exact hp
    ·exact hp
  ·rw [if_neg (by simpa using z)] at e;dsimp only at e;injection e with e
   injection e with e1 e2
   subst e1 e2;exact ⟨hp,z⟩
theorem oy (n:Nat):Rise (Array.range n):=fun a b h hb ha=>by simpa using h
theorem cm (t:SetTable) (n:Nat):Laid0 (t.standIn n):=⟨oy n,rfl⟩
theorem sy {t:SetTable} (h:Laid0 t) (n:Nat):Laid0 (t.orStandIn n):=by
 unfold SetTable.orStandIn;split
 ·exact h
 ·exact cm t n
theorem qd {t:SetTable} (L:Laid0 t) (es:Array (Int × Value)) (h:Int) (x:Value):Laid0 (layNew t es h x).2.1:=by
 unfold layNew;split
 ·rename_i slot wd e;refine sy ?_ _;unfold SetTable.freeSlot at e;split at e
  ·rename_i j d e2;obtain ⟨rfl,hj⟩:=jH L.2 _ h _ _ j d rfl e2;cases e;refine ⟨mV L.1 hj,?_⟩;show (if SetTable.has t.dummies _ then _ else t.dummies)=#[];rw [L.2,pE];rfl
  ·cases e
 ·exact cm t _
theorem nU {mask finger moves:Nat} {led plain:Bool} {hs:Array Int} {r:SetTable × Array Nat} (h:SetTable.laid mask finger moves led plain hs=some r):Laid0 r.1:=by
 unfold SetTable.laid at h;cases q:SetTable.layClean mask hs with
 | none=>rw [q] at h; cases h
 | some ow=>
  rw [q] at h;cases h;refine ⟨?_,rfl⟩;have:(((List.range (mask+1)).filterMap fun j=>(ow.getD j none).map (j,·)).map (·.1)).Pairwise (· < ·):=by
   rw [List.pairwise_map,List.pairwise_filterMap];refine List.pairwise_lt_range.imp fun {a b} hab x hx y hy=>?_
   obtain ⟨_,_,rfl⟩:=Option.map_eq_some_iff.mp hx;obtain ⟨_,_,rfl⟩:=Option.map_eq_some_iff.mp hy;exact hab
  intro a b hab hb ha;have:=List.pairwise_iff_getElem.mp this a b (by simpa using ha) (by simpa using hb) hab;simpa using this
theorem iH {t:SetTable} (es:Array (Int × Value)) (n:Nat):Laid0 (relayAll t es n).2.1:=by
 unfold relayAll;split
 ·rename_i t' order e;have q:=nU e;dsimp only;split
  ·exact q
  ·exact cm t _
 ·exact cm t _
noncomputable def intOf:Value->Int
 | .int x _=>x
 | _=>0
def IsInts (w:World) (h:Heap) (a:Addr) (led:Bool) (ss:List Int):Prop:=
 ∃ es ep t,h.get? a=some { cls:=.type "set",dict:=none,data:=.set es ep t,slots:=#[] }/\(∀ e ∈ es.toList,∃ x u,e=(hashInt x,Value.int x u)) /\
  (es.toList.map fun e=>intOf e.2).Perm ss/\t.fits es.size=true/\t.led=led/\Laid0 t
section
variable {prog:Program} {w:World} {A:Around} {E:Value->Shared->Prop} {s:Shared}
theorem gc (x:Int) (u:Tok):Value.isInt x (Value.int x u)=true:=by simp [Value.isInt]
theorem oJ {es:Array (Int × Value)} (h:∀ e ∈ es.toList,∃ x u,e=(hashInt x,Value.int x u)):ElemsOf (PySem.intKind prog w) es.toList:=fun e he=>by
 obtain ⟨x,u,rfl⟩:=h e he;exact ⟨⟨x,gc x u,rfl⟩,rfl⟩
theorem qO {es:List (Int × Value)} (h:∀ e ∈ es,∃ x u,e=(hashInt x,Value.int x u)) (x:Int):
  (es.findIdx? fun e=>(PySem.intKind prog w).is x e.2)=none ↔ x ∉ es.map fun e=>intOf e.2:=by
 rw [List.findIdx?_eq_none_iff];constructor
 ·intro q hm;obtain ⟨e,he,rfl⟩:=List.mem_map.mp hm;obtain ⟨y,u,rfl⟩:=h e he;have:=q _ he;rw [show (PySem.intKind prog w).is (intOf (hashInt y,Value.int y u).2) (hashInt y,Value.int y u).2=true from gc y u] at this;cases this
 ·intro q e he;obtain ⟨y,u,rfl⟩:=h e he;cases hb:(PySem.intKind prog w).is x (Value.int y u) with
  | false=>rfl
  | true=>
   have e2:y=x:=by
    obtain ⟨t,q⟩:=Value.isInt_shape (v:=Value.int y u) hb;injection q
   exact absurd (List.mem_map.mpr ⟨_,he,by rw [<- e2]; rfl⟩) q
noncomputable def addI (ss:List Int) (x:Int):List Int:=if x ∈ ss then ss else ss++[x]
theorem add_int {a:Addr} {led:Bool} {ss:List Int} {x:Int} {u:Tok} {Q:Bool->Shared->Prop} (hS:IsInts w s.heap a led ss) (room:ss.length+1 < scanBound)
  (h:∀ h' b,Heap.SameBut a s.heap h'->IsInts w h' a led (addI ss x)->Q b { s with heap:=h' }):
  wpAny (model prog w) A (setAddHashed a (.int x u) (hashInt x)) Q E s:=by
 obtain ⟨es,ep,t,ho,hel,hp,hf,hl,hL⟩:=hS;have hE:=oJ (prog:=prog) (w:=w) hel;have hk:(PySem.intKind prog w).is x (Value.int x u)=true:=gc x u;have hsz:es.size=ss.length:=by have:=hp.length_eq; simpa using this
 have hb:es.size < scanBound:=by omega
 unfold setAddHashed setAddHashedIn;refine wpAny_holding (wpAny_bind (wpAny_setState_of ho rfl hf ?_));dsimp only;rw [byScan_of (knd:=PySem.intKind prog w) rfl hb hE,if_pos rfl];unfold setAddByScan;refine wpAny_bind (wpAny_bind (wpAny_rule (wpAny_bind (wpAny_setScan_of (knd:=PySem.intKind prog w) hk ho rfl hf hE ?_))));have hfind:=qO (prog:=prog) (w:=w) hel x;cases hr:es.toList.findIdx? (fun e=>(PySem.intKind prog w).is x e.2) with
 | some j=>
  have hin:x ∈ ss:=by
   rw [<- hp.mem_iff];apply Classical.byContradiction;intro z;rw [hfind.mpr z] at hr;cases hr
  refine wpAny_pure (wpAny_pure ?_);have:=h s.heap false (Heap.SameBut.refl a s.heap) ⟨es,ep,t,ho,hel,by unfold addI; rw [if_pos hin]; exact hp,hf,hl,hL⟩;exact this
 | none=>
  have hin:x ∉ ss:=by
   rw [<- hp.mem_iff];exact hfind.mp hr
  dsimp only;have p1:=layNew_perm t es (hashInt x) (Value.int x u);have p2:=layNew_fits t es (hashInt x) (Value.int x u);have p3:=oj t es (hashInt x) (Value.int x u);have p4:=qd hL es (hashInt x) (Value.int x u);generalize layNew t es (hashInt x) (Value.int x u)=L at p1 p2 p3 p4 ⊢;obtain ⟨es1,t1,wd,gave⟩:=L;dsimp only at p1 p2 p3 p4 ⊢;rw [Array.toList_push] at p1;have hel1:∀ e ∈ es1.toList,∃ x u,e=(hashInt x,Value.int x u):=fun e he=>by
   rcases List.mem_append.mp (p1.mem_iff.mp he) with q | q
   ·exact hel e q
   ·rw [List.mem_singleton.mp q]; exact ⟨x,u,rfl⟩
  have hp1:(es1.toList.map fun e=>intOf e.2).Perm (addI ss x):=by
   refine (p1.map _).trans ?_;unfold addI;rw [if_neg hin,List.map_append];exact hp.append_right _
  have hz1:es1.size=ss.length+1:=by
   have:=p1.length_eq;simp only [Array.length_toList,List.length_append,List.length_singleton] at this;omega
  have gw:∀ (b:Bool) (s₁:Shared) (Q':Unit->Shared->Prop),Q' () s₁ -> wpAny (model prog w) A (match b with | true=>rule "set.scan.the-table-gave-way" | false=>pure ()) Q' E s₁:=fun b s₁ Q' q=>by
   cases b
   ·exact wpAny_pure q
   ·exact wpAny_rule q
  refine wpAny_bind (gw _ _ _ ?_);split
  ·refine wpAny_bind ?_;rw [hashByValue_scannable 8 (x:=Value.int x u) rfl];refine wpAny_pure ?_;have pk:plainKind (Value.int x u)=true:=rfl;simp only [pk,↓reduceIte];obtain ⟨t2,et,f2,l2,L2'⟩:∃ t2:SetTable,t2=t1/\t2.fits es1.size=true/\t2.led=led/\Laid0 t2:=⟨_,rfl,p2,p3.1.trans hl,p4⟩;rw [<- et];refine wpAny_bind (wpAny_storeSet_of ho rfl ?_ (fits_of_scanBound (by omega)));have o1:=i8 (es':=es1) (t':=t2) ho;have sb1:=Heap.SameBut.update s.heap a (Obj.putSet es1 t2);refine wpAny_ite_split (fun _=>?_) fun _=>?_
   ·have q1:=relayAll_perm t2 es1 (SetTable.grown es1.size);have q2:=relayAll_fits t2 es1 (SetTable.grown es1.size);have q3:=lf t2 es1 (SetTable.grown es1.size);have q4:=iH (t:=t2) es1 (SetTable.grown es1.size);generalize relayAll t2 es1 (SetTable.grown es1.size)=R at q1 q2 q3 q4 ⊢;obtain ⟨es2,t3,g2⟩:=R;dsimp only at q1 q2 q3 q4 ⊢;have z2:es2.size=es1.size:=by have:=q1.length_eq; simpa using this
    refine wpAny_bind (gw _ _ _ ?_);refine wpAny_bind (wpAny_storeSet_of o1 rfl ?_ (fits_of_scanBound (by omega)));have o2:=i8 (s:={ s with heap:=s.heap.update a (Obj.putSet es1 t2) }) (es':=es2) (t':=t3) o1;exact wpAny_pure (wpAny_pure (h _ _ (sb1.trans (Heap.SameBut.update _ a _)) ⟨es2,_,t3,o2,fun e he=>hel1 e (q1.mem_iff.mp he),(q1.map _).trans hp1,q2,q3.1.trans l2,q4⟩))
   ·exact wpAny_pure (wpAny_pure (h _ _ sb1 ⟨es1,_,t2,o1,hel1,hp1,f2,l2,L2'⟩))
  ·rename_i np;refine wpAny_bind (wpAny_pure ?_);simp only [↓reduceIte];obtain ⟨t2,et,f2,l2,L2'⟩:∃ t2:SetTable,t2=t1/\t2.fits es1.size=true/\t2.led=led/\Laid0 t2:=⟨_,rfl,p2,p3.1.trans hl,p4⟩;rw [<- et];refine wpAny_bind (wpAny_storeSet_of ho rfl ?_ (fits_of_scanBound (by omega)));have o1:=i8 (es':=es1) (t':=t2) ho;have sb1:=Heap.SameBut.update s.heap a (Obj.putSet es1 t2);refine wpAny_ite_split (fun _=>?_) fun _=>?_
   ·have q1:=relayAll_perm t2 es1 (SetTable.grown es1.size);have q2:=relayAll_fits t2 es1 (SetTable.grown es1.size);have q3:=lf t2 es1 (SetTable.grown es1.size);have q4:=iH (t:=t2) es1 (SetTable.grown es1.size);generalize relayAll t2 es1 (SetTable.grown es1.size)=R at q1 q2 q3 q4 ⊢;obtain ⟨es2,t3,g2⟩:=R;dsimp only at q1 q2 q3 q4 ⊢;have z2:es2.size=es1.size:=by have:=q1.length_eq; simpa using this
    refine wpAny_bind (gw _ _ _ ?_);refine wpAny_bind (wpAny_storeSet_of o1 rfl ?_ (fits_of_scanBound (by omega)));have o2:=i8 (s:={ s with heap:=s.heap.update a (Obj.putSet es1 t2) }) (es':=es2) (t':=t3) o1;exact wpAny_pure (wpAny_pure (h _ _ (sb1.trans (Heap.SameBut.update _ a _)) ⟨es2,_,t3,o2,fun e he=>hel1 e (q1.mem_iff.mp he),(q1.map _).trans hp1,q2,q3.1.trans l2,q4⟩))
   ·exact wpAny_pure (wpAny_pure (h _ _ sb1 ⟨es1,_,t2,o1,hel1,hp1,f2,l2,L2'⟩))
end
theorem IsInts.at {w:World} {h h':Heap} {a:Addr} {led:Bool} {ss:List Int} (x:IsInts w h a led ss) (k:∀ o,h.get? a=some o->h'.get? a=some o):IsInts w h' a led ss:=by
 obtain ⟨es,ep,t,ho,r⟩:=x;exact ⟨es,ep,t,k _ ho,r⟩
section
variable {prog:Program} {w:World} {A:Around} {R:Result->Shared->Prop} {I:Addr} {fp wr:List Addr} {G:Array GenState->Array GenState->Prop} {n:Nat} {P:Nat->Value->Prop} {St:Nat->Shared->Prop}
end
section
variable {prog:Program} {w:World} {A:Around} {E:Value->Shared->Prop} {s:Shared}
section
variable {it a:Addr} {es:Array (Int × Value)} {n ep i:Nat} {t:SetTable}
end
end
section
variable {prog:Program} {w:World} {A:Around} {E:Value->Shared->Prop} {s:Shared}
end
section
variable {X:Cx}
end
section
variable {prog:Program} {w:World} {A:Around} {E:Value->Shared->Prop} {s:Shared}
theorem jA {it:Addr} {Q:Value->Shared->Prop} (ty:s.TypeIs (.ref it) "tuple_iterator")
  (q:wpAny (model prog w) A.in1 (Builtin.«tuple_iterator.__next__» ⟨[.ref it],[]⟩) (fun fin s'=>∃ v,fin=.done (.ret v)/\Q v s') E s):wpAny (model prog w) A (Builtin.SmallTypes.nextOf (.ref it)) Q E s:=by
 have sl:=F.slot_tuple_iterator_next;unfold Builtin.SmallTypes.nextOf;refine wpAny_bind (wpAny_callSpecial?_slot (name:=Str.ofString "__next__") ty sl (wpAny_call_entry sl ty F.entry_tuple_iterator_next (wpAny_mono q (fun fin s' ⟨v,e,z⟩=>⟨v,e,wpAny_pure z⟩) fun _ _ z=>z) (F.args_tuple_iterator_next_1 _)))
theorem iW {it t:Addr} {i:Nat} {ys:Array Value} {x:Value} {Q:Value->Shared->Prop} (st:s.heap.IsTupleIter it t i) (tu:s.heap.IsTuple t ys) (e:ys[i]? = some x)
  (q:∀ h',h'.IsTupleIter it t (i+1)->Heap.SameBut it s.heap h'->Q x { s with heap:=h' }):wpAny (model prog w) A (Builtin.SmallTypes.nextOf (.ref it)) Q E s:=by
 apply jA st.typeIs;obtain ⟨ob,g1,g2,g3⟩:=st;obtain ⟨tb,k1,_,kn,k2⟩:=tu;change wpAny _ _ (field (.ref it) 0>>=_) _ _ _;apply wpAny_bind;apply wpAny_field g1 g3 (x:=.ref t) rfl;have nn:(Value.ref t == Value.none)=false:=rfl;simp only [nn,Bool.false_eq_true,if_false];apply wpAny_bind;apply wpAny_field g1 g3 (x:=.int i 0) rfl;apply wpAny_bind;apply wpAny_seqItems k1 k2;simp only [Int.toNat_natCast,e];apply wpAny_bind;apply wpAny_setField g1 g3 (by simp);apply wpAny_pure;refine ⟨x,rfl,q _ ⟨_,Heap.get?_update_self _ g1 (Obj.isFreed_of_fields (Obj.data_mapFields g3 _)),(Obj.cls_mapFields ..).trans g2,?_⟩ (Heap.SameBut.update ..)⟩;rw [Obj.data_mapFields g3];simp [rawInt]
theorem jj {it t:Addr} {i:Nat} {ys:Array Value} {Q:Value->Shared->Prop} (hh:A.handled=none) (st:s.heap.IsTupleIter it t i) (tu:s.heap.IsTuple t ys) (e:ys[i]? = none)
  (q:∀ h' e,Heap.ExtBut it s.heap h'->(∃ o,h'.get? e=some o/\o.cls=.type "StopIteration")->E (.ref e) { s with heap:=h' }):wpAny (model prog w) A (Builtin.SmallTypes.nextOf (.ref it)) Q E s:=by
 apply jA st.typeIs;obtain ⟨ob,g1,g2,g3⟩:=st;obtain ⟨tb,k1,_,kn,k2⟩:=tu;change wpAny _ _ (field (.ref it) 0>>=_) _ _ _;apply wpAny_bind;apply wpAny_field g1 g3 (x:=.ref t) rfl;have nn:(Value.ref t == Value.none)=false:=rfl;simp only [nn,Bool.false_eq_true,if_false];apply wpAny_bind;apply wpAny_field g1 g3 (x:=.int i 0) rfl;apply wpAny_bind;apply wpAny_seqItems k1 k2;simp only [Int.toNat_natCast,e];apply wpAny_bind;apply wpAny_rule;apply wpAny_bind;apply wpAny_setField g1 g3 (by simp);have hh1:A.in1.handled=none:=hh;exact nO hh1 fun h2 x k c=>q h2 x (fun b o nb z=>k b o ((Heap.SameBut.update s.heap it _).extBut b o nb z)) c
end
def TGo (H:Hp) (a:Addr) (i:Nat):Prop:=∃ xs v,H a=some (.tup xs)/\xs[i]? = some v
def TAt (H:Hp) (a:Addr) (i:Nat) (v:V):Prop:=∀ xs,H a=some (.tup xs)->xs[i]? = some v
def TEnd (H:Hp) (a:Addr) (i:Nat):Prop:=∃ xs,H a=some (.tup xs)/\xs.length<=i
theorem du {h:Heap} {a it:Addr} {i:Nat} (st:h.IsTupleIter it a i):∃ o,h.get? it=some o/\(∀ v,o.data≠.cell v)/\o.cls≠.type "list" /\ o.cls≠.type "zip" /\ o.cls≠.type "tuple" := by
 obtain ⟨o,e,c,d⟩:=st;refine ⟨o,e,(fun v z=>by rw [d] at z; cases z),?_⟩;rw [c];decide
section
variable {X:Cx} {pins:List (Addr × Obj)} {σ:St} {H:Hp} {s:Shared} {A:Around}
theorem nS (I:Inv X pins σ H s) {a it:Addr} {i:Nat} (st:s.heap.IsTupleIter it a i) (go:TGo H a i):
  ∃ (f:List Addr) (Sa Sb:Heap->Prop) (P:Value->Prop),Nx X.prog X.w A it f Sa Sb P/\Sa s.heap/\(∀ c ∈ f,c=it\/((∃ o,s.heap.get? c=some o/\o.cls=.type "tuple")/\H c≠none))/\(∀ h,Sb h->h.IsTupleIter it a (i+1))/\∀ v,P v->∃ x,RelV x v/\TAt H a i x:=by
 obtain ⟨xs,v,hq,hv⟩:=go;obtain ⟨its,rv,pl,hz⟩:=I.tuple (SqT.of hq);obtain ⟨u,hu,ru⟩:=rv.get hv;have pl:s.heap.IsTuple a its.toArray:=pl;obtain ⟨o,e,c,n,hd⟩:=id pl;have hne:a≠it:=by
  rintro rfl;obtain ⟨o',e',c',_⟩:=st;rw [e] at e';cases e';rw [c] at c';exact absurd c' (by decide)
 refine ⟨[it,a],fun h=>h.IsTupleIter it a i/\h.IsTuple a its.toArray,fun h=>h.IsTupleIter it a (i+1)/\h.IsTuple a its.toArray,fun z=>z=u,⟨?_,?_,?_⟩,⟨st,pl⟩,?_,fun h q=>q.1,?_⟩
 ·rintro h h' ⟨⟨o1,s1,r1⟩,⟨o2,s2,r2⟩⟩ k;exact ⟨⟨o1,k it (by simp) o1 s1,r1⟩,⟨o2,k a (by simp) o2 s2,r2⟩⟩
 ·rintro h h' ⟨⟨o1,s1,r1⟩,⟨o2,s2,r2⟩⟩ k;exact ⟨⟨o1,k it (by simp) o1 s1,r1⟩,⟨o2,k a (by simp) o2 s2,r2⟩⟩
 ·intro s Q E st hQ;exact iW st.1 st.2 (x:=u) (by simpa using hu) fun h' st' sb=>hQ _ h' s.toks rfl ⟨st',st.2.extBut sb.extBut hne⟩ sb
 ·intro c' hc;rcases (by simpa using hc:c'=it\/c'=a) with z | z
  ·exact .inl z
  ·subst z;exact .inr ⟨⟨o,e,c⟩,by rw [hq]; simp⟩
 ·rintro z rfl;exact ⟨v,ru,fun ys hy=>by rw [hq] at hy; cases hy; exact hv⟩
theorem sL (I:Inv X pins σ H s) (hh:A.handled=none) {a it:Addr} {i:Nat} (st:s.heap.IsTupleIter it a i) (en:TEnd H a i):
  ∃ (f:List Addr) (Sa:Heap->Prop),Nd X.prog X.w A it f Sa/\Sa s.heap/\(∀ c ∈ f,c=it\/((∃ o,s.heap.get? c=some o/\o.cls=.type "tuple")/\H c≠none)):=by
 obtain ⟨xs,hq,hv⟩:=en;obtain ⟨its,rv,pl,hz⟩:=I.tuple (SqT.of hq);have pl:s.heap.IsTuple a its.toArray:=pl;obtain ⟨o,e,c,n,hd⟩:=id pl;have hl:=rv.length;refine ⟨[it,a],fun h=>h.IsTupleIter it a i/\h.IsTuple a its.toArray,⟨?_,?_⟩,⟨st,pl⟩,?_⟩
 ·rintro h h' ⟨⟨o1,s1,r1⟩,⟨o2,s2,r2⟩⟩ k;exact ⟨⟨o1,k it (by simp) o1 s1,r1⟩,⟨o2,k a (by simp) o2 s2,r2⟩⟩
 ·intro s Q E st hE;exact jj hh st.1 st.2 (by simp; omega) hE
 ·intro c' hc;rcases (by simpa using hc:c'=it\/c'=a) with z | z
  ·exact .inl z
  ·subst z;exact .inr ⟨⟨o,e,c⟩,by rw [hq]; simp⟩
end
noncomputable def ItzT (a b:Addr):It:=⟨fun i H=>TGo H a i/\TGo H b i,fun i H v H'=>∃ T x y,v=.ref T/\H T=none/\H'=upd H T (.tup [x,y])/\TAt H a i x/\TAt H b i y,
 fun i H=>TEnd H a i\/(TGo H a i/\TEnd H b i)⟩
def ZipTt (z TI TO i1 i2:Addr) (S1 S2:Addr) (i:Nat) (h:Heap):Prop:=∃ a b,IsZip h z TI TO .none/\IsPair h TI (.ref i1) (.ref i2)/\IsPair h TO a b/\h.IsTupleIter i1 S1 i/\h.IsTupleIter i2 S2 i
theorem gu {H:Hp} {h:Heap} {f:List Addr} {z TI TO i1 i2:Addr} {S2:Addr} {k:Nat} (hTn:H TO=none) (hz:IsZip h z TI TO .none) (h2:h.IsTupleIter i2 S2 k) (n1:i1≠z) (n2:i1≠TO) (n3:i1≠i2)
  (m:∀ c ∈ f,c=i1\/((∃ o,h.get? c=some o/\o.cls=.type "tuple")/\H c≠none)):∀ c ∈ f,c≠z/\c≠TO/\c≠i2:=fun c hc=>by
 rcases m c hc with e | ⟨⟨o,e,c1⟩,hn⟩
 ·subst e;exact ⟨n1,n2,n3⟩
 ·refine ⟨?_,?_,?_⟩
  ·rintro rfl;rw [hz] at e;cases e;exact absurd (show Value.type "zip" = Value.type "tuple" from c1) (by decide)
  ·rintro rfl;exact hn hTn
  ·rintro rfl;obtain ⟨o',e',_,_,_,q⟩:=du h2;rw [e] at e';cases e';exact q c1
theorem pP {P:Program} {w:World} {K:Frag} {elts:List Expr} {kk:Nat} {pos:Pos} {z TI TO i1 i2:Addr} (D:ZAp z TI TO i1 i2) (S1 S2:Addr):
  Turn P w K (.Tuple elts kk pos) (ItzT S1 S2) [z,TI,TO,i1,i2] z (ZipTt z TI TO i1 i2 S1 S2) where
 mem:=by simp
 obj:=fun i h st b hb=>by
  obtain ⟨a,c,hz,hTI,hTO,h1,h2⟩:=st;simp only [List.mem_cons,List.not_mem_nil,or_false] at hb;rcases hb with rfl | rfl | rfl | rfl | rfl
  ·exact ⟨_,hz,fun v q=>by have q':Data.fields _=Data.cell v:=q; cases q'⟩
  ·exact ⟨_,hTI,fun v q=>by have q':Data.seq _ _=Data.cell v:=q; cases q'⟩
  ·exact ⟨_,hTO,fun v q=>by have q':Data.seq _ _=Data.cell v:=q; cases q'⟩
  ·obtain ⟨o,e,q,_⟩:=(du h1);exact ⟨o,e,q⟩
  ·obtain ⟨o,e,q,_⟩:=(du h2);exact ⟨o,e,q⟩
 keep:=fun i h h' st k=>by
  obtain ⟨a,c,hz,hTI,hTO,h1,h2⟩:=st;exact ⟨a,c,k z (by simp) _ hz,k TI (by simp) _ hTI,k TO (by simp) _ hTO,h1.at fun o e=>k i1 (by simp) o e,h2.at fun o e=>k i2 (by simp) o e⟩
 item:=by
  intro X hP hw hK hc i pins s σ H E I hf st hg;subst hP hw hK;obtain ⟨a,b,hz,hTI,hTO,h1,h2⟩:=st;have hTn:H TO=none:=(hf TO (by simp)).1;obtain ⟨g1,g2⟩:=hg;obtain ⟨f1,Sa,Sb,P1,n1,a1,m1,b1,r1⟩:=nS (A:=X.A.in1) I h1 g1;obtain ⟨f2,Sc,Sd,P2,n2,a2,m2,b2,r2⟩:=nS (A:=X.A.in1) I h2 g2;refine tokQ I.tk (eF hz rfl (fu D n1 n2 (gu hTn hz h2 D.i1z D.TOi1.symm D.i12 m1) (gu hTn hz h1 D.i2z D.TOi2.symm D.i12.symm m2) hz hTI hTO a1 a2 fun x y h' tk p1 p2 z1 z2 q1 q2 z3 z4 kp (htk:0 < tk)=>?_));obtain ⟨vx,rx,ax⟩:=r1 x p1;obtain ⟨vy,ry,ay⟩:=r2 y p2;have fresh:H s.heap.objs.size=none:=I.hok.fresh (Nat.le_refl _);have off:∀ {c o},s.heap.get? c=some o->c≠s.heap.objs.size:=fun e=>Nat.ne_of_lt (Heap.lt_size e)
  refine ⟨_,rfl,wpAny_letOwnedTupleGo_zip z1 fun h'' z1' sb=>?_⟩
  replace sb:Heap.SameBut z h' h'':=sb
  have hT:IsPair h'' s.heap.objs.size x y:=sb.extBut _ _ (Ne.symm (off hz)) z3;have I1:Inv X pins σ (upd H s.heap.objs.size (.tup [vx,vy])) { s with heap:=h'',toks:=tk }:=by
   refine I.turnedLaid (its:=[z,TO,i1,i2]) (fun c o hc' e=>?_) (fun c hc'=>hf c ?_) (Nat.le_refl _) ?_
   ·simp only [List.mem_cons,List.not_mem_nil,or_false,not_or] at hc';exact sb.extBut _ _ hc'.1 (kp c o hc'.1 hc'.2.1 hc'.2.2.1 hc'.2.2.2 e)
   ·simp only [List.mem_cons,List.not_mem_nil,or_false] at hc' ⊢;rcases hc' with q | q | q | q
    ·exact .inl q
    ·exact .inr (.inr (.inl q))
    ·exact .inr (.inr (.inr (.inl q)))
    ·exact .inr (.inr (.inr (.inr q)))
   ·exact ⟨by show 2<=sizeLine; decide,[x,y],.cons rx (.cons ry .nil),_,hT,rfl,_,rfl⟩
  refine ⟨.ref s.heap.objs.size,_,I1,rfl,⟨_,vx,vy,rfl,fresh,rfl,ax,ay⟩,⟨x,y,z1',?_,?_,?_,?_⟩,fun c hc'=>?_⟩
  ·exact sb.extBut _ _ D.TIz (kp _ _ D.TIz D.TITO D.TIi1 D.TIi2 hTI)
  ·exact sb.extBut _ _ D.TOz z2
  ·exact (b1 h' q1).at fun o e=>sb.extBut _ _ D.i1z e
  ·exact (b2 h' q2).at fun o e=>sb.extBut _ _ D.i2z e
  ·have ne:c≠s.heap.objs.size:=by
    simp only [List.mem_cons,List.not_mem_nil,or_false] at hc';rcases hc' with rfl | rfl | rfl | rfl | rfl
    ·exact off hz
    ·exact off hTI
    ·exact off hTO
    ·obtain ⟨o,e,_⟩:=(du h1);exact off e
    ·obtain ⟨o,e,_⟩:=(du h2);exact off e
   rw [aA ne];exact (hf c hc').1
 done:=by
  intro X hP hw hK hc i pins s σ H E I hf st hg;subst hP hw hK;obtain ⟨a,b,hz,hTI,hTO,h1,h2⟩:=st;have hTn:H TO=none:=(hf TO (by simp)).1;have hh:X.A.in1.handled=none:=I.ok.hd hc;have fin:∀ (h':Heap) (tk:Nat),0 < tk->(∀ c o,c≠z->c≠TO->c≠i1->c≠i2->s.heap.get? c=some o->h'.get? c=some o)->Inv X pins σ H { s with heap:=h',toks:=tk }:=fun h' tk htk kp=>
   I.turnedL (its:=[z,TO,i1,i2]) (fun c o hc' e=>by
    simp only [List.mem_cons,List.not_mem_nil,or_false,not_or] at hc';exact kp c o hc'.1 hc'.2.1 hc'.2.2.1 hc'.2.2.2 e) (fun c hc'=>hf c (by
    simp only [List.mem_cons,List.not_mem_nil,or_false] at hc' ⊢;rcases hc' with q | q | q | q
    ·exact .inl q
    ·exact .inr (.inr (.inl q))
    ·exact .inr (.inr (.inr (.inl q)))
    ·exact .inr (.inr (.inr (.inr q)))))
  rcases hg with e1 | ⟨g1,e2⟩
  ·obtain ⟨f1,Sa,n1,a1,m1⟩:=sL I hh h1 e1;exact tokQ I.tk (bT hz rfl (fU D n1 (gu hTn hz h2 D.i1z D.TOi1.symm D.i12 m1) hz hTI a1 fun h' e tk kp he=>⟨e,rfl,he,fun htk=>⟨rfl,fin h' tk htk kp⟩⟩))
  ·obtain ⟨f1,Sa,Sb,P1,n1,a1,m1,b1,r1⟩:=nS (A:=X.A.in1) I h1 g1;obtain ⟨f2,Sc,n2,a2,m2⟩:=sL I hh h2 e2;exact tokQ I.tk (bT hz rfl (fT D n1 n2 (gu hTn hz h2 D.i1z D.TOi1.symm D.i12 m1) (gu hTn hz h1 D.i2z D.TOi2.symm D.i12.symm m2) hz hTI hTO a1 a2 fun h' e tk kp he=>⟨e,rfl,he,fun htk=>⟨rfl,fin h' tk htk kp⟩⟩))
 self:=fun _ _ _ _ _ st h=>by
  obtain ⟨a,b,hz,_⟩:=st;exact wpAny_pyIter_zip hz h
noncomputable abbrev tupIt0 (a:Addr):Obj:={ cls:=.type "tuple_iterator",data:=.fields #[.ref a,.int 0 0] }
noncomputable abbrev yH1 (h:Heap) (a:Addr):Heap:=h.push (tupIt0 a)
noncomputable abbrev yH2 (h:Heap) (a b:Addr):Heap:=(yH1 h a).push (tupIt0 b)
noncomputable abbrev yH3 (h:Heap) (a b:Addr):Heap:=(yH2 h a b).push { cls:=.type "tuple",data:=.seq #[.ref h.objs.size,.ref (yH1 h a).objs.size] }
noncomputable abbrev yH4 (h:Heap) (a b:Addr):Heap:=(yH3 h a b).push { cls:=.type "tuple",data:=.seq #[.none,.none] }
noncomputable abbrev yH5 (h:Heap) (a b:Addr):Heap:=(yH4 h a b).push { cls:=.type "zip",data:=.fields #[.none,.bool false,.bool false,.ref (yH2 h a b).objs.size,.ref (yH3 h a b).objs.size] }
theorem je (a b:Addr):
  Meets (Builtin.«zip.__new__» ⟨[.type "zip",.ref a,.ref b],[]⟩) (fun _ R s=>(∃ x,s.heap.IsTuple a x)/\(∃ x,s.heap.IsTuple b x) /\
   R (.ok (.ret (.ref (yH4 s.heap a b).objs.size))) { s with heap:=yH5 s.heap a b }):=
 .of_wp fun prog w A R s h=>by
  obtain ⟨hp,g,d,tk,os⟩:=s; obtain ⟨⟨x1,hl1⟩,⟨x2,hl2⟩,h⟩:=h;have hsub:=sub_zip;have hL1:Heap.IsTuple (Shared.heap ⟨hp,g,d,tk,os⟩) a x1:=hl1;have hL2:Heap.IsTuple (Shared.heap ⟨hp.push (tupIt0 a),g,d,tk,os⟩) b x2:=hl2.push _
  wp_walk using wpAny_pyIter_tuple hL1,wpAny_pyIter_tuple hL2
  exact ⟨_,rfl,h⟩
section
variable {prog:Program} {w:World} {A:Around} {E:Value->Shared->Prop} {s:Shared}
theorem qm {a b:Addr} {Q:Value->Shared->Prop} (hl1:∃ x,s.heap.IsTuple a x) (hl2:∃ x,s.heap.IsTuple b x)
  (h:∀ h',ZipTt (s.heap.objs.size+4) (s.heap.objs.size+2) (s.heap.objs.size+3) s.heap.objs.size (s.heap.objs.size+1) a b 0 h'->(∀ c o,s.heap.get? c=some o->h'.get? c=some o)->Q (.ref (s.heap.objs.size+4)) { s with heap:=h' }):
  wpAny (model prog w) A (call (.type "zip") [.ref a,.ref b]) Q E s:=by
 refine callType_new F.called_zip (by decide) (F.typeCall_zip_2 _ _) (F.newCall_zip_2 _ _) (fun obj=>F.args_object_init_3 obj _ _) F.entry_zip_new
  (je a b) ⟨hl1,hl2,?_⟩
 have z1:(yH1 s.heap a).objs.size=s.heap.objs.size+1:=Heap.size_push ..;have z2:(yH2 s.heap a b).objs.size=s.heap.objs.size+2:=by rw [Heap.size_push,z1]
 have z3:(yH3 s.heap a b).objs.size=s.heap.objs.size+3:=by rw [Heap.size_push,z2]
 have z4:(yH4 s.heap a b).objs.size=s.heap.objs.size+4:=by rw [Heap.size_push,z3]
 have g5:(yH5 s.heap a b).get? (yH4 s.heap a b).objs.size=some _:=Heap.get?_push_size _ rfl;have g4:(yH5 s.heap a b).get? (yH3 s.heap a b).objs.size=some _:=Heap.get?_push_of_some _ (Heap.get?_push_size _ rfl);have g3:(yH5 s.heap a b).get? (yH2 s.heap a b).objs.size=some _:=Heap.get?_push_of_some _ (Heap.get?_push_of_some _ (Heap.get?_push_size _ rfl));have g2:(yH5 s.heap a b).get? (yH1 s.heap a).objs.size=some (tupIt0 b):=Heap.get?_push_of_some _ (Heap.get?_push_of_some _ (Heap.get?_push_of_some _ (Heap.get?_push_size _ rfl)));have g1:(yH5 s.heap a b).get? s.heap.objs.size=some (tupIt0 a):=Heap.get?_push_of_some _ (Heap.get?_push_of_some _ (Heap.get?_push_of_some _ (Heap.get?_push_of_some _ (Heap.get?_push_size _ rfl))));show _/\_;rw [z2,z3,z4] at g5;rw [z1,z2] at g3;rw [z3] at g4;rw [z1] at g2;rw [z4];exact ⟨⟨_,g5,rfl⟩,h _ ⟨_,_,g5,g3,g4,⟨_,g1,rfl,rfl⟩,⟨_,g2,rfl,rfl⟩⟩ fun c o x=>
  Heap.get?_push_of_some _ (Heap.get?_push_of_some _ (Heap.get?_push_of_some _ (Heap.get?_push_of_some _ (Heap.get?_push_of_some _ x))))⟩
end
section
variable {X:Cx}
noncomputable def cZipA (K:Frag) (ta tb:TE):TI:=fun σ H R=>ta σ H fun x H1=>tb σ H1 fun y H2=>(srcK K H2 x fun S1=>srcK K H2 y fun S2=>R (Itz K S1 S2) H2)\/∃ a b,x=.ref a/\y=.ref b/\(∃ xs,H2 a=some (.tup xs))/\(∃ xs,H2 b=some (.tup xs))/\R (ItzT a b) H2
theorem uw {a b:Expr} {ta tb:TE} {elts:List Expr} {kk:Nat} {tpos p pos:Pos} {K:Frag} (hK:X.K=K) (hg:Gl X "zip") (hm:X.mg "zip" = none) (ha:PE X a ta) (hb:PE X b tb) (hs:starEach [a,b] X.env=[(false,eval a X.env),(false,eval b X.env)]:=by rfl) (hs2:starEach [b] X.env=[(false,eval b X.env)]:=by rfl):
  PI X (.Tuple elts kk tpos) (.Call (.Name "zip" p) [a,b] [] pos) (cZipA K ta tb):=by
 subst hK;intro pins s σ H R I h;have hA:PA X [a,b] _:=aa ha.mono (aa hb.mono ad hs2) (by rw [hs,hs2]);refine Call_ (fq I hg hm nk (PyProof.Rows.callWith_type1 (thn (hA pos pins s σ H (fun vs H2=>∃ x y,vs=[x,y]/\((srcK X.K H2 x fun S1=>srcK X.K H2 y fun S2=>R (Itz X.K S1 S2) H2)\/∃ a b,x=.ref a/\y=.ref b/\(∃ xs,H2 a=some (.tup xs))/\(∃ xs,H2 b=some (.tup xs))/\R (ItzT a b) H2)) I ⟨_,h,fun x H1 z=>⟨_,z,fun y H2 z=>⟨x,y,rfl,z⟩⟩⟩) fun us s1 ⟨vs,H1,I1,r1,q1⟩=>?_) (by rw [hs,hs2]) (by rw [hs2]; rfl)));obtain ⟨v1,v2,e,q⟩:=q1;subst e;cases r1 with
 | cons r rr=>
  cases rr with
  | cons r' rr=>
   cases rr;have fp:∀ c ∈ [s1.heap.objs.size+4,s1.heap.objs.size+2,s1.heap.objs.size+3,s1.heap.objs.size,s1.heap.objs.size+1],FpOk X pins H1 c:=fun c hc=>by
    have hc':s1.heap.objs.size<=c:=by
     simp only [List.mem_cons,List.not_mem_nil,or_false] at hc;rcases hc with rfl | rfl | rfl | rfl | rfl <;> omega
    exact I1.fpOk hc' (I1.hok.fresh hc')
   rcases q with q | ⟨a1,b1,rfl,rfl,⟨xs,e1⟩,⟨ys,e2⟩,q⟩
   ·obtain ⟨S1,o1,q⟩:=i6 q;obtain ⟨S2,o2,q⟩:=i6 q;obtain ⟨t1,rfl,k1⟩:=fK I1 o1 r;obtain ⟨t2,rfl,k2⟩:=fK I1 o2 r';refine li k1 k2 fun h' st kp=>?_
    have st':=st;obtain ⟨_,_,hz,_⟩:=st';exact wpAny_pyIter_zip hz ⟨_,_,_,Itz X.K S1 S2,H1,rfl,I1.kept (t':=s1.toks) kp,nc (ms _) S1 S2,st,fp,q⟩
   ·cases r;cases r';obtain ⟨_,_,p1,_⟩:=I1.tuple (SqT.of e1);obtain ⟨_,_,p2,_⟩:=I1.tuple (SqT.of e2);refine qm ⟨_,p1⟩ ⟨_,p2⟩ fun h' st kp=>?_
    have st':=st;obtain ⟨_,_,hz,_⟩:=st';exact wpAny_pyIter_zip hz ⟨_,_,_,ItzT a1 b1,H1,rfl,I1.kept (t':=s1.toks) kp,pP (ms _) a1 b1,st,fp,q⟩
theorem tQ {K:Frag} {ta tb:TE} {σ:St} {H:Hp} {R:It->Hp->Prop}:cZipA K ta tb σ H R=ta σ H fun x H1=>tb σ H1 fun y H2=>(srcK K H2 x fun S1=>srcK K H2 y fun S2=>R (Itz K S1 S2) H2)\/∃ a b,x=.ref a/\y=.ref b/\(∃ xs,H2 a=some (.tup xs))/\(∃ xs,H2 b=some (.tup xs))/\R (ItzT a b) H2:=rfl
end
theorem vt:bootBuiltins "all" = some (.builtin "all"):=by decide +kernel
section
variable {K:Frag} {J:It} {g:TG} {tc:TT} {te:TE} {σc:St} {D:Addr} {Q:VK} {H:Hp}
theorem lj {α:Type} (xs:List α) (R:α -> V->Hp->Prop) (hfree:H D=none) (hn:xs.length<=100000) (hgo:∀ i H1,i < xs.length->Same H H1->J.go i H1) (hst:∀ H1,Same H H1->J.stop xs.length H1)
  (hy:∀ i H1 v H2,i < xs.length->J.yld i H1 v H2->Same H1 H2)
  (mono:∀ x v H1 H2 acc,H1 D=some (.lst acc)->(∀ b o,b≠D->H1 b=some o->H2 b=some o)->R x v H1->R x v H2)
  (hs:∀ i x v H1 H2 (out:VK) (non:Hp->Prop),xs[i]? = some x->Same H H1->(∀ b,H1 b=none->b≠D)->J.yld i H1 v H2->(∀ v H6,Same H2 H6->R x v H6->out v H6) ->
   g v σc H2 fun σ4 H4=>tc σ4 H4 fun b H5=>if b=true then te σ4 H5 out else non H5)
  (hq:∀ H' vs,Same H H'->H' D=some (.lst vs)->Paired (fun x v=>R x v H') xs vs->Q (.ref D) H'):compW J g tc te σc D Q H:=by
 refine ⟨fun i m acc H2=>m=xs.length - i/\i<=xs.length/\Paired (fun x v=>R x v H2) (xs.take i) acc/\Same H H2/\H2 D=some (.lst acc),⟨xs.length,by simp,Nat.zero_le _,.nil,ag hfree _,upd_same⟩,?_⟩;rintro i m acc H2 ⟨rfl,hi,pr,sm,hD⟩;have len:acc.length<=i:=by
  have a:=pr.length;rw [List.length_take] at a;omega
 by_cases hlt:i < xs.length
 ·refine .inr ⟨hgo i H2 hlt sm,fun x H3 y=>?_⟩;have s3:=hy i H2 x H3 hlt y;have hD3:=s3 _ _ hD;refine hs i xs[i] x _ _ _ _ (List.getElem?_eq_getElem hlt) sm (fun b hb z=>by rw [z,hD] at hb; cases hb) y fun v H6 s6 r=>?_
  refine ⟨s6 _ _ hD3,Nat.lt_of_le_of_lt len (sizeBig (by omega)),xs.length - (i+1),by omega,rfl,hlt,?_,aW (sm.trans (s3.trans s6)) hfree,upd_same⟩;rw [List.take_add_one,List.getElem?_eq_getElem hlt];have lift:∀ {l:List α} {vs:List V} {z:α} {u:V} {F G:α -> V->Prop},(∀ a b,F a b->G a b)->Paired F l vs->G z u->Paired G (l++[z]) (vs++[u]):=by
   intro l vs z u F G f pp r
   induction pp with
   | nil=>exact .cons r .nil
   | cons r' _ ih=>exact .cons (f _ _ r') ih
  exact lift (fun _ _ r'=>mono _ _ H2 _ acc hD (fun b o nb q=>by rw [aA nb]; exact s6 _ _ (s3 _ _ q)) r') pr (mono _ _ H6 _ acc (s6 _ _ hD3) (fun b o nb q=>by rw [aA nb]; exact q) r)
 ·have hi':i=xs.length:=by omega
  subst hi';rw [List.take_length] at pr;exact .inl ⟨hst H2 sm,hq H2 acc sm hD pr⟩
end
section
variable {X:Cx} {o e:Expr} {to te:TE} {apos cpos:Pos}
end
end L2
namespace L2
open PySem PyProof.Rows
section
variable {α:Type} {le:α -> α -> Prop}
def Srt (le:α -> α -> Prop) (l:List α):Prop:=l.Pairwise le
structure MInv (le:α -> α -> Prop) (A B out:List α) (ia ib:Nat):Prop where
 ha:ia<=A.length
 hb:ib<=B.length
 srt:Srt le out
 low:∀ x ∈ out,(∀ y ∈ A.drop ia,le x y)/\∀ y ∈ B.drop ib,le x y
 perm:(out++(A.drop ia++B.drop ib)).Perm (A++B)
end
section
variable {α:Type} {le:α -> α -> Prop}
structure HInv (le:α -> α -> Prop) (A B out:List α) (na nb:Nat):Prop where
 ha:na<=A.length
 hb:nb<=B.length
 srt:Srt le out.reverse
 low:∀ x ∈ out,(∀ y ∈ A.take na,le y x)/\∀ y ∈ B.take nb,le y x
 perm:(A.take na++B.take nb++out).Perm (A++B)
end
section
variable {prog:Program} {w:World} {A:Around} {E:Value->Shared->Prop} {s:Shared}
abbrev At2 (st:SortSt) (P:Nat->Nat->Prop) (c:Option (Option Nat) × Nat × Nat) (st':SortSt):Prop:=st'=st/\∃ l o,c=(none,l,o)/\P l o
@[elab_as_elim] theorem At2.el {st:SortSt} {P:Nat->Nat->Prop} {motive:Option (Option Nat) × Nat × Nat->SortSt->Prop} {c:Option (Option Nat) × Nat × Nat} {st':SortSt} (h:At2 st P c st') (k:∀ l o,P l o->motive (none,l,o) st):motive c st':=by
 obtain ⟨rfl,l,o,rfl,h⟩:=h;exact k l o h
end
noncomputable abbrev leB (lt:Keyed->Keyed->Bool):Keyed->Keyed->Prop:=fun x y=>lt y x=false
section
variable {prog:Program} {w:World} {A:Around} {E:Value->Shared->Prop} {s:Shared}
abbrev Lo0 (lt:Keyed->Keyed->Bool) (a b:Array Keyed) (n:Nat) (c:Option (Array Keyed) × Array Keyed × Nat × Nat × Nat):Prop:=∃ out ia ib g,c=(none,out,ia,ib,g)/\MInv (leB lt) a.toList b.toList out.toList ia ib/\ia+1 < a.size/\ib < b.size/\n < ia+ib
@[elab_as_elim] theorem Lo0.el {lt:Keyed->Keyed->Bool} {a b:Array Keyed} {n:Nat} {motive:Option (Array Keyed) × Array Keyed × Nat × Nat × Nat->Prop} {c:Option (Array Keyed) × Array Keyed × Nat × Nat × Nat} (h:Lo0 lt a b n c) (k:∀ out ia ib g,MInv (leB lt) a.toList b.toList out.toList ia ib->ia+1 < a.size->ib < b.size->n < ia+ib->motive (none,out,ia,ib,g)):motive c:=by
 obtain ⟨out,ia,ib,g,rfl,h1,h2,h3,h4⟩:=h;exact k _ _ _ _ h1 h2 h3 h4
abbrev Lo1 (lt:Keyed->Keyed->Bool) (a b:Array Keyed) (n:Nat) (c:Option (Array Keyed) × Array Keyed × Nat × Nat × Nat × Nat):Prop:=∃ out ia ib ac bc,c=(none,out,ia,ib,ac,bc)/\MInv (leB lt) a.toList b.toList out.toList ia ib/\ia+1 < a.size/\ib < b.size/\n<=ia+ib
@[elab_as_elim] theorem Lo1.el {lt:Keyed->Keyed->Bool} {a b:Array Keyed} {n:Nat} {motive:Option (Array Keyed) × Array Keyed × Nat × Nat × Nat × Nat->Prop} {c:Option (Array Keyed) × Array Keyed × Nat × Nat × Nat × Nat} (h:Lo1 lt a b n c) (k:∀ out ia ib ac bc,MInv (leB lt) a.toList b.toList out.toList ia ib->ia+1 < a.size->ib < b.size->n<=ia+ib->motive (none,out,ia,ib,ac,bc)):motive c:=by
 obtain ⟨out,ia,ib,ac,bc,rfl,h1,h2,h3,h4⟩:=h;exact k _ _ _ _ _ h1 h2 h3 h4
abbrev Lo2 (lt:Keyed->Keyed->Bool) (a b:Array Keyed) (n:Nat) (c:Option (Array Keyed) × Array Keyed × Nat × Nat × Nat × Nat × Nat):Prop:=∃ out ia ib g ac bc,c=(none,out,ia,ib,g,ac,bc)/\MInv (leB lt) a.toList b.toList out.toList ia ib/\ia+1 < a.size/\ib < b.size/\n<=ia+ib
@[elab_as_elim] theorem Lo2.el {lt:Keyed->Keyed->Bool} {a b:Array Keyed} {n:Nat} {motive:Option (Array Keyed) × Array Keyed × Nat × Nat × Nat × Nat × Nat->Prop} {c:Option (Array Keyed) × Array Keyed × Nat × Nat × Nat × Nat × Nat} (h:Lo2 lt a b n c) (k:∀ out ia ib g ac bc,MInv (leB lt) a.toList b.toList out.toList ia ib->ia+1 < a.size->ib < b.size->n<=ia+ib->motive (none,out,ia,ib,g,ac,bc)):motive c:=by
 obtain ⟨out,ia,ib,g,ac,bc,rfl,h1,h2,h3,h4⟩:=h;exact k _ _ _ _ _ _ h1 h2 h3 h4
end
section
variable {prog:Program} {w:World} {A:Around} {E:Value->Shared->Prop} {s:Shared}
abbrev Hi0 (lt:Keyed->Keyed->Bool) (a b:Array Keyed) (x n:Nat) (c:Option (Array Keyed) × Nat × Nat × Array Keyed × Nat):Prop:=∃ na nb out g,c=(none,na,nb,out,g)/\HInv (leB lt) a.toList b.toList out.toList na nb/\0 < na/\1 < nb/\na+nb+x < n
@[elab_as_elim] theorem Hi0.el {lt:Keyed->Keyed->Bool} {a b:Array Keyed} {x n:Nat} {motive:Option (Array Keyed) × Nat × Nat × Array Keyed × Nat->Prop} {c:Option (Array Keyed) × Nat × Nat × Array Keyed × Nat} (h:Hi0 lt a b x n c) (k:∀ na nb out g,HInv (leB lt) a.toList b.toList out.toList na nb->0 < na->1 < nb->na+nb+x < n->motive (none,na,nb,out,g)):motive c:=by
 obtain ⟨na,nb,out,g,rfl,h1,h2,h3,h4⟩:=h;exact k _ _ _ _ h1 h2 h3 h4
abbrev Hi1 (lt:Keyed->Keyed->Bool) (a b:Array Keyed) (x n:Nat) (c:Option (Array Keyed) × Nat × Nat × Array Keyed × Nat × Nat):Prop:=∃ na nb out ac bc,c=(none,na,nb,out,ac,bc)/\HInv (leB lt) a.toList b.toList out.toList na nb/\0 < na/\1 < nb/\na+nb+x<=n
@[elab_as_elim] theorem Hi1.el {lt:Keyed->Keyed->Bool} {a b:Array Keyed} {x n:Nat} {motive:Option (Array Keyed) × Nat × Nat × Array Keyed × Nat × Nat->Prop} {c:Option (Array Keyed) × Nat × Nat × Array Keyed × Nat × Nat} (h:Hi1 lt a b x n c) (k:∀ na nb out ac bc,HInv (leB lt) a.toList b.toList out.toList na nb->0 < na->1 < nb->na+nb+x<=n->motive (none,na,nb,out,ac,bc)):motive c:=by
 obtain ⟨na,nb,out,ac,bc,rfl,h1,h2,h3,h4⟩:=h;exact k _ _ _ _ _ h1 h2 h3 h4
abbrev Hi2 (lt:Keyed->Keyed->Bool) (a b:Array Keyed) (x n:Nat) (c:Option (Array Keyed) × Nat × Nat × Array Keyed × Nat × Nat × Nat):Prop:=∃ na nb out g ac bc,c=(none,na,nb,out,g,ac,bc)/\HInv (leB lt) a.toList b.toList out.toList na nb/\0 < na/\1 < nb/\na+nb+x<=n
@[elab_as_elim] theorem Hi2.el {lt:Keyed->Keyed->Bool} {a b:Array Keyed} {x n:Nat} {motive:Option (Array Keyed) × Nat × Nat × Array Keyed × Nat × Nat × Nat->Prop} {c:Option (Array Keyed) × Nat × Nat × Array Keyed × Nat × Nat × Nat} (h:Hi2 lt a b x n c) (k:∀ na nb out g ac bc,HInv (leB lt) a.toList b.toList out.toList na nb->0 < na->1 < nb->na+nb+x<=n->motive (none,na,nb,out,g,ac,bc)):motive c:=by
 obtain ⟨na,nb,out,g,ac,bc,rfl,h1,h2,h3,h4⟩:=h;exact k _ _ _ _ _ _ h1 h2 h3 h4
end
section
variable {prog:Program} {w:World} {A:Around} {E:Value->Shared->Prop} {s:Shared}
end
end L2
namespace L2
open PySem PySem.Spec PyProof.Rows
section
variable {X:Cx} {pins:List (Addr × Obj)} {σ:St} {H:Hp} {s:Shared} {a:Addr} {e o:Expr} {te to ty:TE}
theorem kM:∀ as:List Addr,Vals (as.map V.ref) (as.map Value.ref)
 | []=>.nil
 | a::as=>.cons rfl (kM as)
end
section
variable {prog:Program} {w:World} {A:Around} {E:Value->Shared->Prop} {s:Shared}
end
section
variable {X:Cx}
end
section
variable {prog:Program} {w:World} {A:Around} {E:Value->Shared->Prop} {s:Shared}
end
section
variable {prog:Program} {w:World} {A:Around} {E:Value->Shared->Prop} {s:Shared}
end
theorem paired_flip {α β:Type} {R:α -> β -> Prop}:∀ {l:List α} {m:List β},Paired R l m->Paired (fun b a=>R a b) m l
 | _,_,.nil=>.nil
 | _,_,.cons r t=>.cons r (paired_flip t)
section
variable {X:Cx}
end
section
variable {prog:Program} {w:World} {A:Around} {E:Value->Shared->Prop} {s:Shared} {a:Addr} {δ:Type} {R:δ -> Value->Prop} {D:List (Str × δ)} {k:Str} {tk:Tok}
end
section
variable {X:Cx} {i:Expr} {p pos:Pos} {ty:TE} {x:Str}
end
section
variable {X:Cx} {k:Nat} {x:Str} {ps:List Str} {sp:Sp} {p pos:Pos} {e:Expr} {es:List Expr} {t:TA}
end
section
variable {prog:Program} {w:World} {A:Around} {E:Value->Shared->Prop} {s:Shared}
end
section
variable {X:Cx}
end
section
variable {X:Cx} {o e:Expr} {td ty to te:TE} {apos cpos:Pos}
end
section
variable {prog:Program} {w:World} {A:Around} {E:Value->Shared->Prop} {s:Shared} {it d:Addr} {i ep:Nat} {es:Array DictEntry}
def RawD (h:Heap) (d:Addr) (es:Array DictEntry) (ep:Nat):Prop:=∃ o,h.get? d=some o/\o.ExactDict/\o.data=.dict es ep
theorem RawD.ty (hm:RawD s.heap d es ep):s.TypeIs (.ref d) "dict" := let ⟨o,ho,hc,_⟩:=hm; ⟨o,ho,hc.1⟩
theorem RawD.to {h h':Heap} (hm:RawD h d es ep) (k:∀ o,h.get? d=some o->h'.get? d=some o):RawD h' d es ep:=let ⟨o,ho,r⟩:=hm; ⟨o,k o ho,r⟩
theorem RawD.lt {h:Heap} (hm:RawD h d es ep):d < h.objs.size:=let ⟨_,ho,_⟩:=hm; Heap.lt_size ho
theorem qS {Q:Value->Shared->Prop} (lo:(d == sysModules)=false) (hm:RawD s.heap d es ep)
  (q:Q (.ref s.heap.objs.size) { s with heap:=s.heap.push { cls:=.type "dict_keyiterator",data:=.fields #[.ref d,.int 0 0,.int es.size 0,.int ep 0] } }):wpAny (model prog w) A (pyIter (.ref d)) Q E s:=by
 have ty:=hm.ty;obtain ⟨o,ho,hc,hdat⟩:=hm;refine wpAny_pyIter_slot ty PySem.F.slot_dict_iter (wpAny_call_entry PySem.F.slot_dict_iter ty PySem.F.entry_dict_iter ?_ (PySem.F.args_dict_iter_1 _));unfold Builtin.«dict.__iter__»; refine wpAny_bind ?_; unfold Builtin.Dict.dictSlotNone; refine wpAny_bind (wpAny_notOrdered_dict ty ?_);change wpAny _ _ (pure _) _ _ s; refine wpAny_pure ?_; change wpAny _ _ (Builtin.Dict.showsAll d>>=_) _ _ s; unfold Builtin.Dict.showsAll; rw [if_neg (by simp [lo])];exact wpAny_bind (wpAny_pure (wpAny_bind (wpAny_dictEntries ho hdat (wpAny_bind (wpAny_dictEpoch ho hdat (wpAny_bind (wpAny_newObj_type (wpAny_pure ⟨_,rfl, "dict_keyiterator",_,⟨_,Heap.get?_push_size _ rfl,rfl⟩,PySem.F.slot_dict_keyiterator_next.lookup,by simpa [rawInt] using q⟩))))))))
theorem lq {Q:Option Value->Shared->Prop} (hh:A.handled=none) (hit:s.heap.IsKeyIter it d i es.size ep) (hm:RawD s.heap d es ep)
  (one:∀ e h',es[i]? = some e->h'.IsKeyIter it d (i+1) es.size ep->Heap.SameBut it s.heap h'->Q (some e.key) { s with heap:=h' })
  (non:es[i]? = none->∀ h',Heap.ExtBut it s.heap h'->Q none { s with heap:=h' }):wpAny (model prog w) A (pyNext (.ref it)) Q E s:=by
 have ty:=hit.typeIs;obtain ⟨o,ho,hc,hd⟩:=id hit;obtain ⟨od,hod,_,hdd⟩:=id hm;unfold pyNext; refine wpAny_bind (wpAny_attempt (wpAny_callSpecial?_slot (name:=Str.ofString "__next__") ty PySem.F.slot_dict_keyiterator_next (wpAny_call_entry PySem.F.slot_dict_keyiterator_next ty PySem.F.entry_dict_keyiterator_next ?_ (PySem.F.args_dict_keyiterator_next_1 _))));refine wpAny_bind (wpAny_pure (wpAny_bind (wpAny_bind ?_))); refine wpAny_bind (wpAny_typeNameOfWhole_keyiter ty (wpAny_pure (wpAny_bind (wpAny_fieldsOf ho hd ?_))));simp only [show Builtin.Dict_items.ownsTuple "dict_keyiterator" = false by decide,if_false,Bool.false_eq_true];change wpAny _ _ (if (Value.ref d == Value.none)=true then _ else _) _ _ s;rw [if_neg (nofun:¬ ((Value.ref d == Value.none)=true))];refine wpAny_bind (wpAny_pure (wpAny_bind (wpAny_dictEntries hod hdd ?_))); rw [if_neg (by simp)];refine wpAny_bind (wpAny_pure (wpAny_bind (wpAny_dictEpoch hod hdd ?_))); rw [if_neg (by simp)]; refine wpAny_pure ?_;simp only [Int.toNat_natCast,show ¬ ((i:Int) < 0) by omega,if_false];cases he:es[i]? with
 | some e=>
  refine wpAny_bind ?_; refine wpAny_bind (wpAny_typeNameOfWhole_keyiter ty (wpAny_pure ?_)); refine wpAny_bind (wpAny_isOneOf_keyiter ty ?_);change wpAny _ _ (setField (.ref it) 1 (rawInt ((i:Int)+1))>>=_) _ _ s; refine wpAny_bind (wpAny_setField ho hd (by simp) ?_);have nx:(s.heap.update it (Obj.mapFields (·.setIfInBounds 1 (rawInt ((i:Int)+1))))).IsKeyIter it d (i+1) es.size ep:=⟨_,Heap.get?_update_self _ ho (Obj.isFreed_of_fields (Obj.data_mapFields hd _)),(Obj.cls_mapFields ..).trans hc,by rw [Obj.data_mapFields hd]; simp [rawInt]⟩;refine wpAny_bind (wpAny_holding (wpAny_bind (wpAny_isOneOf_keyiter (s:={ s with heap:=s.heap.update it (Obj.mapFields (·.setIfInBounds 1 (rawInt ((i:Int)+1)))) }) nx.typeIs ?_)));change wpAny _ _ (pure e.key) _ _ _; exact wpAny_pure (wpAny_pure ⟨_,rfl,wpAny_pure (one e _ he nx (Heap.SameBut.update ..))⟩)
 | none=>
  refine wpAny_bind ?_; refine wpAny_bind (wpAny_typeNameOfWhole_keyiter ty (wpAny_pure ?_));change wpAny _ _ (setField (.ref it) 0 .none>>=_) _ _ s; refine wpAny_bind (wpAny_setField ho hd (by simp) ?_);change wpAny _ _ (newExc (.type "StopIteration") []>>=_) _ _ _; refine wpAny_bind ?_; simp only [newTuple,newExc];refine wpAny_bind (wpAny_newObj_type (wpAny_bind (m:=firstArgMember _ _) (wpAny_of_eq (a:=Value.none) (by first | rfl | (unfold firstArgMember; rfl)) (wpAny_newObj_type ?_ (by size_fits)))) (by size_fits));simp only [raiseNew]; refine wpAny_bind (wpAny_handled ?_); rw [show A.in1.handled=_ from hh]; refine wpAny_bind (wpAny_pure (wpAny_throw ?_));refine wpAny_bind (wpAny_isInstance (b:=true) (T := "StopIteration") ⟨_,Heap.get?_push_size _ rfl,rfl⟩ isSubtype_stop (wpAny_pure (non he _ ?_)));exact ((Heap.SameBut.update ..).extBut.push _).push _
theorem nT (hh:A.handled=none) (I d:Addr) (ne:d≠I) (es:Array DictEntry) (ep:Nat):Walks prog w A I [I,d] [I] es.size (fun i v=>∃ e,es[i]? = some e/\v=e.key) (fun i h=>h.IsKeyIter I d i es.size ep/\RawD h d es ep) where
 sub:=fun b hb=>by simp only [List.mem_singleton] at hb; simp [hb]
 frame:=fun _ _ _ st k=>⟨Heap.IsKeyIter.at st.1 fun o e=>k I (by simp) o e,st.2.to fun o e=>k d (by simp) o e⟩
 item:=fun i s Q E hi st q=>lq hh st.1 st.2 (fun e h' he it' sb=>q e.key h' s.toks ⟨e,he,rfl⟩ ⟨it',st.2.to fun o z=>sb.extBut d o ne z⟩ fun b o hb z=>sb.extBut b o (fun y=>hb (by simp [y])) z) fun he=>by simp [hi] at he
 done:=fun s Q E st q=>lq hh st.1 st.2 (fun e h' he=>by simp at he) fun _ h' eb=>q h' s.toks fun b o hb z=>eb b o (fun y=>hb (by simp [y])) z
 self:=fun _ _ _ _ st q=>wpAny_pyIter_keyiter st.1 q
theorem rQ (lo:(d == sysModules)=false):PySem.W.KdlSrc prog w "dict" d d es.size (fun i v=>∃ e,es[i]? = some e/\v=e.key) (fun h=>RawD h d es ep) where
 type:=fun _ hm=>hm.ty
 there:=fun _ hm=>⟨hm.lt,hm.lt⟩
 keep:=fun _ _ hm k=>hm.to fun o e=>k d (.inl rfl) o e
 notList:=by decide
 notTuple:=by decide
 hint:=fun _ _ _ _ hm q=>PySem.W.kdl_hint_dict hm.ty q
 iter:=fun _ _ hh hm=>⟨_,_,(fun _ _ q=>qS lo hm q),nT hh _ d (Nat.ne_of_lt hm.lt) es ep,⟨⟨_,Heap.get?_push_size _ rfl,rfl,rfl⟩,hm.to fun o e=>Heap.get?_push_of_some _ e⟩⟩
end
section
variable {X:Cx}
theorem pD {H:Hp}:∀ {kvs:List (List Key × V)} {xs:List (List Key × Addr × Value)},KT H kvs xs->Paired (fun (kv:List Key × V) v=>∃ b,v=.ref b/\H b=some (.tup (kv.1.map kV))) kvs (xs.map fun x=>V.ref x.2.1)
 | _,_,.nil=>.nil
 | _,_,.cons h t=>.cons ⟨_,rfl,h.2.1⟩ (pD t)
noncomputable def kListD:List V->Hp->VK->Prop:=fun xs H Q=>match xs with
 | [.ref a]=>∃ kvs:List (List Key × V),H a=some (.dT kvs)/\∀ p vs,H p=none->Paired (fun (kv:List Key × V) v=>∃ b,v=.ref b/\H b=some (.tup (kv.1.map kV))) kvs vs->Q (.ref p) (upd H p (.lst vs))
 | _=>False
theorem gq (hc:X.calm=true):CallR X (.type "list") kListD:=by
 intro pins s σ H xs us Q I r q;unfold kListD at q;split at q
 ·obtain ⟨kvs,e,q⟩:=q;rename_i a;obtain ⟨u,rfl,ru⟩:=vals1 r;obtain rfl:u=Value.ref a:=ru;obtain ⟨z,lo,xs,kt,o,es,ep,ho,hx,hdat,hes,_⟩:=vh I.hok e;have hsz:es.size=xs.length:=size_of_entries hes;have hlen:kvs.length=xs.length:=Paired.length kt;refine tokQ I.tk (PySem.W.kdl_call (rQ (es:=es) (ep:=ep) lo) (I.ok.hd hc) ⟨o,ho,hx,hdat⟩ (by omega) fun h' tk acc c' kp hl hi (htk:0 < tk)=>?_);have hacc:acc.toList=(xs.map fun x=>x.2.1).map Value.ref:=by
   refine List.ext_getElem? fun j=>?_
   rw [Array.getElem?_toList];cases hj:acc[j]? with
   | none=>
    have:=Array.getElem?_eq_none_iff.mp hj;rw [List.getElem?_eq_none (by rw [List.length_map,List.length_map]; have:=hi.1; omega)]
   | some v=>
    obtain ⟨e1,h1,rfl⟩:=hi.2 j v hj;rw [entry_at hes j] at h1;obtain ⟨x,hx1,rfl⟩:=Option.map_eq_some_iff.mp h1;rw [List.getElem?_map,List.getElem?_map,hx1];rfl
  refine ⟨.ref s.heap.objs.size,_,I.laid (a:=s.heap.objs.size) (o:=.lst (xs.map fun x=>V.ref x.2.1)) kp (Nat.le_refl _) ⟨?_,acc.toList,c',?_,by simpa using hl⟩,rfl,q _ _ I.fresh (pD kt)⟩
  ·rw [List.length_map];omega
  ·rw [hacc,show (xs.map fun x=>V.ref x.2.1)=(xs.map fun x=>x.2.1).map V.ref by rw [List.map_map]; rfl];exact kM _
 ·exact q.elim
theorem rd {a:Addr} {H:Hp} {Q:VK}:kListD [.ref a] H Q=∃ kvs:List (List Key × V),H a=some (.dT kvs)/\∀ p vs,H p=none->Paired (fun (kv:List Key × V) v=>∃ b,v=.ref b/\H b=some (.tup (kv.1.map kV))) kvs vs->Q (.ref p) (upd H p (.lst vs)):=rfl
end
section
variable {X:Cx}
noncomputable def kCatT (K:Frag):R2:=fun x y H Q=>match x,y with
 | .ref a,.ref b=>∃ xs ys,SqT K H a xs/\SqT K H b ys/\xs≠[]/\ys≠[]/\xs.length+ys.length<=1000/\∀ p,H p=none->Q (.ref p) (upd H p (.tup (xs++ys)))
 | _,_=>False
theorem uM (K:Frag) (hK:X.K=K):OpR X (binaryOp .Add) (kCatT K):=by
 subst hK;intro pins s σ H x y v u Q I rx ry q;unfold kCatT at q;split at q
 ·obtain ⟨xs,ys,h1,h2,h3,h4,h5,q⟩:=q;refine tZ pins s σ H _ _ v u Q I rx ry ⟨_,_,xs,ys,rfl,rfl,h1,h2,h3,Nat.le_trans h5 (by decide),fun z=>absurd z h4,fun _ p hp=>q p hp⟩
 ·exact q.elim
theorem uI {K:Frag} {a b:Addr} {H:Hp} {Q:VK}:kCatT K (.ref a) (.ref b) H Q=∃ xs ys,SqT K H a xs/\SqT K H b ys/\xs≠[]/\ys≠[]/\xs.length+ys.length<=1000/\∀ p,H p=none->Q (.ref p) (upd H p (.tup (xs++ys))):=rfl
end
noncomputable def minT:List (List Nat)->List Nat
 | []=>[]
 | x::l=>l.foldl (fun m y=>if y < m then y else m) x
theorem lg (f:Nat->List Nat):∀ n,f (argBest (fun i j=>decide (f i < f j)) n)=((List.range n).map fun i=>f (i+1)).foldl (fun m y=>if y < m then y else m) (f 0)
 | 0=>rfl
 | n+1=>by
  rw [List.range_succ,List.map_append,List.foldl_append,<- lg f n];generalize e:(fun i j=>decide (f i < f j))=bt;rw [show argBest bt (n+1)=if bt (n+1) (argBest bt n) then n+1 else argBest bt n from rfl];generalize argBest bt n=k;subst e;simp only [decide_eq_true_eq,List.map_cons,List.map_nil,List.foldl_cons,List.foldl_nil];split <;> rfl
theorem sj {l:List (List Nat)} (h:0 < l.length):l.getD (argBest (fun i j=>decide (l.getD i [] < l.getD j [])) (l.length - 1)) []=minT l:=by
 rw [lg (fun i=>l.getD i [])];cases l with
 | nil=>simp at h
 | cons x l=>
  show _=l.foldl _ x;congr 1;apply List.ext_getElem?;intro i;by_cases c:i < l.length
  ·simp [c]
  ·rw [List.getElem?_eq_none (by simp; omega),List.getElem?_eq_none (by omega)]
section
variable {X:Cx}
theorem qR {prog:Program} {w:World} {A:Around} {E:Value->Shared->Prop} {s:Shared} {l:Addr} {its:List Value} {ts:List (List Nat)} {Q:Value->Shared->Prop} (hh:A.handled=none) (hl:s.heap.IsList l its.toArray) (hv:Vals (ts.map fun x=>V.str (st x)) its) (hne:0 < ts.length)
  (q:∀ t h' tk,(∀ b o,s.heap.get? b=some o->h'.get? b=some o)->Q (.str (st (minT ts)) t) { s with heap:=h',toks:=tk }):wpAny (model prog w) A (call (.builtin "min") [.ref l]) Q E s:=by
 have lt:l < s.heap.objs.size:=by obtain ⟨_,e,_⟩:=hl; exact Heap.lt_size e
 have hlen:ts.length=its.length:=by have:=Paired.length hv; simpa using this
 have at_:∀ (i:Nat) (v:Value),its.toArray[i]? = some v->∃ t,v=Value.str (st (ts.getD i [])) t:=fun i v e=>by
  have hi:i < ts.length:=by
   have:=(Array.getElem?_eq_some_iff.mp e).1;simp at this;omega
  obtain ⟨u,hu,t,ru⟩:=aD hv (j:=i) (x:=V.str (st ts[i])) (by rw [List.getElem?_map,List.getElem?_eq_getElem hi]; rfl);rw [List.getElem?_toArray] at e;rw [hu] at e;cases e;exact ⟨t,by rw [ru,List.getD_eq_getElem?_getD,List.getElem?_eq_getElem hi]; rfl⟩
 refine call_min_walk (wpAny_pyIter_list hl ⟨_,_,_,_,_,_,fun i j=>decide (ts.getD i [] < ts.getD j []),rfl,Walks.list (A:=A.in1) hh _ l (Nat.ne_of_lt lt) its.toArray,⟨⟨_,Heap.get?_push_size _ rfl,rfl,rfl⟩,hl.push _⟩,fun b hb=>?_,?_,fun i j vi vj s Q E hi hj h=>?_,fun v h' tk hP hk=>?_⟩)
 ·show b < (s.heap.push _).objs.size;rw [Heap.size_push];simp only [List.mem_cons,List.not_mem_nil,or_false] at hb;rcases hb with rfl | rfl
  ·exact Nat.lt_succ_self _
  ·exact Nat.lt_succ_of_lt lt
 ·simpa [<- hlen] using hne
 ·obtain ⟨t,rfl⟩:=at_ i vi hi;obtain ⟨u,rfl⟩:=at_ j vj hj;have h':Q (.bool ((st (ts.getD i [])).cps.toList < (st (ts.getD j [])).cps.toList)) s:=by simpa only [al] using h
  exact PyProof.Rows.lt_str h'
 ·obtain ⟨t,rfl⟩:=at_ _ v hP;have hsz:its.toArray.size=ts.length:=by simp [hlen]
  rw [hsz,sj hne];refine q t h' tk fun b o e=>hk b o ?_ (Heap.get?_push_of_some _ e)
  simp only [List.mem_singleton];exact Nat.ne_of_lt (Heap.lt_size e)
noncomputable def kMinS (K:Frag):List V->Hp->VK->Prop:=fun xs H Q=>match xs with
 | [.ref p]=>∃ ts:List (List Nat),SqL K H p (ts.map fun x=>V.str (st x))/\0 < ts.length/\Q (.str (st (minT ts))) H
 | _=>False
theorem ld (K:Frag) (hK:X.K=K) (hc:X.calm=true):CallR X (.builtin "min") (kMinS K):=by
 subst hK;intro pins s σ H xs us Q I r q;unfold kMinS at q;split at q
 ·obtain ⟨ts,hq,hn,q⟩:=q;obtain ⟨u,rfl,ru⟩:=vals1 r;cases ru;obtain ⟨its,rv,pl,_⟩:=I.list hq;refine tokQ I.tk (qR (I.ok.hd hc) pl.isList rv hn fun t h' tk kp (htk:0 < tk)=>?_);exact ⟨.str (st (minT ts)),H,I.kept kp htk,⟨t,rfl⟩,q⟩
 ·exact q.elim
theorem tG {K:Frag} {p:Addr} {H:Hp} {Q:VK}:kMinS K [.ref p] H Q=∃ ts:List (List Nat),SqL K H p (ts.map fun x=>V.str (st x))/\0 < ts.length/\Q (.str (st (minT ts))) H:=rfl
end
section
variable {X:Cx} {o e:Expr} {to te:TE} {apos cpos:Pos}
theorem iA {H:Hp} {zs:List V}:∀ {xs:List V} {us:List Value},Vals xs us->(∀ y ∈ xs,FlatT H y)->∀ (i:Nat) (h1:i < us.length) (h2:i < xs.length),tupEqU H zs us[i]=tupEq H zs xs[i]
 | y::xs,u::us,.cons r t,f,0,_,_=>by
  obtain ⟨a,ys,rfl,_⟩:=f _ List.mem_cons_self;cases r;rfl
 | y::xs,u::us,.cons r t,f,i+1,h1,h2=>iA t (fun z hz=>f z (List.mem_cons_of_mem _ hz)) i (Nat.lt_of_succ_lt_succ h1) (Nat.lt_of_succ_lt_succ h2)
noncomputable def rIndexT (K:Frag) (k:Nat):V->List V->Hp->VK->Prop:=fun x vs H Q=>∃ p r zs xs,x=.ref p/\vs=[.ref r]/\SqL K H p xs/\xs.length<=100000/\H r=some (.tup zs)/\zs.all flatV=true/\(∀ y ∈ xs,FlatT H y)/\xs.any (tupEq H zs)=true/\Q (.int (xs.findIdx (tupEq H zs):Nat)) H
theorem qJ {k:Nat} (hr:Room k X.A):MtR X "list.index" (rIndexT X.K k):=by
 intro pins s σ H x vs v us Q I rx rv h;obtain ⟨p,r,zs,xs,rfl,rfl,hq,hn,hz,fz,fs,ha,q⟩:=h;cases rx;obtain ⟨u,rfl,ru⟩:=vals1 rv;cases ru;obtain ⟨its,rl,pl,_⟩:=I.list hq;have hlen:xs.length=its.length:=Paired.length rl;have hj:xs.findIdx (tupEq H zs) < xs.length:=List.findIdx_lt_length.mpr (by simpa using ha);obtain ⟨⟨cls,dd,data,sl⟩,ho,hc,n,hd⟩:=pl.isList;simp only at hc hd;subst hc hd;refine call_meets PySem.F.slot_list_index ⟨_,ho,rfl⟩ PySem.F.entry_list_index (PySem.F.args_list_index_2 _ _) (SeqAt.list_indexAt p its.toArray n dd sl (.ref r) (tupEqU H zs) (xs.findIdx (tupEq H zs)) (by simp; omega) (by omega) ?_ fun m hm hlt=>?_) ⟨ho,fun w hw=>?_,?_⟩
 ·simp only [List.getElem_toArray];rw [iA rl fs _ (by omega) hj];exact List.findIdx_getElem
 ·simp only [List.getElem_toArray];rw [iA rl fs _ (by simpa using hm) (by omega)];exact List.not_of_lt_findIdx hlt
 ·have hw:w ∈ its:=by simpa using hw
  obtain ⟨y,hy,ry⟩:=eR rl w hw;obtain ⟨t,ys,rfl,ht,fy⟩:=fs y hy;cases ry;have:=fL I 1 X.A.in1 (.ref t) (.ref r) (.t (ys.map D.f)) (.t (zs.map D.f)) (.ref t) (.ref r) (by have:=hr.un; show X.A.units+1+1 < _; omega) (.inr (.inr ⟨t,ys,_,rfl,rfl,SqT.of ht,cF fy⟩)) (.inr (.inr ⟨r,zs,_,rfl,rfl,SqT.of hz,cF fz⟩)) rfl rfl;have e:tupEqU H zs (.ref t)=eqD (.t (ys.map D.f)) (.t (zs.map D.f)):=by
   show tupEq H zs (.ref t)=_;unfold tupEq;simp only [ht];rw [eqD]
  rw [e];exact this
 ·exact ⟨.int _,H,I.tok _,⟨_,rfl⟩,q⟩
noncomputable def cIndexT (K:Frag) (to te:TE):TE:=fun σ H Q=>to σ H fun x H1=>match x with
 | .ref p=>(∃ xs,SqL K H1 p xs)/\te σ H1 fun y H2=>match y with
  | .ref r=>∃ zs xs,SqL K H2 p xs/\xs.length<=100000/\H2 r=some (.tup zs)/\zs.all flatV=true/\(∀ y ∈ xs,FlatT H2 y)/\xs.any (tupEq H2 zs)=true/\Q (.int (xs.findIdx (tupEq H2 zs):Nat)) H2
  | _=>False
 | _=>False
theorem kC (K:Frag) (hK:X.K=K) {k:Nat} (hr:Room k X.A) (ho:PE X o to) (he:PE X e te) (hbase:attributeBase o "index" X.env (eval o X.env)=eval o X.env:=by rfl)
  (hfew:((backTo cpos (starEach [e] X.env)).all (fun x=>!x.1) && (backToKw cpos (keywordEach [] X.env)).all (fun x=>x.1.isSome) && decide ([e].length+([]:List Keyword).length+(if ([]:List Keyword).isEmpty then 0 else 1) < 30))=true:=by rfl)
  (hline:(apos.endLine == cpos.line)=true:=by rfl) (hs:starEach [e] X.env=(false,eval e X.env)::starEach [] X.env:=by rfl) (hplain:(backTo cpos (starEach [] X.env)).any (·.1)=false:=by rfl):
  PE X (.Call (.Attribute o "index" apos) [e] [] cpos) (cIndexT K to te):=by
 subst hK;exact (lb PySem.F.plainAttrs_list PySem.F.slot_list_index PySem.F.type_list_index (qJ hr) ho.mono (aa he.mono ad hs) hbase hfew hline hs hplain).imp fun σ H Q q=>⟨_,q,fun x H1 z=>by
  split at z
  ·rename_i p;obtain ⟨⟨xs,h⟩,z⟩:=z;refine ⟨.inl ⟨rfl,_,h⟩,_,z,fun y H2 z2=>?_⟩;split at z2
   ·obtain ⟨zs,xs2,h1,h2,h3,h4,h5,h6,z3⟩:=z2;exact ⟨p,_,zs,xs2,rfl,rfl,h1,h2,h3,h4,h5,h6,z3⟩
   ·exact z2.elim
  ·exact z.elim⟩
theorem pZ {K:Frag} {σ:St} {H:Hp} {Q:VK}:cIndexT K to te σ H Q=to σ H fun x H1=>match x with
 | .ref p=>(∃ xs,SqL K H1 p xs)/\te σ H1 fun y H2=>match y with
  | .ref r=>∃ zs xs,SqL K H2 p xs/\xs.length<=100000/\H2 r=some (.tup zs)/\zs.all flatV=true/\(∀ y ∈ xs,FlatT H2 y)/\xs.any (tupEq H2 zs)=true/\Q (.int (xs.findIdx (tupEq H2 zs):Nat)) H2
  | _=>False
 | _=>False:=rfl
end
theorem lV:typeLookup (.type "list") "keys" = pure none:=am_miss_of_fast (by kernel_rfl)
section
variable {prog:Program} {w:World} {A:Around} {E:Value->Shared->Prop} {s:Shared} {a:Addr} {its:Array Value} {n:Nat}
theorem pM {Q:Option Value->Shared->Prop} (hx:s.heap.get? a=some { cls:=.type "list",dict:=none,data:=.seq its n,slots:=#[] }) (hA:A.handled=none)
  (q:∀ h' tk,(∀ b o,s.heap.get? b=some o->h'.get? b=some o)->Q none { s with heap:=h',toks:=tk }):wpAny (model prog w) A (getAttr? (.ref a) "keys") Q E s:=by
 obtain ⟨hp,g,d,tk,os⟩:=s;have ty:∀ tk',(⟨hp,g,d,tk',os⟩:Shared).TypeIs (.ref a) "list" := fun _=>⟨_,hx,rfl⟩
 have g1:=sub_AttributeError; have g3:=PySem.F.slot_list_getattribute.lookup; have g4:=PySem.F.slot_list_getattribute.bind (.ref a); have g5:=am_list_getattr_none;unfold getAttr? getAttrBy? getAttrBy
 repeat (any_goals (first | assumption | exact ty _ | ((with_reducible show wpAny _ _ (call (Value.builtin "list.__getattribute__") _ _) _ _ _); refine call_meets PySem.F.slot_list_getattribute (ty _) am_entry_list_getattribute (PySem.F.args_list_getattribute_2 _ _) (meets_getattribute_miss_list a its n #[] "keys" _ lV (by decide) (by size_fits)) ⟨hx,hA,fun h' tk' e hx'=>?_⟩) | wp_step))
 obtain ⟨t',u',he⟩:=hx'.there;show wpAny _ _ (getattributeRaised _ _ _ _ _ _ _) _ _ _;unfold getattributeRaised
 repeat (any_goals (first | assumption | wp_step))
 exact q h' tk' hx'.keeps
end
theorem bV:plainId "dict.update.loop" = true:=by decide +kernel
theorem fA:entryFor table "dict.update.loop" = some Builtin.«dict.update.loop»:=entryFor_of_tree (by kernel_rfl)
section
variable {prog:Program} {w:World} {A:Around} {E:Value->Shared->Prop} {K:Type} [DecidableEq K] {knd:KeyKind prog w K}
theorem se {s:Shared} {d I l t:Addr} {i n:Nat} {its:Array Value} {kvs:List (K × Value)} {k:K} {key v:Value} {o:Obj} {Q:PySem.Fin->Shared->Prop} (hit:s.heap.IsListIter I l i) (hl:s.heap.IsList l its) (hx:its[i]? = some (.ref t)) (ht:s.heap.get? t=some o) (tc:o.cls=.type "tuple") (td:o.data=.seq #[key,v] n)
  (hk:knd.is k key=true) (hd:s.heap.DictOf knd d kvs) (hz:kvs.length<=sizeLine) (nt:t≠I) (nd:d≠I)
  (q:∀ h' tk,h'.IsListIter I l (i+1)->h'.DictOf knd d (stored kvs k v)->(∀ b o,b≠I->b≠d->s.heap.get? b=some o->h'.get? b=some o)->Q (.again (.builtin "dict.update.loop" ⟨[.ref d,.ref I,rawInt ((i:Int)+1),.none],[]⟩)) { s with heap:=h',toks:=tk }):
  wpAny (model prog w) A (Builtin.«dict.update.loop» ⟨[.ref d,.ref I,rawInt i,.none],[]⟩) Q E s:=by
 unfold Builtin.«dict.update.loop»;refine wpAny_bind (wpAny_pyNext_list_item hit hl hx fun h1 hit1 sb=>?_);have ht1:=sb.extBut t _ nt ht;have hT:({ s with heap:=h1 }:Shared).TypeIs (.ref t) "tuple" := ⟨_,ht1,tc⟩;have hd1:h1.DictOf knd d kvs:=by
  obtain ⟨o,es,ep,ho,r⟩:=hd;exact ⟨o,es,ep,sb.extBut d o nd ho,r⟩
 change wpAny _ _ (holding [Value.ref t] _>>=_) _ _ _;refine wpAny_bind (wpAny_holding (wpAny_bind ?_));change wpAny _ _ (tryCatch _ _) _ _ _;refine wpAny_tryCatch ?_;unfold Builtin.Dict.pairItems;refine wpAny_bind (wpAny_typeOf hT ?_);rw [if_pos (by decide)];refine wpAny_bind (wpAny_seqItems ht1 td (wpAny_pure ?_));change wpAny _ _ (holding [key,v] (dictSet d key v)) _ _ _;unfold dictSet;refine wpAny_holding (wpAny_holding (wpAny_bind (knd.pyHash hk (wpAny_dictSetHashed_pairs (s:={ s with heap:=h1,toks:=s.toks+1 }) hk hd1 (fun h2 hd2 sb2=>?_) hz))));change wpAny _ _ (pure _) _ _ _;refine wpAny_pure (q h2 (s.toks+1) ?_ hd2 fun b o n1 n2 e=>sb2.extBut b o n2 (sb.extBut b o n1 e));obtain ⟨o,ho,r⟩:=hit1;exact ⟨o,sb2.extBut I o (Ne.symm nd) ho,r⟩
theorem uH {s:Shared} {d I l:Addr} {i:Nat} {its:Array Value} {Q:PySem.Fin->Shared->Prop} (hh:A.handled=none) (hit:s.heap.IsListIter I l i) (hl:s.heap.IsList l its) (hx:its[i]? = none)
  (q:∀ h',Heap.ExtBut I s.heap h'->Q (.done (.ret .none)) { s with heap:=h' }):wpAny (model prog w) A (Builtin.«dict.update.loop» ⟨[.ref d,.ref I,rawInt i,.none],[]⟩) Q E s:=by
 unfold Builtin.«dict.update.loop»;refine wpAny_bind (wpAny_pyNext_list_end hh hit hl hx fun h1 eb=>?_);change wpAny _ _ (Builtin.Dict.addKeywords d []>>=_) _ _ _;exact wpAny_bind (wpAny_pure (wpAny_pure (q h1 eb)))
def PairAt (knd:KeyKind prog w K) (h:Heap) (p:K × Value) (u:Value):Prop:=∃ (t n:Nat) (key:Value) (o:Obj),u=.ref t/\h.get? t=some o/\o.cls=.type "tuple" /\ o.data=.seq #[key,p.2] n/\knd.is p.1 key=true
theorem sk {d I l:Addr} {its:Array Value} {R:Result->Shared->Prop} (hh:A.handled=none) (nd:d≠I) (nl:l≠I) (nld:l≠d) (ps:List (K × Value)) (hlen:ps.length=its.size) (hsz:ps.length<=100000):
  ∀ (m i:Nat) (s:Shared) (kvs:List (K × Value)),its.size - i=m->i<=its.size->s.heap.IsListIter I l i->s.heap.IsList l its->s.heap.DictOf knd d kvs->kvs.length<=i->(∀ (j:Nat) p u,ps[j]? = some p->its[j]? = some u->PairAt knd s.heap p u) ->
   (∀ h' tk,h'.DictOf knd d ((ps.drop i).foldl (fun a p=>stored a p.1 p.2) kvs)->(∀ b o,b≠I->b≠d->s.heap.get? b=some o->h'.get? b=some o)->R (.ok (.ret .none)) { s with heap:=h',toks:=tk }) ->
   codeAny (model prog w) A (.builtin "dict.update.loop" ⟨[.ref d,.ref I,rawInt i,.none],[]⟩) R s:=by
 intro m
 induction m with
 | zero=>
  intro i s kvs hm hi hit hl hd hk hp q;refine codeAny_builtin fA ?_;rw [Around.under_plainId bV];refine uH hh hit hl (by simp; omega) fun h' eb=>q h' s.toks ?_ fun b o n1 _ e=>eb b o n1 e
  rw [List.drop_eq_nil_of_le (by omega)];obtain ⟨o,es,ep,ho,r⟩:=hd;exact ⟨o,es,ep,eb d o nd ho,r⟩
 | succ m ih=>
  intro i s kvs hm hi hit hl hd hk hp q;have hlt:i < its.size:=by omega
  have hlp:i < ps.length:=by omega
  obtain ⟨t,n,key,ot,eu,ht,tc,td,hkey⟩:=hp i ps[i] its[i] (List.getElem?_eq_getElem hlp) (Array.getElem?_eq_getElem hlt);have nt:t≠I:=fun z=>by
   obtain ⟨o,ho,hc,_⟩:=hit;rw [z,ho] at ht;cases ht;rw [tc] at hc; exact absurd hc (by simp)
  refine codeAny_builtin fA ?_;rw [Around.under_plainId bV];refine se hit hl (t:=t) (by rw [Array.getElem?_eq_getElem hlt,eu]) ht tc td hkey hd (Nat.le_trans hk (Nat.le_trans hi (by rw [<- hlen]; exact Nat.le_trans hsz (by decide)))) nt nd fun h1 tk hit1 hd1 kp=>⟨plainId_quiet bV _,?_⟩
  have hl1:h1.IsList l its:=by
   obtain ⟨o,ho,r⟩:=hl;exact ⟨o,kp l o nl nld ho,r⟩
  have hc:((i:Int)+1)=((i+1:Nat):Int):=by push_cast; rfl
  rw [hc];refine ih (i+1) { s with heap:=h1,toks:=tk } _ (by omega) (by omega) hit1 hl1 hd1 (Nat.le_trans (stored_length_le _ _ _) (by omega)) (fun j p u hj hu=>?_) fun h2 tk2 hd2 kp2=>?_
  ·obtain ⟨t',n',key',o',e1,e2,tc,td',e3⟩:=hp j p u hj hu;refine ⟨t',n',key',o',e1,kp t' _ (fun z=>?_) (fun z=>?_) e2,tc,td',e3⟩
   ·obtain ⟨o,ho,hc,_⟩:=hit;rw [z,ho] at e2;cases e2;rw [tc] at hc; exact absurd hc (by simp)
   ·obtain ⟨o,es,ep,ho,hc,_⟩:=hd;rw [z,ho] at e2;cases e2;have hc:=hc.1; rw [tc] at hc; exact absurd hc (by simp)
  ·refine q h2 tk2 ?_ fun b o n1 n2 e=>kp2 b o n1 n2 (kp b o n1 n2 e)
   rw [List.drop_eq_getElem_cons hlp];exact hd2
theorem jm:∀ (ps kvs:List (K × Value)),((kvs++ps).map (·.1)).Nodup->ps.foldl (fun a p=>stored a p.1 p.2) kvs=kvs++ps
 | [],kvs,_=>by simp
 | p::ps,kvs,h=>by
  have hn:valueAt kvs p.1=none:=by
   unfold valueAt;rw [List.find?_eq_none.mpr fun x hx=>?_]
   ·rfl
   ·rw [List.map_append,List.map_cons,List.nodup_append] at h;exact fun e=>h.2.2 x.1 (List.mem_map.mpr ⟨x,hx,rfl⟩) p.1 List.mem_cons_self (by simpa using e)
  rw [List.foldl_cons,stored_absent hn,jm ps _ (by simpa using h)];simp
theorem nP {s:Shared} {l:Addr} {its:Array Value} {n:Nat} {Q:Value->Shared->Prop} (hh:A.handled=none) (hl:s.heap.get? l=some { cls:=.type "list",dict:=none,data:=.seq its n,slots:=#[] }) (ps:List (K × Value)) (hlen:ps.length=its.size) (hsz:ps.length<=100000) (nd:(ps.map (·.1)).Nodup)
  (hp:∀ (j:Nat) p u,ps[j]? = some p->its[j]? = some u->PairAt knd s.heap p u)
  (q:∀ h' tk,h'.DictOf knd s.heap.objs.size ps->(∀ b o,s.heap.get? b=some o->h'.get? b=some o)->Q (.ref s.heap.objs.size) { s with heap:=h',toks:=tk }):wpAny (model prog w) A (call (.type "dict") [.ref l]) Q E s:=by
 refine callType_codes (Q₁:=fun obj s₁=>obj=.ref s.heap.objs.size/\s₁ = { s with heap:=s.heap.push { cls:=.type "dict",data:=.dict #[] } }) PySem.F.kt_called_dict (PySem.F.kt_typeCall_dict_1 _) PySem.F.entry_dict_init (kt_code_dict_new _ ⟨rfl,rfl⟩) ?_;rintro obj s₁ ⟨rfl,rfl⟩;have new:(s.heap.push { cls:=.type "dict",data:=.dict #[] }).DictOf knd s.heap.objs.size []:=Heap.DictOf.new s.heap;have hl1:=Heap.get?_push_of_some (h:=s.heap) { cls:=.type "dict",data:=.dict #[] } hl;have lt:l < s.heap.objs.size:=Heap.lt_size hl;refine ⟨new.typeIs,PySem.F.args_dict_init_2 _ _,?_⟩;unfold Builtin.«dict.__init__»; refine wpAny_bind ?_; unfold Builtin.Dict.selfAndRest; refine wpAny_bind (wpAny_notOrdered_dict new.typeIs ?_);change wpAny _ _ (pure (s.heap.objs.size,[Value.ref l])) _ _ _; refine wpAny_pure ?_;change wpAny _ _ (Builtin.Dict.updateFrom "dict.__init__" s.heap.objs.size (.ref l) [] .none) _ _ _; unfold Builtin.Dict.updateFrom;refine wpAny_bind (wpAny_typeOf (T := "list") ⟨_,hl1,rfl⟩ ?_);rw [if_pos (by decide)];refine wpAny_bind (pM hl1 hh fun h1 tk1 kp1=>?_);rw [if_pos (show (none:Option Value).isNone=true from rfl)];have hl2:h1.IsList l its:=⟨_,kp1 _ _ hl1,rfl,n,rfl⟩;have sz:s.heap.objs.size < h1.objs.size:=by
  obtain ⟨o,es,ep,ho,_⟩:=new;exact Heap.lt_size (kp1 _ _ ho)
 refine wpAny_bind (wpAny_rule ?_);refine wpAny_bind (wpAny_pyIter_list (s:={ s with heap:=h1,toks:=tk1 }) hl2 ?_);refine wpAny_pure ⟨plainId_quiet bV _,?_⟩;have old:∀ b o,s.heap.get? b=some o->(h1.push { cls:=.type "list_iterator",data:=.fields #[.ref l,.int 0 0] }).get? b=some o:=fun b o e=>Heap.get?_push_of_some _ (kp1 _ _ (Heap.get?_push_of_some _ e))
 have new2:(h1.push { cls:=.type "list_iterator",data:=.fields #[.ref l,.int 0 0] }).DictOf knd s.heap.objs.size []:=by
  obtain ⟨o,es,ep,ho,r⟩:=new;exact ⟨o,es,ep,Heap.get?_push_of_some _ (kp1 _ _ ho),r⟩
 refine sk (A:=A.in1) (s:={ s with heap:=h1.push { cls:=.type "list_iterator",data:=.fields #[.ref l,.int 0 0] },toks:=tk1 }) (knd:=knd) (show A.in1.handled=none from hh) (Nat.ne_of_lt sz) (Nat.ne_of_lt (Nat.lt_trans lt sz)) (Nat.ne_of_lt lt) ps hlen hsz its.size 0 [] rfl (Nat.zero_le _) ⟨_,Heap.get?_push_size _ rfl,rfl,rfl⟩ (hl2.push _) new2 (Nat.le_refl _) (fun j p u hj hu=>?_) fun h2 tk2 hd2 kp2=>⟨rfl,?_⟩
 ·obtain ⟨t,n',key,o',e1,e2,e3⟩:=hp j p u hj hu;exact ⟨t,n',key,o',e1,old _ _ e2,e3⟩
 ·rw [List.drop_zero,jm ps [] (by simpa using nd),List.nil_append] at hd2;refine q h2 tk2 hd2 fun b o e=>kp2 b o (fun z=>?_) (fun z=>?_) (old b o e)
  ·have:=Heap.lt_size e;rw [z] at this;exact Nat.lt_asymm this sz
  ·exact Nat.lt_irrefl _ (z ▸ Heap.lt_size e)
end
section
variable {X:Cx}
noncomputable def kDictP:List V->Hp->VK->Prop:=fun xs H Q=>match xs with
 | [.ref p]=>∃ (vs:List V) (kvs:List (Key × V)),H p=some (.lst vs)/\kvs.length<=100000/\(kvs.map (·.1)).Nodup/\Paired (fun (kv:Key × V) v=>∃ t,v=.ref t/\H t=some (.tup [kV kv.1,kv.2])) kvs vs/\∀ d,H d=none->Q (.ref d) (upd H d (.dK kvs))
 | _=>False
theorem jw {P:Program} {w:World} {H:Hp} {h:Heap} (ok:HOk P w H h):∀ {kvs:List (Key × V)} {vs:List V} {us:List Value},Paired (fun (kv:Key × V) v=>∃ t,v=.ref t/\H t=some (.tup [kV kv.1,kv.2])) kvs vs->Vals vs us->∃ ps:List (Key × Value),KV kvs ps/\Paired (PairAt (mixKind P w) h) ps us
 | _,_,_,.nil,.nil=>⟨[],.nil,.nil⟩
 | kv::kvs,_,u::us,.cons ⟨t,rfl,ht⟩ p,.cons ru r=>by
  obtain ⟨ps,h1,h2⟩:=jw ok p r;cases ru;obtain ⟨_,its,rv,o,e1,e2,n,e3⟩:=(show ObjOk P w H h t (.tup [kV kv.1,kv.2]) from ok t _ ht);cases rv with
  | cons r1 rv=>cases rv with
   | cons r2 rv=>
    cases rv;exact ⟨(kv.1,_)::ps,.cons ⟨rfl,r2⟩ h1,.cons ⟨t,n,_,o,rfl,e1,e2,e3,lu r1⟩ h2⟩
theorem oA (hc:X.calm=true):CallR X (.type "dict") kDictP:=by
 intro pins s σ H xs us Q I r q;unfold kDictP at q;split at q
 ·rename_i p;obtain ⟨vs,kvs,hp,hn,nd,pr,q⟩:=q;obtain ⟨u,rfl,ru⟩:=vals1 r;cases ru;obtain ⟨z,its,n,rl,hl,e⟩:=I.lstM hp;obtain ⟨ps,kv,pa⟩:=jw I.hok pr rl;have hl1:kvs.length=ps.length:=Paired.length kv;have hl2:ps.length=its.length:=Paired.length pa;have hk:kvs.map (·.1)=ps.map (·.1):=KV.keys kv;refine tokQ I.tk (nP (knd:=mixKind X.prog X.w) (I.ok.hd hc) e ps (by simp [hl2]) (by omega) (by rw [<- hk]; exact nd) (fun j x u hj hu=>?_) fun h' tk dd kp (htk:0 < tk)=>?_)
  ·obtain ⟨u',hu',h1⟩:=aD pa hj;rw [List.getElem?_toArray,hu'] at hu;cases hu;exact h1
  ·refine ⟨.ref s.heap.objs.size,_,I.laid (a:=s.heap.objs.size) (o:=.dK kvs) kp (Nat.le_refl _) (q5 (Nat.le_trans hn (by decide)) ?_ kv dd),rfl,q _ I.fresh⟩;have:=I.big;simp only [beq_eq_false_iff_ne];exact Nat.ne_of_gt this
 ·exact q.elim
theorem si {p:Addr} {H:Hp} {Q:VK}:kDictP [.ref p] H Q=∃ (vs:List V) (kvs:List (Key × V)),H p=some (.lst vs)/\kvs.length<=100000/\(kvs.map (·.1)).Nodup/\Paired (fun (kv:Key × V) v=>∃ t,v=.ref t/\H t=some (.tup [kV kv.1,kv.2])) kvs vs/\∀ d,H d=none->Q (.ref d) (upd H d (.dK kvs)):=rfl
end
theorem ul:bootBuiltins "dict" = some (.type "dict"):=by decide +kernel
section
variable {X:Cx}
noncomputable def kNotInT (K:Frag):R2:=fun x y H Q=>match x,y with
 | .ref r,.ref p=>∃ zs xs,SqL K H p xs/\H r=some (.tup zs)/\zs.all flatV=true/\(∀ y ∈ xs,FlatT H y)/\Q (.bl (!xs.any (tupEq H zs))) H
 | _,_=>False
theorem qf (K:Frag) (hK:X.K=K) {k:Nat} (hr:Room k X.A):OpR X (compareOp .NotIn) (kNotInT K):=by
 subst hK;intro pins s σ H x y v u Q I rx ry q;unfold kNotInT at q;split at q
 ·rename_i r p;obtain ⟨zs,xs,hq,hz,fz,fs,q⟩:=q;cases rx;cases ry;obtain ⟨its,rv,pl,_⟩:=I.list hq;refine SeqAt.notIn_listAt (tupEqU H zs) pl.isList (fun w hw=>?_) ⟨.bl _,H,I,rfl,?_⟩
  ·have hw:w ∈ its:=by simpa using hw
   obtain ⟨y,hy,ry⟩:=eR rv w hw;obtain ⟨t,ys,rfl,ht,fy⟩:=fs y hy;cases ry;have:=fL I 1 X.A.in1 (.ref t) (.ref r) (.t (ys.map D.f)) (.t (zs.map D.f)) (.ref t) (.ref r) (by have:=hr.un; show X.A.units+1+1 < _; omega) (.inr (.inr ⟨t,ys,_,rfl,rfl,SqT.of ht,cF fy⟩)) (.inr (.inr ⟨r,zs,_,rfl,rfl,SqT.of hz,cF fz⟩)) rfl rfl;have e:tupEqU H zs (.ref t)=eqD (.t (ys.map D.f)) (.t (zs.map D.f)):=by
    show tupEq H zs (.ref t)=_;unfold tupEq;simp only [ht];rw [eqD]
   rw [e];exact this
  ·rw [show its.toArray.any (tupEqU H zs)=its.any (tupEqU H zs) by simp,jr rv fs];exact q
 ·exact q.elim
theorem qL {K:Frag} {r p:Addr} {H:Hp} {Q:VK}:kNotInT K (.ref r) (.ref p) H Q=∃ zs xs,SqL K H p xs/\H r=some (.tup zs)/\zs.all flatV=true/\(∀ y ∈ xs,FlatT H y)/\Q (.bl (!xs.any (tupEq H zs))) H:=rfl
end
end L2
set_option maxHeartbeats 4000000
namespace L2
open PySem PySem.Spec PyProof.Rows
theorem lc {c:Scope} {x:Str} (h:Loc c x:=by first | exact Or.inl rfl | exact Or.inr rfl):Loc c x:=h
theorem Room.m {j k:Nat} {A:Around} (r:Room k A) (h:j<=k:=by first | decide | omega):Room j A:=r.mono h
end L2
namespace Law
open PySem L2 Mir
noncomputable def top (i:Nat):Stmt:=PySem.Challenge.pw_throng_k39_long_walks_and_rings.main.body.getD i (.Pass ⟨0,0,0,0⟩)
noncomputable abbrev eQ:Stmt:=top 7
theorem me:FnScope ["thing", "width"] ["thing", "width"] (defScope eQ):=⟨rfl,rfl,rfl,by decide +kernel,rfl,by decide +kernel,by decide +kernel⟩
noncomputable abbrev dP:Stmt:=top 8
theorem fR:FnScope ["thing", "width", "signs", "sign"] ["thing", "width", "signs"] (defScope dP):=⟨rfl,rfl,rfl,by decide +kernel,rfl,by decide +kernel,by decide +kernel⟩
noncomputable abbrev fe:Stmt:=top 9
theorem l7:FnScope ["row", "letter"] ["row", "letter"] (defScope fe):=⟨rfl,rfl,rfl,by decide +kernel,rfl,by decide +kernel,by decide +kernel⟩
noncomputable abbrev dv:Stmt:=top 10
theorem cW:FnScope ["one", "other", "mine", "its"] ["one", "other"] (defScope dv):=⟨rfl,rfl,rfl,by decide +kernel,rfl,by decide +kernel,by decide +kernel⟩
noncomputable abbrev cu:Stmt:=top 11
theorem jb:FnScope ["row", "over"] ["row", "over"] (defScope cu):=⟨rfl,rfl,rfl,by decide +kernel,rfl,by decide +kernel,by decide +kernel⟩
noncomputable abbrev bR:Stmt:=top 13
theorem iZ:FnScope ["layout"] ["layout"] (defScope bR):=⟨rfl,rfl,rfl,by decide +kernel,rfl,by decide +kernel,by decide +kernel⟩
noncomputable abbrev d0:Stmt:=top 14
theorem bE:FnScope ["layout", "name", "first", "field", "size"] ["layout", "name"] (defScope d0):=⟨rfl,rfl,rfl,by decide +kernel,rfl,by decide +kernel,by decide +kernel⟩
noncomputable abbrev dw:Stmt:=top 15
theorem fV:FnScope ["layout", "name", "row", "span"] ["layout", "name", "row"] (defScope dw):=⟨rfl,rfl,rfl,by decide +kernel,rfl,by decide +kernel,by decide +kernel⟩
noncomputable abbrev d7:Stmt:=top 17
theorem c8:FnScope ["rules", "letter", "number", "rule"] ["rules", "letter"] (defScope d7):=⟨rfl,rfl,rfl,by decide +kernel,rfl,by decide +kernel,by decide +kernel⟩
noncomputable abbrev dO:Stmt:=top 18
theorem kc:FnScope ["rules", "number"] ["rules", "number"] (defScope dO):=⟨rfl,rfl,rfl,by decide +kernel,rfl,by decide +kernel,by decide +kernel⟩
noncomputable abbrev fk:Stmt:=top 20
theorem bn:FnScope ["ways", "signs", "longest", "found", "beginning", "door"] ["ways", "signs"] (defScope fk):=⟨rfl,rfl,rfl,by decide +kernel,rfl,by decide +kernel,by decide +kernel⟩
noncomputable abbrev dM:Stmt:=top 22
theorem c6:FnScope ["house", "door", "gate", "rules"] ["house", "door"] (defScope dM):=⟨rfl,rfl,rfl,by decide +kernel,rfl,by decide +kernel,by decide +kernel⟩
noncomputable abbrev dL:Stmt:=top 23
theorem cr:FnScope ["layout", "house", "door", "letter", "rules", "number", "sent"] ["layout", "house", "door", "letter"] (defScope dL):=⟨rfl,rfl,rfl,by decide +kernel,rfl,by decide +kernel,by decide +kernel⟩
noncomputable abbrev iz:Stmt:=top 24
theorem oz:FnScope ["door", "thing"] ["door", "thing"] (defScope iz):=⟨rfl,rfl,rfl,by decide +kernel,rfl,by decide +kernel,by decide +kernel⟩
noncomputable abbrev dW:Stmt:=top 26
theorem kB:FnScope ["net", "house", "door"] ["net", "house", "door"] (defScope dW):=⟨rfl,rfl,rfl,by decide +kernel,rfl,by decide +kernel,by decide +kernel⟩
noncomputable abbrev cS:Stmt:=top 27
theorem cK:FnScope ["net", "name", "its", "house"] ["net", "name"] (defScope cS):=⟨rfl,rfl,rfl,by decide +kernel,rfl,by decide +kernel,by decide +kernel⟩
noncomputable abbrev ft:Stmt:=top 28
theorem cC:FnScope ["net", "ends", "one", "other"] ["net"] (defScope ft):=⟨rfl,rfl,rfl,by decide +kernel,rfl,by decide +kernel,by decide +kernel⟩
noncomputable abbrev gm:Stmt:=top 30
theorem bh:FnScope ["net", "house", "door", "letter", "houses", "ends", "steps", "step", "does", "end"] ["net", "house", "door", "letter"] (defScope gm):=⟨rfl,rfl,rfl,by decide +kernel,rfl,by decide +kernel,by decide +kernel⟩
noncomputable abbrev ju:Stmt:=top 31
theorem pV:FnScope ["does", "house", "door", "ends"] ["does", "house", "door", "ends"] (defScope ju):=⟨rfl,rfl,rfl,by decide +kernel,rfl,by decide +kernel,by decide +kernel⟩
noncomputable abbrev dZ:Stmt:=top 32
theorem ng:FnScope ["trail", "step"] ["trail", "step"] (defScope dZ):=⟨rfl,rfl,rfl,by decide +kernel,rfl,by decide +kernel,by decide +kernel⟩
noncomputable abbrev fc:Stmt:=top 33
theorem lQ:FnScope ["net", "house", "door", "letter"] ["net", "house", "door", "letter"] (defScope fc):=⟨rfl,rfl,rfl,by decide +kernel,rfl,by decide +kernel,by decide +kernel⟩
noncomputable abbrev gj:Stmt:=top 34
theorem ni:FnScope ["end"] ["end"] (defScope gj):=⟨rfl,rfl,rfl,by decide +kernel,rfl,by decide +kernel,by decide +kernel⟩
noncomputable abbrev eS:Stmt:=top 36
theorem cD:FnScope ["_law_script", "_law_k", "_law_many", "_law_cell", "_law_mixed"] ["_law_script", "_law_k", "_law_many"] (defScope eS):=⟨rfl,rfl,rfl,by decide +kernel,rfl,by decide +kernel,by decide +kernel⟩
noncomputable abbrev bX:Stmt:=top 37
theorem aT:FnScope ["_law_script", "_law_k", "_law_many", "_law_letters", "_law_start", "_law_body", "_law_j", "_law_at", "_law_step"] ["_law_script", "_law_k", "_law_many"] (defScope bX):=⟨rfl,rfl,rfl,by decide +kernel,rfl,by decide +kernel,by decide +kernel⟩
noncomputable abbrev cB:Stmt:=top 38
theorem kf:FnScope ["_law_layout"] ["_law_layout"] (defScope cB):=⟨rfl,rfl,rfl,by decide +kernel,rfl,by decide +kernel,by decide +kernel⟩
noncomputable abbrev eX:Stmt:=top 39
theorem bU:FnScope ["_law_layout", "_law_first", "_law_name", "_law_size"] ["_law_layout"] (defScope eX):=⟨rfl,rfl,rfl,by decide +kernel,rfl,by decide +kernel,by decide +kernel⟩
noncomputable abbrev dm:Stmt:=top 40
theorem bW:FnScope ["_law_script", "_law_k", "_law_things", "_law_left", "_law_found", "_law_j"] ["_law_script", "_law_k", "_law_things"] (defScope dm):=⟨rfl,rfl,rfl,by decide +kernel,rfl,by decide +kernel,by decide +kernel⟩
noncomputable abbrev de:Stmt:=top 41
theorem bQ:FnScope ["_law_width_here", "_law_places", "_law_signs", "_law_row", "_law_place", "_law_sign"] ["_law_width_here", "_law_places", "_law_signs"] (defScope de):=⟨rfl,rfl,rfl,by decide +kernel,rfl,by decide +kernel,by decide +kernel⟩
noncomputable abbrev bJ:Stmt:=top 42
theorem aM:FnScope ["_law_script", "_law_width_here", "_law_places", "_law_goal", "_law_way", "_law_most", "_law_rules", "_law_at", "_law_row", "_law_value"] ["_law_script", "_law_width_here", "_law_places", "_law_goal", "_law_way"] (defScope bJ):=⟨rfl,rfl,rfl,by decide +kernel,rfl,by decide +kernel,by decide +kernel⟩
noncomputable abbrev aL:Stmt:=top 43
theorem aG:FnScope ["_law_script", "_law_layout", "_law_doors", "_law_names_here", "_law_width_here", "_law_first", "_law_behind", "_law_way", "_law_others", "_law_rules", "_law_free", "_law_ways", "_law_gates", "_law_many", "_law_ahead", "_law_houses", "_law_lines", "_law_h"] ["_law_script", "_law_layout", "_law_doors", "_law_names_here"] (defScope aL):=⟨rfl,rfl,rfl,by decide +kernel,rfl,by decide +kernel,by decide +kernel⟩
noncomputable abbrev eW:Stmt:=top 44
theorem dY:FnScope ["_law_row", "_law_letter", "_law_sign", "_law_own"] ["_law_row", "_law_letter"] (defScope eW):=⟨rfl,rfl,rfl,by decide +kernel,rfl,by decide +kernel,by decide +kernel⟩
noncomputable abbrev bY:Stmt:=top 45
theorem i4:FnScope ["_law_letter", "_law_over"] ["_law_letter", "_law_over"] (defScope bY):=⟨rfl,rfl,rfl,by decide +kernel,rfl,by decide +kernel,by decide +kernel⟩
noncomputable abbrev eO:Stmt:=top 46
theorem aS:FnScope ["_law_layout", "_law_ways", "_law_letter", "_law_first", "_law_behind", "_law_longest", "_law_what", "_law_beginning", "_law_door"] ["_law_layout", "_law_ways", "_law_letter"] (defScope eO):=⟨rfl,rfl,rfl,by decide +kernel,rfl,by decide +kernel,by decide +kernel⟩
noncomputable abbrev eU:Stmt:=top 47
theorem bi:FnScope ["_law_layout", "_law_house", "_law_door", "_law_letter", "_law_rules", "_law_name", "_law_some", "_law_number", "_law_rule"] ["_law_layout", "_law_house", "_law_door", "_law_letter"] (defScope eU):=⟨rfl,rfl,rfl,by decide +kernel,rfl,by decide +kernel,by decide +kernel⟩
noncomputable abbrev cA:Stmt:=top 48
theorem cg:FnScope ["_law_houses", "_law_name", "_law_own", "_law_house"] ["_law_houses", "_law_name"] (defScope cA):=⟨rfl,rfl,rfl,by decide +kernel,rfl,by decide +kernel,by decide +kernel⟩
noncomputable abbrev cY:Stmt:=top 49
theorem cE:FnScope ["_law_lines", "_law_spot", "_law_one", "_law_other"] ["_law_lines", "_law_spot"] (defScope cY):=⟨rfl,rfl,rfl,by decide +kernel,rfl,by decide +kernel,by decide +kernel⟩
noncomputable abbrev cQ:Stmt:=top 50
theorem aR:FnScope ["_law_net", "_law_spot", "_law_letter", "_law_layout", "_law_houses", "_law_lines", "_law_trail", "_law_coming", "_law_does_here", "_law_beyond_here"] ["_law_net", "_law_spot", "_law_letter"] (defScope cQ):=⟨rfl,rfl,rfl,by decide +kernel,rfl,by decide +kernel,by decide +kernel⟩
noncomputable abbrev cN:Stmt:=top 51
theorem gK:FnScope ["_law_found", "_law_due"] ["_law_found", "_law_due"] (defScope cN):=⟨rfl,rfl,rfl,by decide +kernel,rfl,by decide +kernel,by decide +kernel⟩
noncomputable abbrev cw:Stmt:=top 52
theorem gx:FnScope ["_law_thing"] ["_law_thing"] (defScope cw):=⟨rfl,rfl,rfl,by decide +kernel,rfl,by decide +kernel,by decide +kernel⟩
noncomputable abbrev dN:Stmt:=top 53
theorem kw:FnScope ["_law_end"] ["_law_end"] (defScope dN):=⟨rfl,rfl,rfl,by decide +kernel,rfl,by decide +kernel,by decide +kernel⟩
noncomputable abbrev eC:Stmt:=top 54
theorem aU:FnScope ["_law_script", "_law_sizes", "_law_layout", "_law_body", "_law_at", "_law_start", "_law_letters", "_law_names_here", "_law_doors", "_law_net", "_law_width_here", "_law_letter", "_law_first", "_law_behind", "_law_house", "_law_door", "_law_own", "_law_due", "_law_handed"] ["_law_script"] (defScope eC):=⟨rfl,rfl,rfl,by decide +kernel,rfl,by decide +kernel,by decide +kernel⟩
structure Top (K:Frag) (mg:Str->Option Value):Prop where
 iN:Fn K mg "is_letter" eQ
 gU:Fn K mg "is_text_of" dP
 iQ:Fn K mg "row_holds" fe
 gS:Fn K mg "row_within" dv
 fZ:Fn K mg "row_written" cu
 fI:Fn K mg "layout_width" bR
 gW:Fn K mg "field_span" d0
 gR:Fn K mg "field_part" dw
 gL:Fn K mg "rule_first" d7
 gT:Fn K mg "is_dropped" dO
 iS:Fn K mg "way_found" fk
 gP:Fn K mg "gate_rules" dM
 gQ:Fn K mg "house_does" dL
 lw:Fn K mg "sent_by" iz
 gZ:Fn K mg "check_spot" dW
 fX:Fn K mg "house_named" cS
 iM:Fn K mg "line_ends" ft
 jU:Fn K mg "net_walk" gm
 nK:Fn K mg "end_by" ju
 jR:Fn K mg "ring_end" dZ
 iJ:Fn K mg "net_fared" fc
 jY:Fn K mg "fared_by" gj
 iO:Fn K mg "_law_draw" eS
 gY:Fn K mg "_law_names" bX
 gX:Fn K mg "_law_width" cB
 iP:Fn K mg "_law_span" eX
 fW:Fn K mg "_law_turned" dm
 gb:Fn K mg "_law_row_at" de
 eJ:Fn K mg "_law_counting" bJ
 iL:Fn K mg "_law_ring" aL
 iK:Fn K mg "_law_lies" eW
 fH:Fn K mg "_law_written" bY
 iR:Fn K mg "_law_goes" eO
 iU:Fn K mg "_law_does" eU
 eI:Fn K mg "_law_house_of" cA
 fY:Fn K mg "_law_beyond" cY
 iT:Fn K mg "_law_walk" cQ
 fB:Fn K mg "_law_same" cN
 fJ:Fn K mg "_law_copy" cw
 gM:Fn K mg "_law_fared" dN
 vn:Fn K mg "law" eC
 aH:mg "isinstance" = none
 pI:mg "str" = none
 bF:mg "len" = none
 jX:mg "zip" = none
 sR:mg "sum" = none
 fE:mg "enumerate" = none
 sP:mg "dict" = none
 fG:mg "list" = none
 pH:mg "min" = none
 b7:mg "range" = none
 pJ:mg "int" = none
 gO:mg "tuple" = none
 vo:mg "all" = none
 jW:mg "bool" = none
 iE:Xn K mg "NoField"
 jV:Xn K mg "NoDoor"
 iB:Xn K mg "NoHouse"
 jS:Xn K mg "Misfit"
local macro_rules | `(tactic| walk_at "rd")=>`(tactic| try simp only [vY,xy,wU,t9,u5,uh,xx,xa,uR,uy,vF,sv,v8,vd,uC,uT,xb,wI,wt,wB,wD,uY,uc,uO,tK,uo,uX,qC,vX,xj,qi,ui,wP,wO,Ty.isBl,Ty.isInt,Ty.isStr,Ty.isLst,Ty.isTup,uU,xw,uE,vQ,wJ,xk,wz,wM,xh,v7,sD,wR,u7,tS,w6,vA,v9,uF,vw,uf,wq,wH,vD,um,uB,vO,tT,va,vc,wE,tU,uD,sZ,compσ,L2.start,xq,vL,CDiv,CPow,List.map_cons,List.map_nil,List.length_cons,List.length_nil,List.replicate_succ,List.replicate_zero,List.cons_append,List.nil_append,List.getElem?_cons_zero,List.getElem?_cons_succ,List.set_cons_zero,List.set_cons_succ,Option.getD_some,Option.getD_none,Nat.reduceAdd,Nat.reduceSub,Bool.false_bne,Bool.true_bne,Bool.false_xor,Bool.true_xor,Bool.not_eq_true',decide_eq_true_eq,decide_eq_false_iff_not,Bool.not_true,Bool.not_false,if_true,if_false,true_and,and_true,Int.reduceLT,Int.reduceLE,Nat.reduceLeDiff,Bool.false_eq_true,tE,wA,vI,sI,rO,vC,pS,rg,wb,ux,vJ,tP,rq,wZ,vH,tF,tq,wk,uP,wC,uz,uN,re,xr,tt,u6,tJ,tV,qb,vE,tQ,rd,uI,tG,pZ,si,qL,ite_not,al,Bool.true_eq_false,Int.zero_add,reduceIte,ite_true,ite_false])
section
variable {P:Program} {w:World} {K:Frag} {mg:Str->Option Value} {base:Heap}
noncomputable def dh:Sp:=fun vs H Q _=>match vs with
 | [.str a,.str b]=>∀ H',Same H H'->Q (.bl (within a.cps.toList b.cps.toList)) H'
 | _=>False
theorem kl (T:Top K mg):Callee P w K mg base 1 "row_within" ["one", "other"] dh:=by
 refine T.gS.cal cW (by intro vs H Q E h; unfold dh at h; split at h <;> first | rfl | exact h.elim) (fun _ _ _ _ _ _ us hl=>match us,hl with | [_,_],_=>rfl) (fun f cdv A outer s H vs Q E hr h=>?_);unfold dh at h;split at h
 case h_2=>exact h.elim
 refine ⟨_,(af (bd PassesOwn.never rfl (zipE K rfl rfl T.jX (qv 0) (qv 1)) (tupE K rfl rfl (n:=2) (ao (aj (i:=2) cW.nd rfl lc) (ao (aj (i:=3) cW.nd rfl lc) aK))) (ai (aI (PW.pt (lW (aC hZ (qv 3) (qs [45])) (i9 (aC hZ (qv 3) (qv 2))))) (ai (ap dt)) au)))
   (ai (ap dt))),?_⟩
 rename_i a b;obtain ⟨x,rfl⟩:∃ x,a=st x:=⟨_,(aF a).symm⟩;obtain ⟨y,rfl⟩:∃ y,b=st y:=⟨_,(aF b).symm⟩;walk_at "rd";refine jn (xs:=x.map fun c=>V.str (st [c])) (ys:=y.map fun c=>V.str (st [c])) (fun i σ H'=>∃ u v,σ = [some (.str (st x)),some (.str (st y)),u,v]/\Same H H'/\within (x.take i) (y.take i)=true) ⟨none,none,rfl,Same.refl _,by simp [within]⟩
  (fun i σ H' _=>⟨rfl,rfl⟩) ?_ ?_
 ·rintro i c d σ H1 p hx hy ⟨u,v,rfl,s1,e1⟩ hp;rw [List.getElem?_map] at hx hy;obtain ⟨c,hc,rfl⟩:=Option.map_eq_some_iff.mp hx;obtain ⟨d,hd,rfl⟩:=Option.map_eq_some_iff.mp hy;walk_at "rd";have s2:Same H (upd H1 p (.tup [V.str (st [c]),V.str (st [d])])):=s1.trans (ag hp _);have bad:¬ d=45->¬ d=c->within x y=false:=fun h1 h2=>by
   unfold within;rw [Bool.eq_false_iff];intro z;rw [List.all_eq_true] at z;have:=z (c,d) (List.mem_of_getElem? (List.getElem?_zip_eq_some.mpr ⟨hc,hd⟩));simp [h1,h2] at this
  have good:d=45\/d=c->within (x.take (i+1)) (y.take (i+1))=true:=fun h=>by
   unfold within at e1 ⊢;rw [List.take_succ,List.take_succ,hc,hd];have hl:(x.take i).length=(y.take i).length:=by
    have:=(List.getElem?_eq_some_iff.mp hc).1;have:=(List.getElem?_eq_some_iff.mp hd).1;simp; omega
   rw [List.zip_append hl,List.all_append,e1];simpa using h
  refine ite2 (fun h1=>?_) fun h1=>ite2 (fun h2=>?_) fun h2=>?_
  ·exact ⟨_,_,rfl,s2,good (.inl h1)⟩
  ·exact ⟨_,_,rfl,s2,good (.inr h2)⟩
  ·have:=h _ s2;simp only [al,bad h1 h2] at this;exact this
 ·rintro σ H1 ⟨u,v,rfl,s1,e1⟩;walk_at "rd";have e2:within x y=true:=by
   simp only [List.length_map] at e1;unfold within at e1 ⊢;rw [List.all_eq_true] at e1 ⊢;rintro ⟨c,d⟩ hm;obtain ⟨i,hi⟩:=List.mem_iff_getElem?.mp hm;obtain ⟨h1,h2⟩:=List.getElem?_zip_eq_some.mp hi;have l1:=(List.getElem?_eq_some_iff.mp h1).1;have l2:=(List.getElem?_eq_some_iff.mp h2).1;refine e1 (c,d) (List.mem_of_getElem? (i:=i) (List.getElem?_zip_eq_some.mpr ⟨?_,?_⟩))
   ·rw [List.getElem?_take_of_lt (by omega)]; exact h1
   ·rw [List.getElem?_take_of_lt (by omega)]; exact h2
  have:=h _ s1;simp only [al,e2] at this;exact this
noncomputable def d9:Sp:=fun vs H Q _=>match vs with
 | [.str a,.str b]=>∀ H',Same H H'->Q (.bl (within b.cps.toList a.cps.toList)) H'
 | _=>False
theorem ma (T:Top K mg):Callee P w K mg base 2 "row_holds" ["row", "letter"] d9:=by
 refine T.iQ.cal l7 (by intro vs H Q E h; unfold d9 at h; split at h <;> first | rfl | exact h.elim) (fun _ _ _ _ _ _ us hl=>match us,hl with | [_,_],_=>rfl) (fun f cdv A outer s H vs Q E hr h=>?_);unfold d9 at h;split at h
 case h_2=>exact h.elim
 refine ⟨_,(ai (ap (av (kl T) hr.m rfl (aa (qv 1) (aa (qv 0) ad))))),?_⟩;rename_i a b;walk_at "rd";exact h
noncomputable def wSign (s o:Nat):Nat:=if o=45 then s else o
noncomputable def written (r o:List Nat):List Nat:=(r.zip o).map fun p=>wSign p.1 p.2
theorem cO {r o:List Nat} (h:r.length=o.length):(written r o).length=r.length:=by simp [written,h]
noncomputable def vcode:V->Nat
 | .str x=>x.cps.toList.headD 0
 | _=>0
theorem lm (r o:List Nat):((r.map fun c=>V.str (st [c])).zip (o.map fun c=>V.str (st [c]))).flatMap (fun p=>[V.str (st [wSign (vcode p.1) (vcode p.2)])])=(written r o).map fun k=>V.str (st [k]):=by
 unfold written
 induction r generalizing o with
 | nil=>rfl
 | cons a r ih=>
  cases o with
  | nil=>rfl
  | cons b o=>
   simp only [List.map_cons,List.zip_cons_cons,List.flatMap_cons,ih o];rfl
noncomputable def cG:Sp:=fun vs H Q _=>match vs with
 | [.str a,.str b]=>a.cps.toList.length<=1000/\∀ H',Same H H'->Q (.str (st (written a.cps.toList b.cps.toList))) H'
 | _=>False
theorem jy (T:Top K mg):Callee P w K mg base 1 "row_written" ["row", "over"] cG:=by
 refine T.fZ.cal jb (by intro vs H Q E h; unfold cG at h; split at h <;> first | rfl | exact h.elim) (fun _ _ _ _ _ _ us hl=>match us,hl with | [_,_],_=>rfl) (fun f cdv A outer s H vs Q E hr h=>?_);unfold cG at h;split at h
 case h_2=>exact h.elim
 refine ⟨_,(ai (ap (joinE K rfl (bu (nt:=2) (fi:=[]) (N':=["mine", "its"]) rfl (cscope rfl (by decide +kernel)) (cnames (N:=["row", "over"]) (sc:=defScope cu) rfl rfl (by decide +kernel)) (gr (by decide) (by decide)) (zipE K rfl rfl T.jX (qv 0) (qv 1)) (fun _ _ _ _ _=>(tupE K rfl rfl (n:=2) (ao (aj (i:=0) (by show (["mine", "its"]:List Str).Nodup; decide +kernel) rfl lc) (ao (aj (i:=1) (by show (["mine", "its"]:List Str).Nodup; decide +kernel) rfl lc) aK)))) (fun _ _ _ _ _=>bw) (fun _ _ _ _ _=>(gG (aC aN (qv 1) (qs [45])) (qv 0) (qv 1))))))),?_⟩;rename_i a b;obtain ⟨r,rfl⟩:∃ x,a=st x:=⟨_,(aF a).symm⟩;obtain ⟨o,rfl⟩:∃ x,b=st x:=⟨_,(aF b).symm⟩;obtain ⟨h1,q⟩:=h;simp only [al] at h1 q;walk_at "rd";intro D hD;refine mJ (us:=r.map fun c=>V.str (st [c])) (ws:=o.map fun c=>V.str (st [c])) (h:=fun x y=>[V.str (st [wSign (vcode x) (vcode y)])]) hD (fun _ _=>rfl) (fun _ _=>rfl) (by simp; omega) (fun _ _=>by simp) ?_ ?_
 ·intro x y H1 out non hm s1 ho hn;obtain ⟨hx,hy⟩:=List.of_mem_zip hm;obtain ⟨c,_,rfl⟩:=List.mem_map.mp hx;obtain ⟨d,_,rfl⟩:=List.mem_map.mp hy;walk_at "rd";refine ite2 (fun h4=>?_) fun h4=>?_
  ·exact ho _ _ (by simp [wSign,vcode,h4]) (Same.refl _)
  ·exact ho _ _ (by simp [wSign,vcode,h4]) (Same.refl _)
 ·intro H1 s1 e1;rw [lm] at e1;exact ⟨_,SqL.of e1,by simp [written]; omega,q H1 s1⟩
noncomputable def wayStep (s:List Nat) (a:Int × Option (List Nat)) (w:List Nat × List Nat):Int × Option (List Nat):=if (w.1.length:Int) > a.1/\w.1 <+: s then ((w.1.length:Int),some w.2) else a
noncomputable def wayL (ws:List (List Nat × List Nat)) (s:List Nat):Int × Option (List Nat):=ws.foldl (wayStep s) (-1,none)
noncomputable def textOf (v:V) (w:Int) (l:List Nat):Bool:=match v with
 | .str a=>decide ((a.cps.toList.length:Int)=w) && a.cps.toList.all fun c=>decide (c ∈ l)
 | _=>false
def Known (H:Hp) (v:V):Prop:=match v with
 | .non=>True
 | .bl _=>True
 | .int _=>True
 | .str a=>a.cps.toList.length<=1000
 | .ref p=>(∃ xs,H p=some (.lst xs))\/(∃ xs,H p=some (.tup xs))
 | _=>False
noncomputable def c7:Sp:=fun vs H Q _=>match vs with
 | [v,.int w,.str l]=>Known H v/\Q (.bl (textOf v w l.cps.toList)) H
 | _=>False
theorem kq (T:Top K mg):Callee P w K mg base 1 "is_text_of" ["thing", "width", "signs"] c7:=by
 refine T.gU.cal fR (by intro vs H Q E h; unfold c7 at h; split at h <;> first | rfl | exact h.elim) (fun _ _ _ _ _ _ us hl=>match us,hl with | [_,_,_],_=>rfl) (fun f cdv A outer s H vs Q E hr h=>?_);unfold c7 at h;split at h
 case h_2=>exact h.elim
 refine ⟨_,(af (aI (PW.pt (sd (ic (br (aP .str rfl T.aH (qv 0) rfl T.pI om))) (ol (aC hZ (aE (lenE K rfl) rfl T.bF be (aa (qv 0) ad)) (qv 1))))) (ai (ap dt)) au)
   (af (bd PassesOwn.never rfl (iterE K rfl (qv 0)) (aj (i:=3) fR.nd rfl lc) (ai (aI (aC (notinE K rfl) (qv 3) (qv 2)) (ai (ap dt)) au)))
   (ai (ap dt)))),?_⟩
 rename_i v n z;obtain ⟨l,rfl⟩:∃ x,z=st x:=⟨_,(aF z).symm⟩;obtain ⟨hk,q⟩:=h;simp only [al] at q;walk_at "rd";cases v with
 | str a=>
  obtain ⟨x,rfl⟩:∃ x,a=st x:=⟨_,(aF a).symm⟩;walk_at "rd";have hk':x.length<=1000:=hk;refine ⟨by omega,ite2 (fun g1=>?_) fun g1=>?_⟩
  ·refine rf (fun i σ H'=>∃ k,σ = [some (.str (st x)),some (.int n),some (.str (st l)),k]/\H'=H/\(x.take i).all (fun c=>decide (c ∈ l))=true) ⟨none,rfl,rfl,rfl⟩ ?_ ?_
   ·rintro i c σ H1 hc ⟨k,rfl,rfl,e1⟩;walk_at "rd";refine ite2 (fun g2=>⟨_,rfl,?_⟩) fun g2=>?_
    ·rw [List.take_succ,hc,List.all_append,e1];simp [g2]
    ·have e:textOf (.str (st x)) n l=false:=by
      simp only [textOf,al,Bool.and_eq_false_iff];refine .inr ?_;rw [Bool.eq_false_iff];intro z;rw [List.all_eq_true] at z;exact g2 (of_decide_eq_true (z c (List.mem_of_getElem? hc)))
     rw [e] at q;exact q
   ·rintro σ H1 ⟨k,rfl,rfl,e1⟩;walk_at "rd";rw [List.take_length] at e1;have e:textOf (.str (st x)) n l=true:=by
     simp only [textOf,al,Bool.and_eq_true];exact ⟨decide_eq_true g1,e1⟩
    rw [e] at q;exact q
  ·have e:textOf (.str (st x)) n l=false:=by
    simp only [textOf,al,Bool.and_eq_false_iff];exact .inl (decide_eq_false g1)
   rw [e] at q;exact q
 | ref p=>
  rcases hk with hk | hk
  ·exact .inl ⟨hk,q⟩
  ·exact .inr ⟨hk,q⟩
 | non=>exact q
 | bl b=>exact q
 | int i=>exact q
 | _=>exact hk.elim
noncomputable abbrev Fld:=List Nat × Nat
def FldAt (H:Hp) (x:Fld) (v:V):Prop:=∃ t,v=.ref t/\H t=some (.tup [tx x.1,.int x.2])
def Lay (H:Hp) (p:Addr) (ls:List Fld):Prop:=∃ vs,H p=some (.lst vs)/\Paired (FldAt H) ls vs
theorem kE {H H':Hp} (k:∀ t vs,H t=some (.tup vs)->H' t=some (.tup vs)) {ls:List Fld} {vs:List V} (h:Paired (FldAt H) ls vs):Paired (FldAt H') ls vs:=
 L2.Paired.mapP h fun _ _ ⟨t,e,q⟩=>⟨t,e,k _ _ q⟩
theorem Lay.same {H H':Hp} {p:Addr} {ls:List Fld} (h:Lay H p ls) (s:Same H H'):Lay H' p ls:=by
 obtain ⟨vs,e,pr⟩:=h;exact ⟨vs,s _ _ e,kE (fun t us q=>s _ _ q) pr⟩
noncomputable def fldD (x:Fld):D:=.t [.f (tx x.1),.f (.int x.2)]
noncomputable def widthL (ls:List Fld):Nat:=(ls.map (·.2)).sum
theorem b9 {α β:Type} {F:α -> β -> Prop} {l:List α} {m:List β} (h:Paired F l m):(l.zip m).map (·.2)=m/\∀ x ∈ l.zip m,F x.1 x.2:=by
 induction h with
 | nil=>exact ⟨rfl,fun x hx=>by cases hx⟩
 | cons r _ ih=>exact ⟨by rw [List.zip_cons_cons,List.map_cons,ih.1],fun x hx=>by
   rw [List.zip_cons_cons] at hx;rcases List.mem_cons.mp hx with rfl | hx
   ·exact r
   ·exact ih.2 x hx⟩
theorem dG {α β:Type}:∀ {l:List α} {m:List β},l.length=m.length->(l.zip m).map (·.1)=l
 | [],_,_=>rfl
 | x::l,[],h=>by cases h
 | x::l,y::m,h=>by rw [List.zip_cons_cons,List.map_cons,dG (by simpa using h)]
theorem jP:∀ l:List Nat,(l.map fun n:Nat=>(n:Int)).sum=(l.sum:Nat)
 | []=>rfl
 | x::l=>by rw [List.map_cons,List.sum_cons,List.sum_cons,jP l]; omega
noncomputable def cy (K:Frag):Sp:=fun vs H Q _=>match vs with
 | [.ref p]=>∃ ls:List Fld,Lay H p ls/\ls.length<=1000/\∀ H',Same H H'->Q (.int (widthL ls:Nat)) H'
 | _=>False
theorem i0 (T:Top K mg):Callee P w K mg base 1 "layout_width" ["layout"] (cy K):=by
 refine T.fI.cal iZ (by intro vs H Q E h; unfold cy at h; split at h <;> first | rfl | exact h.elim) (fun _ _ _ _ _ _ us hl=>match us,hl with | [_],_=>rfl) (fun f cdv A outer s H vs Q E hr h=>?_);unfold cy at h;split at h
 case h_2=>exact h.elim
 refine ⟨_,(ai (ap (aE (kK K rfl rfl) rfl T.sR rM (aa (bu (nt:=2) (fi:=[]) (N':=["name", "size"]) rfl (cscope rfl (by decide +kernel)) (cnames (N:=["layout"]) (sc:=defScope bR) rfl rfl (by decide +kernel)) (gr (by decide) (by decide)) (iterE K rfl (qv 0)) (fun _ _ _ _ _=>(tupE K rfl rfl (n:=2) (ao (aj (i:=0) (by show (["name", "size"]:List Str).Nodup; decide +kernel) rfl lc) (ao (aj (i:=1) (by show (["name", "size"]:List Str).Nodup; decide +kernel) rfl lc) aK)))) (fun _ _ _ _ _=>bw) (fun _ _ _ _ _=>(qv 1))) ad)))),?_⟩;rename_i p;obtain ⟨ls,⟨vs,e0,pr⟩,hn,q⟩:=h;have hl:=pr.length;obtain ⟨z1,z2⟩:=b9 pr;walk_at "rd";refine .inl ⟨⟨_,SqL.of e0⟩,fun D hD=>?_⟩;refine fN (item:=fun x:Fld × V=>x.2) (xs:=ls.zip vs) (h:=fun x=>[V.int x.1.2]) hD (by rw [z1]; exact SqL.of e0) (by rw [List.length_zip]; omega) (fun _=>by simp) ?_ ?_
 ·intro x H1 out non hx s1 ho _;obtain ⟨t,ex,et⟩:=z2 x hx;rw [ex];refine ⟨t,[_,_],rfl,SqT.of (s1 _ _ et),rfl,_,[_],rfl,_,[],rfl,rfl,?_⟩;walk_at "rd";exact ho _ _ rfl (Same.refl _)
 ·intro H1 s1 e1;rw [show (ls.zip vs).flatMap (fun x=>[V.int x.1.2])=(ls.map fun x:Fld=>(x.2:Int)).map V.int by
   rw [<- dG (l:=ls) (m:=vs) hl];simp only [List.map_map];rw [dG hl]
   induction ls.zip vs with
   | nil=>rfl
   | cons x r ih=>rw [List.flatMap_cons,ih]; rfl] at e1
  walk_at "rd";refine ⟨_,SqL.of e1,?_⟩;have:=q H1 s1;unfold widthL at this;rw [show (ls.map fun x:Fld=>(x.2:Int)).sum=((ls.map (·.2)).sum:Nat) by rw [<- jP,List.map_map]; rfl];exact this
noncomputable def spanF:List Fld->List Nat->Nat->Option (Nat × Nat)
 | [],_,_=>none
 | (f,z)::r,n,a=>if f=n then some (a,a+z) else spanF r n (a+z)
theorem b8:∀ (l r:List Fld) (n:List Nat) (a:Nat),(∀ x ∈ l,¬ x.1=n)->spanF (l++r) n a=spanF r n (a+widthL l)
 | [],r,n,a,_=>rfl
 | (f,z)::l,r,n,a,h=>by
  have h0:¬ f=n:=h (f,z) List.mem_cons_self;rw [List.cons_append,spanF,if_neg h0,b8 l r n (a+z) fun x hx=>h x (List.mem_cons_of_mem _ hx)];unfold widthL;rw [List.map_cons,List.sum_cons,Nat.add_assoc]
theorem cX (n:List Nat):(st n).length=n.length:=by simp [Str.length]
noncomputable def cT (K:Frag):Sp:=fun vs H Q E=>match vs with
 | [.ref p,.str n]=>∃ ls:List Fld,Lay H p ls/\(∀ c ∈ n.cps.toList,c < 16 ^ 8)/\n.cps.toList.length<=1000 /\
   (∀ a b,spanF ls n.cps.toList 0=some (a,b)->∀ t H',H t=none->Same H H'->H' t=some (.tup [.int (a:Nat),.int (b:Nat)])->Q (.ref t) H') /\
   (spanF ls n.cps.toList 0=none->∀ H',Same H H'->E (.ref (xA K "NoField")) none H')
 | _=>False
theorem kz (T:Top K mg):CalleeX P w K mg base 1 "field_span" ["layout", "name"] (cT K):=by
 refine T.gW.calX bE (by intro vs H Q E h; unfold cT at h; split at h <;> first | rfl | exact h.elim) (fun _ _ _ _ _ _ us hl=>match us,hl with | [_,_],_=>rfl) (fun f cdv A outer s H vs Q E hr h=>?_);unfold cT at h;split at h
 case h_2=>exact h.elim
 refine ⟨_,(af (am (i:=2) bE.nd rfl lc ae)
   (af (bd PassesOwn.leaving rfl (iterE K rfl (qv 0)) (tupE K rfl rfl (n:=2) (ao (aj (i:=3) bE.nd rfl lc) (ao (aj (i:=4) bE.nd rfl lc) aK))) (af (aI (aC aN (qv 3) (qv 1)) (ai (ap (aq (aa (qv 2) (aa (aw aB (qv 2) (qv 4)) ad))))) au)
   (ai (am (i:=2) bE.nd rfl lc (aw aB (qv 2) (qv 4))))))
   (ai (gI rfl fO rfl T.iE.1 T.iE.2 (aa (px (cP (qs [110,111,32,102,105,101,108,100,32]) (cP (lK (qv 1)) lZ))) ad))))),?_⟩
 rename_i p s;obtain ⟨n,rfl⟩:∃ x,s=st x:=⟨_,(aF s).symm⟩;obtain ⟨ls,⟨vs,e0,pr⟩,hc,hn,q1,q2⟩:=h;simp only [al] at q1 q2 hc hn;have hl:=pr.length;walk_at "rd";refine .inl ⟨⟨_,SqL.of e0⟩,?_⟩;refine bq (xs:=vs) (fun i σ H'=>∃ u v,σ = [some (.ref p),some (.str (st n)),some (.int (widthL (ls.take i):Nat)),u,v]/\Same H H'/\∀ x ∈ ls.take i,¬ x.1=n) ⟨none,none,rfl,Same.refl _,fun x hx=>by simp at hx⟩ (fun i σ H' _ ⟨_,_,_,z,_⟩=>SqL.of (z _ _ e0)) ?_ ?_
 ·rintro i x σ H1 hx ⟨u,v,rfl,s1,h1⟩;have hi:i < vs.length:=(List.getElem?_eq_some_iff.mp hx).1;have hil:i < ls.length:=by omega
  obtain ⟨y,hy,t,ey,et⟩:=aD pr (List.getElem?_eq_getElem hil);obtain rfl:x=.ref t:=by rw [hy] at hx; rw [<- Option.some.inj hx,ey]
  refine ⟨t,[_,_],rfl,SqT.of (s1 _ _ et),rfl,_,[_],rfl,_,[],rfl,rfl,?_⟩;walk_at "rd";have sp:spanF ls n 0=spanF (ls.drop i) n (0+widthL (ls.take i)):=by
   have:=b8 (ls.take i) (ls.drop i) n 0 h1;rw [List.take_append_drop] at this;exact this
  rw [List.drop_eq_getElem_cons hil,Nat.zero_add] at sp;have w1:widthL (ls.take (i+1))=widthL (ls.take i)+ls[i].2:=by
   unfold widthL;rw [List.take_add_one,List.getElem?_eq_getElem hil,Option.toList_some,List.map_append,List.sum_append];simp
  refine ite2 (fun g=>⟨by decide,fun t2 ht2=>?_⟩) fun g=>⟨some (tx ls[i].1),some (.int ls[i].2),?_,s1,fun y hy=>?_⟩
  ·refine q1 (widthL (ls.take i)) (widthL (ls.take i)+ls[i].2) ?_ t2 _ (s1.free ht2) (s1.trans (ag ht2 _)) ?_
   ·rw [sp,show ls[i]=(ls[i].1,ls[i].2) from rfl,spanF,if_pos g]
   ·rw [upd_same];simp
  ·rw [w1];simp
  ·rw [List.take_add_one,List.getElem?_eq_getElem hil] at hy;rcases List.mem_append.mp hy with hy | hy
   ·exact h1 y hy
   ·have e:y=ls[i]:=by simpa using hy
    rw [e];exact g
 ·rintro σ H1 ⟨u,v,rfl,s1,h1⟩;walk_at "rd";have e:spanF ls n 0=none:=by
   have:=b8 ls [] n 0 fun x hx=>h1 x (by rw [<- hl,List.take_length]; exact hx)
   rw [List.append_nil] at this;exact this
  have hz:(st n).length=n.length:=cX n;refine ⟨by rw [cX]; exact Nat.le_of_lt (sizeBig (by decide)),hc,by omega,fun z hzz=>⟨?_,fun _=>⟨by decide,q2 e H1 s1⟩⟩⟩;rw [cX];exact Nat.le_of_lt (sizeBig (by simp only [List.length_cons,List.length_nil]; omega))
noncomputable def dk (K:Frag):Sp:=fun vs H Q E=>match vs with
 | [.ref p,.str n,.str r]=>∃ ls:List Fld,Lay H p ls/\(∀ c ∈ n.cps.toList,c < 16 ^ 8)/\n.cps.toList.length<=1000/\r.cps.toList.length<=1000 /\
   (∀ a b,spanF ls n.cps.toList 0=some (a,b)->b<=r.cps.toList.length/\∀ H',Same H H'->Q (tx ((r.cps.toList.drop a).take (b - a))) H') /\
   (spanF ls n.cps.toList 0=none->∀ H',Same H H'->E (.ref (xA K "NoField")) none H')
 | _=>False
theorem jl:∀ (l:List Fld) (n:List Nat) (a x y:Nat),spanF l n a=some (x,y)->x<=y
 | [],_,_,_,_,h=>by cases h
 | (f,z)::l,n,a,x,y,h=>by
  rw [spanF] at h;split at h
  ·cases h; omega
  ·exact jl l n _ x y h
theorem ko (T:Top K mg):CalleeX P w K mg base 2 "field_part" ["layout", "name", "row"] (dk K):=by
 refine T.gR.calX fV (by intro vs H Q E h; unfold dk at h; split at h <;> first | rfl | exact h.elim) (fun _ _ _ _ _ _ us hl=>match us,hl with | [_,_,_],_=>rfl) (fun f cdv A outer s H vs Q E hr h=>?_);unfold dk at h;split at h
 case h_2=>exact h.elim
 refine ⟨_,(af (am (i:=3) fV.nd rfl lc (fo (kz T) hr.m bN rfl (aa (qv 0) (aa (qv 1) ad))))
   (ai (ap (bp slB (qv 2) (bx (ak (ixE K rfl) (qv 3) ae (fun _ _=>rfl))) (bx (ak (ixE K rfl) (qv 3) ae (fun _ _=>rfl))))))),?_⟩
 rename_i p s r;obtain ⟨n,rfl⟩:∃ x,s=st x:=⟨_,(aF s).symm⟩;obtain ⟨l,rfl⟩:∃ x,r=st x:=⟨_,(aF r).symm⟩;obtain ⟨ls,hL,hc,hn,hr',q1,q2⟩:=h;simp only [al] at q1 q2 hc hn hr';walk_at "rd";refine ⟨ls,hL,by simp only [al]; exact hc,by simp only [al]; exact hn,fun a b e t H1 ht s1 e1=>?_,fun e H1 s1=>q2 (by simpa only [al] using e) H1 s1⟩;simp only [al] at e;obtain ⟨hb,q1⟩:=q1 a b e;have hab:=jl ls n 0 a b e;walk_at "rd";refine ⟨_,_,.inr (SqT.of e1),rfl,?_⟩;walk_at "rd";refine ⟨_,_,.inr (SqT.of e1),rfl,?_⟩;walk_at "rd";refine ⟨by omega,by omega,by omega,by omega,?_⟩;have:=q1 H1 s1;simpa using this
noncomputable abbrev Rule:=List Nat × List Nat × List Nat
def RuleAt (H:Hp) (x:Rule) (v:V):Prop:=∃ t,v=.ref t/\H t=some (.tup [tx x.1,tx x.2.1,tx x.2.2])
def Rules (H:Hp) (p:Addr) (rs:List Rule):Prop:=∃ vs,H p=some (.lst vs)/\Paired (RuleAt H) rs vs
theorem bK {H H':Hp} (k:∀ t vs,H t=some (.tup vs)->H' t=some (.tup vs)) {rs:List Rule} {vs:List V} (h:Paired (RuleAt H) rs vs):Paired (RuleAt H') rs vs:=
 L2.Paired.mapP h fun _ _ ⟨t,e,q⟩=>⟨t,e,k _ _ q⟩
theorem gE {H:Hp} {g:Addr} {xs ys:List V} (h:H g=some (.lst xs)):∀ t vs,H t=some (.tup vs)->upd H g (.lst ys) t=some (.tup vs):=fun t vs q=>by
 rw [aA (fun e=>by rw [e,h] at q; cases q)];exact q
theorem Rules.same {H H':Hp} {p:Addr} {rs:List Rule} (h:Rules H p rs) (s:Same H H'):Rules H' p rs:=by
 obtain ⟨vs,e,pr⟩:=h;exact ⟨vs,s _ _ e,bK (fun t us q=>s _ _ q) pr⟩
noncomputable def ruleD (x:Rule):D:=.t [.f (tx x.1),.f (tx x.2.1),.f (tx x.2.2)]
noncomputable def firstR (rs:List Rule) (l:List Nat):Nat:=rs.findIdx fun r=>within l r.1
noncomputable def dg (K:Frag):Sp:=fun vs H Q _=>match vs with
 | [.ref p,.str l]=>∃ rs:List Rule,Rules H p rs/\∀ H',Same H H'->Q (.int (firstR rs l.cps.toList)) H'
 | _=>False
theorem kA (T:Top K mg):Callee P w K mg base 3 "rule_first" ["rules", "letter"] (dg K):=by
 refine T.gL.cal c8 (by intro vs H Q E h; unfold dg at h; split at h <;> first | rfl | exact h.elim) (fun _ _ _ _ _ _ us hl=>match us,hl with | [_,_],_=>rfl) (fun f cdv A outer s H vs Q E hr h=>?_);unfold dg at h;split at h
 case h_2=>exact h.elim
 refine ⟨_,(af (bd PassesOwn.never rfl (mO K rfl rfl T.fE (qv 0)) (tupE K rfl rfl (n:=2) (ao (aj (i:=2) c8.nd rfl lc) (ao (aj (i:=3) c8.nd rfl lc) aK))) (ai (aI (br (av (ma T) hr.m rfl (aa (ak (ixE K rfl) (qv 3) ae (fun _ _=>rfl)) (aa (qv 1) ad)))) (ai (ap (qv 2))) au)))
   (ai (ap (aE (lenE K rfl) rfl T.bF be (aa (qv 0) ad))))),?_⟩
 rename_i p s;obtain ⟨l,rfl⟩:∃ x,s=st x:=⟨_,(aF s).symm⟩;obtain ⟨rs,⟨vs,e0,pr⟩,q⟩:=h;simp only [al] at q;have hl:=pr.length;walk_at "rd";refine ⟨⟨_,SqL.of e0⟩,?_⟩;refine jt (xs:=vs) (fun i σ H'=>∃ u v,σ = [some (.ref p),some (.str (st l)),u,v]/\Same H H'/\∀ r ∈ rs.take i,within l r.1=false) ⟨none,none,rfl,Same.refl _,fun r hr=>by simp at hr⟩ (fun i σ H' _ ⟨_,_,_,z,_⟩=>SqL.of (z _ _ e0)) ?_ ?_
 ·rintro i x σ H1 t hx ⟨u,v,rfl,s1,h1⟩ ht;have hi:i < vs.length:=(List.getElem?_eq_some_iff.mp hx).1;have hiw:i < rs.length:=by omega
  obtain ⟨y,hy,t',ey,et⟩:=aD pr (List.getElem?_eq_getElem hiw);obtain rfl:x=.ref t':=by rw [hy] at hx; rw [<- Option.some.inj hx,ey]
  have s2:=s1.trans (ag ht (.tup [.int i,.ref t']));have st1:=SqT.of (K:=K) (s2 _ _ et);walk_at "rd";refine ⟨_,_,.inr st1,rfl,fun H2 s3=>?_⟩;simp only [al];walk_at "rd";refine ite2 (fun g=>?_) fun g=>⟨_,_,rfl,s2.trans s3,fun r hr=>?_⟩
  ·have e:firstR rs l=i:=(List.findIdx_eq hiw).mpr ⟨g,fun j hj=>h1 rs[j] (List.mem_take_iff_getElem.mpr ⟨j,by omega,rfl⟩)⟩;have:=q H2 (s2.trans s3);rw [e] at this;exact this
  ·rw [List.take_add_one,List.getElem?_eq_getElem hiw] at hr;rcases List.mem_append.mp hr with hr | hr
   ·exact h1 r hr
   ·have e:r=rs[i]:=by simpa using hr
    rw [e];simpa using g
 ·rintro σ H1 ⟨u,v,rfl,s1,h1⟩;walk_at "rd";refine ⟨vs,.inl (SqL.of (s1 _ _ e0)),?_⟩;have e:firstR rs l=vs.length:=by
   unfold firstR;rw [<- hl];exact List.findIdx_eq_length.mpr fun r hr=>h1 r (by rw [<- hl,List.take_length]; exact hr)
  have:=q H1 s1;rw [e] at this;exact this
noncomputable def dropT:List Nat:=[100,114,111,112]
noncomputable def passT:List Nat:=[112,97,115,115]
noncomputable def dropB (rs:List Rule) (k:Nat):Bool:=match rs[k]? with
 | some r=>decide (r.2.1=dropT)
 | none=>true
noncomputable def df (K:Frag):Sp:=fun vs H Q _=>match vs with
 | [.ref p,.int k]=>∃ (rs:List Rule) (j:Nat),Rules H p rs/\k=(j:Int)/\j<=rs.length/\Q (.bl (dropB rs j)) H
 | _=>False
theorem ke (T:Top K mg):Callee P w K mg base 1 "is_dropped" ["rules", "number"] (df K):=by
 refine T.gT.cal kc (by intro vs H Q E h; unfold df at h; split at h <;> first | rfl | exact h.elim) (fun _ _ _ _ _ _ us hl=>match us,hl with | [_,_],_=>rfl) (fun f cdv A outer s H vs Q E hr h=>?_);unfold df at h;split at h
 case h_2=>exact h.elim
 refine ⟨_,(ai (ap (xg (ge aN (qv 1) (aE (lenE K rfl) rfl T.bF be (aa (qv 0) ad))) (lO (ge aN (ak (ixE K rfl) (ak (ixE K rfl) (qv 0) (qv 1) (fun _ _=>rfl)) ae (fun _ _=>rfl)) (qs [100,114,111,112])))))),?_⟩;rename_i p k;obtain ⟨rs,j,⟨vs,e0,pr⟩,rfl,hj,q⟩:=h;have hlv:=pr.length;walk_at "rd";refine ⟨vs,.inl (SqL.of e0),ite2 (fun g=>?_) fun g=>?_⟩
 ·have e:rs[j]? = none:=List.getElem?_eq_none (by omega);have:dropB rs j=true:=by unfold dropB; rw [e]
  rw [this] at q;exact q
 have hjl:j < rs.length:=by omega
 obtain ⟨y,hy,t',ey,et⟩:=aD pr (List.getElem?_eq_getElem hjl);subst ey;refine ⟨vs,_,.inl (SqL.of e0),bo hy,?_⟩;walk_at "rd";refine ⟨_,_,.inr (SqT.of et),rfl,?_⟩;walk_at "rd";have:dropB rs j=decide (rs[j].2.1=dropT):=by unfold dropB; rw [List.getElem?_eq_getElem hjl]
 rw [this] at q;exact q
noncomputable abbrev Way:=List Nat × List Nat
def WayAt (H:Hp) (x:Way) (v:V):Prop:=∃ t,v=.ref t/\H t=some (.tup [tx x.1,tx x.2])
def Ways (H:Hp) (p:Addr) (ws:List Way):Prop:=∃ vs,H p=some (.lst vs)/\Paired (WayAt H) ws vs
theorem kL {H H':Hp} (k:∀ t vs,H t=some (.tup vs)->H' t=some (.tup vs)) {ws:List Way} {vs:List V} (h:Paired (WayAt H) ws vs):Paired (WayAt H') ws vs:=
 L2.Paired.mapP h fun _ _ ⟨t,e,q⟩=>⟨t,e,k _ _ q⟩
theorem Ways.same {H H':Hp} {p:Addr} {ws:List Way} (h:Ways H p ws) (s:Same H H'):Ways H' p ws:=by
 obtain ⟨vs,e,pr⟩:=h;exact ⟨vs,s _ _ e,kL (fun t us q=>s _ _ q) pr⟩
theorem mP {α β:Type} {F:α -> β -> Prop} {l:List α} {m:List β} {x:α} {y:β} (h:Paired F l m) (r:F x y):Paired F (l++[x]) (m++[y]):=by
 induction h with
 | nil=>exact .cons r .nil
 | cons r' _ ih=>exact .cons r' ih
noncomputable def wayD (x:Way):D:=.t [.f (tx x.1),.f (tx x.2)]
noncomputable def optV:Option (List Nat)->V
 | none=>.non
 | some d=>tx d
noncomputable def dJ (K:Frag):Sp:=fun vs H Q _=>match vs with
 | [.ref p,.str s]=>∃ ws:List Way,Ways H p ws/\(∀ x ∈ ws,x.1.length<=1000)/\∀ H',Same H H'->Q (optV (wayL ws s.cps.toList).2) H'
 | _=>False
theorem mj (T:Top K mg):Callee P w K mg base 1 "way_found" ["ways", "signs"] (dJ K):=by
 refine T.iS.cal bn (by intro vs H Q E h; unfold dJ at h; split at h <;> first | rfl | exact h.elim) (fun _ _ _ _ _ _ us hl=>match us,hl with | [_,_],_=>rfl) (fun f cdv A outer s H vs Q E hr h=>?_);unfold dJ at h;split at h
 case h_2=>exact h.elim
 refine ⟨_,(af (am (i:=2) bn.nd rfl lc (qW ae))
   (af (am (i:=3) bn.nd rfl lc fh)
   (af (bd PassesOwn.never rfl (iterE K rfl (qv 0)) (tupE K rfl rfl (n:=2) (ao (aj (i:=4) bn.nd rfl lc) (ao (aj (i:=5) bn.nd rfl lc) aK))) (ai (aI (PW.pt (lW (aC mw (aE (lenE K rfl) rfl T.bF be (aa (qv 4) ad)) (qv 2)) (i9 (br (kX (qv 1) (qv 4)))))) (af (am (i:=2) bn.nd rfl lc (aE (lenE K rfl) rfl T.bF be (aa (qv 4) ad)))
   (ai (am (i:=3) bn.nd rfl lc (qv 5)))) au)))
   (ai (ap (qv 3)))))),?_⟩
 rename_i p s;obtain ⟨l,rfl⟩:∃ x,s=st x:=⟨_,(aF s).symm⟩;obtain ⟨ws,⟨vs,e0,pr⟩,hw,q⟩:=h;simp only [al] at q;walk_at "rd";refine .inl ⟨⟨_,SqL.of e0⟩,?_⟩;have hl:=pr.length;refine bq (xs:=vs) (fun i σ H'=>∃ u v,σ = [some (.ref p),some (.str (st l)),some (.int (wayL (ws.take i) l).1),some (optV (wayL (ws.take i) l).2),u,v]/\Same H H') ⟨none,none,rfl,Same.refl _⟩ (fun i σ H' _ ⟨_,_,_,z⟩=>SqL.of (z _ _ e0)) ?_ ?_
 ·rintro i x σ H1 hx ⟨u,v,rfl,s1⟩;have hi:i < vs.length:=(List.getElem?_eq_some_iff.mp hx).1;have hiw:i < ws.length:=by omega
  obtain ⟨y,hy,t,ey,et⟩:=aD pr (List.getElem?_eq_getElem hiw);obtain rfl:x=.ref t:=by rw [hy] at hx; rw [<- Option.some.inj hx,ey]
  have st1:SqT K H1 t [tx ws[i].1,tx ws[i].2]:=SqT.of (s1 _ _ et);have hwi:=hw ws[i] (List.getElem_mem hiw);have step:wayL (ws.take (i+1)) l=wayStep l (wayL (ws.take i) l) ws[i]:=by
   unfold wayL;rw [List.take_add_one,List.getElem?_eq_getElem hiw,Option.toList_some,List.foldl_append];rfl
  rw [step];generalize wayL (ws.take i) l=a;unfold wayStep;refine ⟨t,[_,_],rfl,st1,rfl,_,[_],rfl,_,[],rfl,rfl,?_⟩;walk_at "rd";refine ⟨by omega,ite2 (fun g1=>ite2 (fun g2=>⟨by omega,?_⟩) fun g2=>?_) fun g1=>?_⟩
  ·rw [if_pos ⟨g1,g2⟩];exact ⟨_,_,rfl,s1⟩
  ·rw [if_neg fun z=>g2 z.2];exact ⟨_,_,rfl,s1⟩
  ·rw [if_neg fun z=>g1 z.1];exact ⟨_,_,rfl,s1⟩
 ·rintro σ H1 ⟨u,v,rfl,s1⟩;walk_at "rd";rw [<- hl,List.take_length];exact q H1 s1
noncomputable abbrev Gate:=List Nat × List Rule
noncomputable abbrev House:=List Gate × List Way
def GateAt (H:Hp) (x:Gate) (v:V):Prop:=∃ t p,v=.ref t/\H t=some (.tup [tx x.1,.ref p])/\Rules H p x.2
def Gates (H:Hp) (p:Addr) (gs:List Gate):Prop:=∃ vs,H p=some (.lst vs)/\Paired (GateAt H) gs vs
def HouseAt (H:Hp) (t:Addr) (h:House):Prop:=∃ g w,H t=some (.tup [.ref g,.ref w])/\Gates H g h.1/\Ways H w h.2
theorem Gates.same {H H':Hp} {p:Addr} {gs:List Gate} (h:Gates H p gs) (s:Same H H'):Gates H' p gs:=by
 obtain ⟨vs,e,pr⟩:=h;exact ⟨vs,s _ _ e,L2.Paired.mapP pr fun _ _ ⟨t,q,e,h1,h2⟩=>⟨t,q,e,s _ _ h1,h2.same s⟩⟩
theorem HouseAt.same {H H':Hp} {t:Addr} {h:House} (x:HouseAt H t h) (s:Same H H'):HouseAt H' t h:=by
 obtain ⟨g,w,e,h1,h2⟩:=x;exact ⟨g,w,s _ _ e,h1.same s,h2.same s⟩
noncomputable def gateOf (gs:List Gate) (n:List Nat):Option (List Rule):=(gs.find? fun g=>decide (g.1=n)).map (·.2)
noncomputable def cV (K:Frag):Sp:=fun vs H Q E=>match vs with
 | [.ref t,.str n]=>∃ h:House,HouseAt H t h/\(∀ c ∈ n.cps.toList,c < 16 ^ 8)/\n.cps.toList.length<=1000 /\
   (∀ rs,gateOf h.1 n.cps.toList=some rs->∀ p H',Same H H'->Rules H' p rs->Q (.ref p) H') /\
   (gateOf h.1 n.cps.toList=none->∀ H',Same H H'->E (.ref (xA K "NoDoor")) none H')
 | _=>False
theorem fQ (T:Top K mg):CalleeX P w K mg base 1 "gate_rules" ["house", "door"] (cV K):=by
 refine T.gP.calX c6 (by intro vs H Q E h; unfold cV at h; split at h <;> first | rfl | exact h.elim) (fun _ _ _ _ _ _ us hl=>match us,hl with | [_,_],_=>rfl) (fun f cdv A outer s H vs Q E hr h=>?_);unfold cV at h;split at h
 case h_2=>exact h.elim
 refine ⟨_,(af (bd PassesOwn.leaving rfl (iterE K rfl (ak (ixE K rfl) (qv 0) ae (fun _ _=>rfl))) (tupE K rfl rfl (n:=2) (ao (aj (i:=2) c6.nd rfl lc) (ao (aj (i:=3) c6.nd rfl lc) aK))) (ai (aI (aC aN (qv 2) (qv 1)) (ai (ap (qv 3))) au)))
   (ai (gI rfl fO rfl T.jV.1 T.jV.2 (aa (px (cP (qs [110,111,32,100,111,111,114,32]) (cP (lK (qv 1)) lZ))) ad)))),?_⟩
 rename_i p s;obtain ⟨n,rfl⟩:∃ x,s=st x:=⟨_,(aF s).symm⟩;obtain ⟨hs,⟨g,w,e,⟨vs,e0,pr⟩,hw⟩,hc,hn,q1,q2⟩:=h;simp only [al] at q1 q2 hc hn;have hl:=pr.length;walk_at "rd";refine ⟨_,_,.inr (SqT.of e),rfl,?_⟩;walk_at "rd";refine .inl ⟨⟨_,SqL.of e0⟩,?_⟩;refine bq (xs:=vs) (fun i σ H'=>∃ u v,σ = [some (.ref p),some (.str (st n)),u,v]/\Same H H'/\∀ x ∈ hs.1.take i,¬ x.1=n) ⟨none,none,rfl,Same.refl _,fun x hx=>by simp at hx⟩ (fun i σ H' _ ⟨_,_,_,z,_⟩=>SqL.of (z _ _ e0)) ?_ ?_
 ·rintro i x σ H1 hx ⟨u,v,rfl,s1,h1⟩;have hi:i < vs.length:=(List.getElem?_eq_some_iff.mp hx).1;have hil:i < hs.1.length:=by omega
  obtain ⟨y,hy,t,r,ey,et,hr⟩:=aD pr (List.getElem?_eq_getElem hil);obtain rfl:x=.ref t:=by rw [hy] at hx; rw [<- Option.some.inj hx,ey]
  refine ⟨t,[_,_],rfl,SqT.of (s1 _ _ et),rfl,_,[_],rfl,_,[],rfl,rfl,?_⟩;walk_at "rd";refine ite2 (fun g=>?_) fun g=>⟨some (tx hs.1[i].1),some (.ref r),rfl,s1,fun y hy=>?_⟩
  ·refine q1 hs.1[i].2 ?_ r H1 s1 (hr.same s1);unfold gateOf;rw [show hs.1.find? (fun g=>decide (g.1=n))=some hs.1[i] from List.find?_eq_some_iff_append.mpr ⟨by simpa using g,hs.1.take i,hs.1.drop (i+1),by simp,fun y hy=>by simpa using h1 y hy⟩];rfl
  ·rw [List.take_add_one,List.getElem?_eq_getElem hil] at hy;rcases List.mem_append.mp hy with hy | hy
   ·exact h1 y hy
   ·have e:y=hs.1[i]:=by simpa using hy
    rw [e];exact g
 ·rintro σ H1 ⟨u,v,rfl,s1,h1⟩;walk_at "rd";have e:gateOf hs.1 n=none:=by
   unfold gateOf;rw [List.find?_eq_none.mpr fun y hy=>by simpa using h1 y (by rw [<- hl,List.take_length]; exact hy)];rfl
  have hz:(st n).length=n.length:=cX n;refine ⟨by rw [cX]; exact Nat.le_of_lt (sizeBig (by decide)),hc,by omega,fun z hzz=>⟨?_,fun _=>⟨by decide,q2 e H1 s1⟩⟩⟩;rw [cX];exact Nat.le_of_lt (sizeBig (by simp only [List.length_cons,List.length_nil]; omega))
noncomputable def lostT:List Nat:=[108,111,115,116]
noncomputable def sentW:List Nat:=[115,101,110,116]
noncomputable def toT:List Nat:=[116,111]
noncomputable def sentV:Option (List Nat)->List Nat->List V
 | none,_=>[tx lostT]
 | some d,s=>[tx sentW,tx d,tx s]
noncomputable def gl:Sp:=fun vs H Q _=>match vs with
 | [d,.str s]=>∃ o:Option (List Nat),d=optV o/\∀ t H',H t=none->Same H H'->H' t=some (.tup (sentV o s.cps.toList))->Q (.ref t) H'
 | _=>False
theorem nQ (T:Top K mg):Callee P w K mg base 1 "sent_by" ["door", "thing"] gl:=by
 refine T.lw.cal oz (by intro vs H Q E h; unfold gl at h; split at h <;> first | rfl | exact h.elim) (fun _ _ _ _ _ _ us hl=>match us,hl with | [_,_],_=>rfl) (fun f cdv A outer s H vs Q E hr h=>?_);unfold gl at h;split at h
 case h_2=>exact h.elim
 refine ⟨_,(ai (ap (gG (aC mh (qv 0) fh) (aq (aa (qs [108,111,115,116]) ad)) (aq (aa (qs [115,101,110,116]) (aa (qv 0) (aa (qv 1) ad))))))),?_⟩;rename_i d s;obtain ⟨l,rfl⟩:∃ x,s=st x:=⟨_,(aF s).symm⟩;obtain ⟨o,rfl,q⟩:=h;simp only [al] at q;cases o with
 | none=>
  unfold optV;walk_at "rd";exact ⟨by decide,fun t ht=>q t _ ht (ag ht _) upd_same⟩
 | some d=>
  unfold optV;walk_at "rd";exact ⟨by decide,fun t ht=>q t _ ht (ag ht _) upd_same⟩
noncomputable def sentT (rs:List Rule) (l:List Nat):List Nat:=written l ((rs[firstR rs l]?.map (·.2.2)).getD [])
noncomputable def partT (ls:List Fld) (r:List Nat):List Nat:=match spanF ls toT 0 with
 | some (a,b)=>(r.drop a).take (b - a)
 | none=>[]
noncomputable def doesV (ls:List Fld) (rs:List Rule) (ws:List Way) (l:List Nat):List V:=
 if dropB rs (firstR rs l) then [tx dropT,.int (firstR rs l:Nat)] else sentV (wayL ws (partT ls (sentT rs l))).2 (sentT rs l)
structure Meet (ls:List Fld) (rs:List Rule) (ws:List Way) (n:Nat):Prop where
 wide:n<=1000
 over:∀ r ∈ rs,r.2.2.length=n
 ways:∀ x ∈ ws,x.1.length<=1000
 to:∃ a b,spanF ls toT 0=some (a,b)/\b<=n
noncomputable def da (K:Frag):Sp:=fun vs H Q E=>match vs with
 | [.ref p,.ref t,.str d,.str l]=>∃ (ls:List Fld) (hs:House),Lay H p ls/\HouseAt H t hs/\(∀ c ∈ d.cps.toList,c < 16 ^ 8)/\d.cps.toList.length<=1000 /\
   (∀ rs,gateOf hs.1 d.cps.toList=some rs->Meet ls rs hs.2 l.cps.toList.length/\∀ t H',H t=none->Same H H'->H' t=some (.tup (doesV ls rs hs.2 l.cps.toList))->Q (.ref t) H') /\
   (gateOf hs.1 d.cps.toList=none->∀ H',Same H H'->E (.ref (xA K "NoDoor")) none H')
 | _=>False
theorem kj (T:Top K mg):CalleeX P w K mg base 4 "house_does" ["layout", "house", "door", "letter"] (da K):=by
 refine T.gQ.calX cr (by intro vs H Q E h; unfold da at h; split at h <;> first | rfl | exact h.elim) (fun _ _ _ _ _ _ us hl=>match us,hl with | [_,_,_,_],_=>rfl) (fun f cdv A outer s H vs Q E hr h=>?_);unfold da at h;split at h
 case h_2=>exact h.elim
 refine ⟨_,(af (am (i:=4) cr.nd rfl lc (fo (fQ T) hr.m bN rfl (aa (qv 1) (aa (qv 2) ad))))
   (af (am (i:=5) cr.nd rfl lc (av (kA T) hr.m rfl (aa (qv 4) (aa (qv 3) ad))))
   (af (aI (br (av (ke T) hr.m rfl (aa (qv 4) (aa (qv 5) ad)))) (ai (ap (aq (aa (qs [100,114,111,112]) (aa (qv 5) ad))))) au)
   (af (am (i:=6) cr.nd rfl lc (av (jy T) hr.m rfl (aa (qv 3) (aa (ak (ixE K rfl) (ak (ixE K rfl) (qv 4) (qv 5) (fun _ _=>rfl)) ae (fun _ _=>rfl)) ad))))
   (ai (ap (av (nQ T) hr.m rfl (aa (av (mj T) hr.m rfl (aa (ak (ixE K rfl) (qv 1) ae (fun _ _=>rfl)) (aa (fo (ko T) hr.m bN rfl (aa (qv 0) (aa (qs [116,111]) (aa (qv 6) ad)))) ad))) (aa (qv 6) ad))))))))),?_⟩
 rename_i p t d s;obtain ⟨l,rfl⟩:∃ x,s=st x:=⟨_,(aF s).symm⟩;obtain ⟨n,rfl⟩:∃ x,d=st x:=⟨_,(aF d).symm⟩;obtain ⟨ls,hs,hL,hH,hc,hn,q1,q2⟩:=h;simp only [al] at q1 q2 hc hn;walk_at "rd";refine ⟨hs,hH,by simp only [al]; exact hc,by simp only [al]; exact hn,fun rs e a H1 s1 hR=>?_,fun e H1 s1=>q2 (by simpa only [al] using e) H1 s1⟩;simp only [al] at e;obtain ⟨M,q1⟩:=q1 rs e;walk_at "rd";refine ⟨rs,hR,fun H2 s2=>?_⟩;simp only [al];have hR2:=hR.same s2;have s12:=s1.trans s2;have hle:firstR rs l<=rs.length:=List.findIdx_le_length;walk_at "rd";refine ⟨rs,firstR rs l,hR2,rfl,hle,ite2 (fun g=>?_) fun g=>?_⟩
 ·refine ⟨by decide,fun t2 ht2=>q1 t2 _ (s12.free ht2) (s12.trans (ag ht2 _)) ?_⟩;rw [upd_same,doesV,if_pos g];rfl
 have hjl:firstR rs l < rs.length:=by
  rcases Nat.lt_or_ge (firstR rs l) rs.length with z | z
  ·exact z
  ·exfalso;apply g;unfold dropB;rw [List.getElem?_eq_none z]
 obtain ⟨vs,e0,pr⟩:=hR2;obtain ⟨y,hy,t',ey,et⟩:=aD pr (List.getElem?_eq_getElem hjl);subst ey;refine ⟨vs,_,.inl (SqL.of e0),bo hy,?_⟩;walk_at "rd";have ho:=M.over rs[firstR rs l] (List.getElem_mem hjl);have es:sentT rs l=written l rs[firstR rs l].2.2:=by unfold sentT; rw [List.getElem?_eq_getElem hjl]; rfl
 refine ⟨_,_,.inr (SqT.of et),rfl,by simp only [al]; exact M.wide,fun H3 s3=>?_⟩;simp only [al];rw [<- es];have hsl:(sentT rs l).length=l.length:=by rw [es]; exact cO ho.symm
 have s13:=s12.trans s3;obtain ⟨g1,w1,eh,hg,hw⟩:=hH.same s13;walk_at "rd";refine ⟨_,_,.inr (SqT.of eh),rfl,?_⟩;walk_at "rd";obtain ⟨a1,b1,esp,hb1⟩:=M.to;have hM:=M.wide;refine ⟨ls,hL.same s13,by decide,by decide,by simp only [al]; omega,fun a b e4=>?_,fun e4=>?_⟩
 ·simp only [al];have e5:spanF ls toT 0=some (a,b):=e4;rw [esp] at e5;cases e5;refine ⟨by omega,fun H4 s4=>?_⟩;have s14:=s13.trans s4;walk_at "rd";refine ⟨hs.2,hw.same s4,M.ways,fun H5 s5=>?_⟩;have s15:=s14.trans s5;walk_at "rd";refine ⟨_,rfl,fun t2 H6 ht2 s6 e6=>q1 t2 H6 (s15.free ht2) (s15.trans s6) ?_⟩;rw [e6,doesV,if_neg g];simp only [al];unfold partT;rw [esp]
 ·have e5:spanF ls toT 0=none:=e4;rw [esp] at e5;cases e5
noncomputable def ee:Sp:=fun vs H Q _=>match vs with
 | [.str a,.str b]=>∀ H',Same H H'->Q (.bl (within b.cps.toList a.cps.toList)) H'
 | _=>False
theorem lN (T:Top K mg):Callee P w K mg base 1 "_law_lies" ["_law_row", "_law_letter"] ee:=by
 refine T.iK.cal dY (by intro vs H Q E h; unfold ee at h; split at h <;> first | rfl | exact h.elim) (fun _ _ _ _ _ _ us hl=>match us,hl with | [_,_],_=>rfl) (fun f cdv A outer s H vs Q E hr h=>?_);unfold ee at h;split at h
 case h_2=>exact h.elim
 refine ⟨_,(af (bd PassesOwn.never rfl (zipE K rfl rfl T.jX (qv 0) (qv 1)) (tupE K rfl rfl (n:=2) (ao (aj (i:=2) dY.nd rfl lc) (ao (aj (i:=3) dY.nd rfl lc) aK))) (ai (aI (PW.pt (lW (aC hZ (qv 2) (qs [45])) (i9 (aC hZ (qv 2) (qv 3))))) (ai (ap dt)) au)))
   (ai (ap dt))),?_⟩
 rename_i a b;obtain ⟨x,rfl⟩:∃ x,a=st x:=⟨_,(aF a).symm⟩;obtain ⟨y,rfl⟩:∃ y,b=st y:=⟨_,(aF b).symm⟩;walk_at "rd";refine jn (xs:=x.map fun c=>V.str (st [c])) (ys:=y.map fun c=>V.str (st [c])) (fun i σ H'=>∃ u v,σ = [some (.str (st x)),some (.str (st y)),u,v]/\Same H H'/\within (y.take i) (x.take i)=true) ⟨none,none,rfl,Same.refl _,by simp [within]⟩
  (fun i σ H' _=>⟨rfl,rfl⟩) ?_ ?_
 ·rintro i c d σ H1 p hx hy ⟨u,v,rfl,s1,e1⟩ hp;rw [List.getElem?_map] at hx hy;obtain ⟨c,hc,rfl⟩:=Option.map_eq_some_iff.mp hx;obtain ⟨d,hd,rfl⟩:=Option.map_eq_some_iff.mp hy;walk_at "rd";have s2:Same H (upd H1 p (.tup [V.str (st [c]),V.str (st [d])])):=s1.trans (ag hp _);have bad:¬ c=45->¬ c=d->within y x=false:=fun h1 h2=>by
   unfold within;rw [Bool.eq_false_iff];intro z;rw [List.all_eq_true] at z;have:=z (d,c) (List.mem_of_getElem? (List.getElem?_zip_eq_some.mpr ⟨hd,hc⟩));simp [h1,h2] at this
  have good:c=45\/c=d->within (y.take (i+1)) (x.take (i+1))=true:=fun h=>by
   unfold within at e1 ⊢;rw [List.take_succ,List.take_succ,hc,hd];have hl:(y.take i).length=(x.take i).length:=by
    have:=(List.getElem?_eq_some_iff.mp hc).1;have:=(List.getElem?_eq_some_iff.mp hd).1;simp; omega
   rw [List.zip_append hl,List.all_append,e1];simpa using h
  refine ite2 (fun h1=>?_) fun h1=>ite2 (fun h2=>?_) fun h2=>?_
  ·exact ⟨_,_,rfl,s2,good (.inl h1)⟩
  ·exact ⟨_,_,rfl,s2,good (.inr h2)⟩
  ·have:=h _ s2;simp only [al,bad h1 h2] at this;exact this
 ·rintro σ H1 ⟨u,v,rfl,s1,e1⟩;walk_at "rd";have e2:within y x=true:=by
   simp only [List.length_map] at e1;unfold within at e1 ⊢;rw [List.all_eq_true] at e1 ⊢;rintro ⟨d,c⟩ hm;obtain ⟨i,hi⟩:=List.mem_iff_getElem?.mp hm;obtain ⟨h1,h2⟩:=List.getElem?_zip_eq_some.mp hi;have l1:=(List.getElem?_eq_some_iff.mp h1).1;have l2:=(List.getElem?_eq_some_iff.mp h2).1;refine e1 (d,c) (List.mem_of_getElem? (i:=i) (List.getElem?_zip_eq_some.mpr ⟨?_,?_⟩))
   ·rw [List.getElem?_take_of_lt (by omega)]; exact h1
   ·rw [List.getElem?_take_of_lt (by omega)]; exact h2
  have:=h _ s1;simp only [al,e2] at this;exact this
noncomputable def cx:Sp:=fun vs H Q _=>match vs with
 | [.str a,.str b]=>a.cps.toList.length<=1000/\∀ H',Same H H'->Q (.str (st (written a.cps.toList b.cps.toList))) H'
 | _=>False
theorem iX (T:Top K mg):Callee P w K mg base 1 "_law_written" ["_law_letter", "_law_over"] cx:=by
 refine T.fH.cal i4 (by intro vs H Q E h; unfold cx at h; split at h <;> first | rfl | exact h.elim) (fun _ _ _ _ _ _ us hl=>match us,hl with | [_,_],_=>rfl) (fun f cdv A outer s H vs Q E hr h=>?_);unfold cx at h;split at h
 case h_2=>exact h.elim
 refine ⟨_,(ai (ap (joinE K rfl (bu (nt:=2) (fi:=[]) (N':=["_law_own", "_law_sign"]) rfl (cscope rfl (by decide +kernel)) (cnames (N:=["_law_letter", "_law_over"]) (sc:=defScope bY) rfl rfl (by decide +kernel)) (gr (by decide) (by decide)) (zipE K rfl rfl T.jX (qv 0) (qv 1)) (fun _ _ _ _ _=>(tupE K rfl rfl (n:=2) (ao (aj (i:=0) (by show (["_law_own", "_law_sign"]:List Str).Nodup; decide +kernel) rfl lc) (ao (aj (i:=1) (by show (["_law_own", "_law_sign"]:List Str).Nodup; decide +kernel) rfl lc) aK)))) (fun _ _ _ _ _=>bw) (fun _ _ _ _ _=>(gG (aC aN (qv 1) (qs [45])) (qv 0) (qv 1))))))),?_⟩;rename_i a b;obtain ⟨r,rfl⟩:∃ x,a=st x:=⟨_,(aF a).symm⟩;obtain ⟨o,rfl⟩:∃ x,b=st x:=⟨_,(aF b).symm⟩;obtain ⟨h1,q⟩:=h;simp only [al] at h1 q;walk_at "rd";intro D hD;refine mJ (us:=r.map fun c=>V.str (st [c])) (ws:=o.map fun c=>V.str (st [c])) (h:=fun x y=>[V.str (st [wSign (vcode x) (vcode y)])]) hD (fun _ _=>rfl) (fun _ _=>rfl) (by simp; omega) (fun _ _=>by simp) ?_ ?_
 ·intro x y H1 out non hm s1 ho hn;obtain ⟨hx,hy⟩:=List.of_mem_zip hm;obtain ⟨c,_,rfl⟩:=List.mem_map.mp hx;obtain ⟨d,_,rfl⟩:=List.mem_map.mp hy;walk_at "rd";refine ite2 (fun h4=>?_) fun h4=>?_
  ·exact ho _ _ (by simp [wSign,vcode,h4]) (Same.refl _)
  ·exact ho _ _ (by simp [wSign,vcode,h4]) (Same.refl _)
 ·intro H1 s1 e1;rw [lm] at e1;exact ⟨_,SqL.of e1,by simp [written]; omega,q H1 s1⟩
noncomputable def cU (K:Frag):Sp:=fun vs H Q _=>match vs with
 | [.ref p]=>∃ ls:List Fld,Lay H p ls/\ls.length<=1000/\∀ H',Same H H'->Q (.int (widthL ls:Nat)) H'
 | _=>False
theorem fP (T:Top K mg):Callee P w K mg base 1 "_law_width" ["_law_layout"] (cU K):=by
 refine T.gX.cal kf (by intro vs H Q E h; unfold cU at h; split at h <;> first | rfl | exact h.elim) (fun _ _ _ _ _ _ us hl=>match us,hl with | [_],_=>rfl) (fun f cdv A outer s H vs Q E hr h=>?_);unfold cU at h;split at h
 case h_2=>exact h.elim
 refine ⟨_,(ai (ap (aE (kK K rfl rfl) rfl T.sR rM (aa (bu (nt:=2) (fi:=[]) (N':=["_law_name", "_law_size"]) rfl (cscope rfl (by decide +kernel)) (cnames (N:=["_law_layout"]) (sc:=defScope cB) rfl rfl (by decide +kernel)) (gr (by decide) (by decide)) (iterE K rfl (qv 0)) (fun _ _ _ _ _=>(tupE K rfl rfl (n:=2) (ao (aj (i:=0) (by show (["_law_name", "_law_size"]:List Str).Nodup; decide +kernel) rfl lc) (ao (aj (i:=1) (by show (["_law_name", "_law_size"]:List Str).Nodup; decide +kernel) rfl lc) aK)))) (fun _ _ _ _ _=>bw) (fun _ _ _ _ _=>(qv 1))) ad)))),?_⟩;rename_i p;obtain ⟨ls,⟨vs,e0,pr⟩,hn,q⟩:=h;have hl:=pr.length;obtain ⟨z1,z2⟩:=b9 pr;walk_at "rd";refine .inl ⟨⟨_,SqL.of e0⟩,fun D hD=>?_⟩;refine fN (item:=fun x:Fld × V=>x.2) (xs:=ls.zip vs) (h:=fun x=>[V.int x.1.2]) hD (by rw [z1]; exact SqL.of e0) (by rw [List.length_zip]; omega) (fun _=>by simp) ?_ ?_
 ·intro x H1 out non hx s1 ho _;obtain ⟨t,ex,et⟩:=z2 x hx;rw [ex];refine ⟨t,[_,_],rfl,SqT.of (s1 _ _ et),rfl,_,[_],rfl,_,[],rfl,rfl,?_⟩;walk_at "rd";exact ho _ _ rfl (Same.refl _)
 ·intro H1 s1 e1;rw [show (ls.zip vs).flatMap (fun x=>[V.int x.1.2])=(ls.map fun x:Fld=>(x.2:Int)).map V.int by
   rw [<- dG (l:=ls) (m:=vs) hl];simp only [List.map_map];rw [dG hl]
   induction ls.zip vs with
   | nil=>rfl
   | cons x r ih=>rw [List.flatMap_cons,ih]; rfl] at e1
  walk_at "rd";refine ⟨_,SqL.of e1,?_⟩;have:=q H1 s1;unfold widthL at this;rw [show (ls.map fun x:Fld=>(x.2:Int)).sum=((ls.map (·.2)).sum:Nat) by rw [<- jP,List.map_map]; rfl];exact this
noncomputable def spanG (ls:List Fld):Nat × Nat:=(spanF ls toT 0).getD (0,0)
noncomputable def dI (K:Frag):Sp:=fun vs H Q _=>match vs with
 | [.ref p]=>∃ ls:List Fld,Lay H p ls/\∀ t H',H t=none->Same H H'->H' t=some (.tup [.int ((spanG ls).1:Nat),.int ((spanG ls).2:Nat)])->Q (.ref t) H'
 | _=>False
theorem dU (T:Top K mg):Callee P w K mg base 1 "_law_span" ["_law_layout"] (dI K):=by
 refine T.iP.cal bU (by intro vs H Q E h; unfold dI at h; split at h <;> first | rfl | exact h.elim) (fun _ _ _ _ _ _ us hl=>match us,hl with | [_],_=>rfl) (fun f cdv A outer s H vs Q E hr h=>?_);unfold dI at h;split at h
 case h_2=>exact h.elim
 refine ⟨_,(af (am (i:=1) bU.nd rfl lc ae)
   (af (bd PassesOwn.never rfl (iterE K rfl (qv 0)) (tupE K rfl rfl (n:=2) (ao (aj (i:=2) bU.nd rfl lc) (ao (aj (i:=3) bU.nd rfl lc) aK))) (af (aI (aC aN (qv 2) (qs [116,111])) (ai (ap (aq (aa (qv 1) (aa (aw aB (qv 1) (qv 3)) ad))))) au)
   (ai (am (i:=1) bU.nd rfl lc (aw aB (qv 1) (qv 3))))))
   (ai (ap (aq (aa ae (aa ae ad))))))),?_⟩
 rename_i p;obtain ⟨ls,⟨vs,e0,pr⟩,q1⟩:=h;have hl:=pr.length;walk_at "rd";refine .inl ⟨⟨_,SqL.of e0⟩,?_⟩;refine bq (xs:=vs) (fun i σ H'=>∃ u v,σ = [some (.ref p),some (.int (widthL (ls.take i):Nat)),u,v]/\Same H H'/\∀ x ∈ ls.take i,¬ x.1=toT) ⟨none,none,rfl,Same.refl _,fun x hx=>by simp at hx⟩ (fun i σ H' _ ⟨_,_,_,z,_⟩=>SqL.of (z _ _ e0)) ?_ ?_
 ·rintro i x σ H1 hx ⟨u,v,rfl,s1,h1⟩;have hi:i < vs.length:=(List.getElem?_eq_some_iff.mp hx).1;have hil:i < ls.length:=by omega
  obtain ⟨y,hy,t,ey,et⟩:=aD pr (List.getElem?_eq_getElem hil);obtain rfl:x=.ref t:=by rw [hy] at hx; rw [<- Option.some.inj hx,ey]
  refine ⟨t,[_,_],rfl,SqT.of (s1 _ _ et),rfl,_,[_],rfl,_,[],rfl,rfl,?_⟩;walk_at "rd";have sp:spanF ls toT 0=spanF (ls.drop i) toT (0+widthL (ls.take i)):=by
   have:=b8 (ls.take i) (ls.drop i) toT 0 h1;rw [List.take_append_drop] at this;exact this
  rw [List.drop_eq_getElem_cons hil,Nat.zero_add] at sp;have w1:widthL (ls.take (i+1))=widthL (ls.take i)+ls[i].2:=by
   unfold widthL;rw [List.take_add_one,List.getElem?_eq_getElem hil,Option.toList_some,List.map_append,List.sum_append];simp
  refine ite2 (fun g=>⟨by decide,fun t2 ht2=>?_⟩) fun g=>⟨some (tx ls[i].1),some (.int ls[i].2),?_,s1,fun y hy=>?_⟩
  ·refine q1 t2 _ (s1.free ht2) (s1.trans (ag ht2 _)) ?_;have e:spanG ls=(widthL (ls.take i),widthL (ls.take i)+ls[i].2):=by
    unfold spanG;rw [sp,show ls[i]=(ls[i].1,ls[i].2) from rfl,spanF,if_pos (show ls[i].1=toT from g)];rfl
   rw [upd_same,e];simp
  ·rw [w1];simp
  ·rw [List.take_add_one,List.getElem?_eq_getElem hil] at hy;rcases List.mem_append.mp hy with hy | hy
   ·exact h1 y hy
   ·have e:y=ls[i]:=by simpa using hy
    rw [e];exact g
 ·rintro σ H1 ⟨u,v,rfl,s1,h1⟩;walk_at "rd";have e:spanF ls toT 0=none:=by
   have:=b8 ls [] toT 0 fun x hx=>h1 x (by rw [<- hl,List.take_length]; exact hx)
   rw [List.append_nil] at this;exact this
  refine ⟨by decide,fun t2 ht2=>q1 t2 _ (s1.free ht2) (s1.trans (ag ht2 _)) ?_⟩;rw [upd_same];unfold spanG;rw [e];rfl
noncomputable def dD (K:Frag):Sp:=fun vs H Q _=>match vs with
 | [.ref p,.ref v,.str l]=>∃ (ls:List Fld) (ws:List Way) (a b:Nat),Lay H p ls/\Ways H v ws/\(∀ x ∈ ws,x.1.length<=1000)/\l.cps.toList.length<=1000/\spanF ls toT 0=some (a,b)/\b<=l.cps.toList.length /\
   ∀ t H',Same H H'->H' t=some (.tup (sentV (wayL ws (partT ls l.cps.toList)).2 l.cps.toList))->Q (.ref t) H'
 | _=>False
theorem mv (T:Top K mg):Callee P w K mg base 2 "_law_goes" ["_law_layout", "_law_ways", "_law_letter"] (dD K):=by
 refine T.iR.cal aS (by intro vs H Q E h; unfold dD at h; split at h <;> first | rfl | exact h.elim) (fun _ _ _ _ _ _ us hl=>match us,hl with | [_,_,_],_=>rfl) (fun f cdv A outer s H vs Q E hr h=>?_);unfold dD at h;split at h
 case h_2=>exact h.elim
 refine ⟨_,(af (ig (av (dU T) hr.m rfl (aa (qv 0) ad)) (seqE K rfl rfl (n:=2) (ao (aj (i:=3) aS.nd rfl lc) (ao (aj (i:=4) aS.nd rfl lc) aK))))
   (af (am (i:=5) aS.nd rfl lc (qW ae))
   (af (am (i:=6) aS.nd rfl lc (aq (aa (qs [108,111,115,116]) ad)))
   (af (bd PassesOwn.never rfl (iterE K rfl (qv 1)) (tupE K rfl rfl (n:=2) (ao (aj (i:=7) aS.nd rfl lc) (ao (aj (i:=8) aS.nd rfl lc) aK))) (ai (aI (PW.pt (lW (br (kX (bp slB (qv 2) (bx (qv 3)) (bx (qv 4))) (qv 7))) (i9 (aC mw (aE (lenE K rfl) rfl T.bF be (aa (qv 7) ad)) (qv 5))))) (af (am (i:=5) aS.nd rfl lc (aE (lenE K rfl) rfl T.bF be (aa (qv 7) ad)))
   (ai (am (i:=6) aS.nd rfl lc (aq (aa (qs [115,101,110,116]) (aa (qv 8) (aa (qv 2) ad))))))) au)))
   (ai (ap (qv 6))))))),?_⟩
 rename_i p v s;obtain ⟨l,rfl⟩:∃ x,s=st x:=⟨_,(aF s).symm⟩;obtain ⟨ls,ws,a,b,hL,hW,hw,hl,hsp,hb,q⟩:=h;simp only [al] at q hl hb;have hab:=jl ls toT 0 a b hsp;have eG:spanG ls=(a,b):=by unfold spanG; rw [hsp]; rfl
 have eP:partT ls l=(l.drop a).take (b - a):=by unfold partT; rw [hsp]
 walk_at "rd";refine ⟨ls,hL,fun t1 H1 ht1 s1 e1=>?_⟩;rw [eG] at e1;refine ⟨[_,_],.inr (SqT.of e1),rfl,_,[_],rfl,_,[],rfl,rfl,?_⟩;walk_at "rd";refine ⟨by decide,fun t2 ht2=>?_⟩;have s2:=s1.trans (ag ht2 (.tup [tx lostT]));obtain ⟨vs,e0,pr⟩:=hW.same s2;have hlv:=pr.length;refine .inl ⟨⟨_,SqL.of e0⟩,?_⟩;refine bq (xs:=vs) (fun i σ H'=>∃ u v2 t,σ = [some (.ref p),some (.ref v),some (.str (st l)),some (.int a),some (.int b),some (.int (wayL (ws.take i) (partT ls l)).1),some (.ref t),u,v2]/\Same (upd H1 t2 (.tup [tx lostT])) H'/\H' t=some (.tup (sentV (wayL (ws.take i) (partT ls l)).2 l)))
  ⟨none,none,t2,rfl,Same.refl _,upd_same⟩ (fun i σ H' _ ⟨_,_,_,_,z,_⟩=>SqL.of (z _ _ e0)) ?_ ?_
 ·rintro i x σ H2 hx ⟨u,v2,t,rfl,s3,e3⟩;have hi:i < vs.length:=(List.getElem?_eq_some_iff.mp hx).1;have hiw:i < ws.length:=by omega
  obtain ⟨y,hy,t',ey,et⟩:=aD pr (List.getElem?_eq_getElem hiw);obtain rfl:x=.ref t':=by rw [hy] at hx; rw [<- Option.some.inj hx,ey]
  have st1:SqT K H2 t' [tx ws[i].1,tx ws[i].2]:=SqT.of (s3 _ _ et);have hwi:=hw ws[i] (List.getElem_mem hiw);have step:wayL (ws.take (i+1)) (partT ls l)=wayStep (partT ls l) (wayL (ws.take i) (partT ls l)) ws[i]:=by
   unfold wayL;rw [List.take_add_one,List.getElem?_eq_getElem hiw,Option.toList_some,List.foldl_append];rfl
  rw [step];generalize wayL (ws.take i) (partT ls l)=c at e3 ⊢;unfold wayStep;refine ⟨t',[_,_],rfl,st1,rfl,_,[_],rfl,_,[],rfl,rfl,?_⟩;walk_at "rd";refine ⟨by omega,by omega,by omega,by omega,?_⟩;rw [Int.toNat_natCast,Int.toNat_natCast,<- eP];refine ite2 (fun g2=>⟨by omega,ite2 (fun g1=>⟨by omega,by decide,fun t3 ht3=>?_⟩) fun g1=>?_⟩) fun g2=>?_
  ·rw [if_pos ⟨g1,g2⟩];exact ⟨_,_,t3,rfl,s3.trans (ag ht3 _),upd_same⟩
  ·rw [if_neg fun z=>g1 z.1];exact ⟨_,_,t,rfl,s3,e3⟩
  ·rw [if_neg fun z=>g2 z.2];exact ⟨_,_,t,rfl,s3,e3⟩
 ·rintro σ H2 ⟨u,v2,t,rfl,s3,e3⟩;walk_at "rd";rw [<- hlv,List.take_length] at e3;exact q t H2 (s2.trans s3) e3
theorem nJ (l:List Gate) (x:Gate) (n:List Nat):gateOf (l++[x]) n=(gateOf l n).or (if x.1=n then some x.2 else none):=by
 unfold gateOf;rw [List.find?_append];cases e:l.find? fun g=>decide (g.1=n) with
 | some y=>rfl
 | none=>
  by_cases h:x.1=n
  ·simp [h]
  ·simp [h]
theorem mM {l:List Gate} {n:List Nat} (h:n ∉ l.map (·.1)):gateOf l n=none:=by
 unfold gateOf;rw [List.find?_eq_none.mpr fun y hy=>by
  have:¬ y.1=n:=fun e=>h (List.mem_map.mpr ⟨y,hy,e⟩)
  simpa using this]
 rfl
theorem oE {rs:List Rule} {l:List Nat} {i:Nat} (hi:i < rs.length) (h1:∀ r ∈ rs.take i,within l r.1=false) (g:within l rs[i].1=true):firstR rs l=i:=
 (List.findIdx_eq hi).mpr ⟨g,fun j hj=>h1 rs[j] (List.mem_take_iff_getElem.mpr ⟨j,by omega,rfl⟩)⟩
noncomputable def dR (K:Frag):Sp:=fun vs H Q _=>match vs with
 | [.ref p,.ref t,.str d,.str l]=>∃ (ls:List Fld) (hs:House) (rs:List Rule),Lay H p ls/\HouseAt H t hs/\(hs.1.map (·.1)).Nodup/\gateOf hs.1 d.cps.toList=some rs/\Meet ls rs hs.2 l.cps.toList.length /\
   ∀ t H',Same H H'->H' t=some (.tup (doesV ls rs hs.2 l.cps.toList))->Q (.ref t) H'
 | _=>False
theorem mq (T:Top K mg):Callee P w K mg base 3 "_law_does" ["_law_layout", "_law_house", "_law_door", "_law_letter"] (dR K):=by
 refine T.iU.cal bi (by intro vs H Q E h; unfold dR at h; split at h <;> first | rfl | exact h.elim) (fun _ _ _ _ _ _ us hl=>match us,hl with | [_,_,_,_],_=>rfl) (fun f cdv A outer s H vs Q E hr h=>?_);unfold dR at h;split at h
 case h_2=>exact h.elim
 refine ⟨_,(af (am (i:=4) bi.nd rfl lc (aZ ad))
   (af (bd PassesOwn.never rfl (iterE K rfl (ak (ixE K rfl) (qv 1) ae (fun _ _=>rfl))) (tupE K rfl rfl (n:=2) (ao (aj (i:=5) bi.nd rfl lc) (ao (aj (i:=6) bi.nd rfl lc) aK))) (ai (aI (aC aN (qv 5) (qv 2)) (ai (am (i:=4) bi.nd rfl lc (qv 6))) au)))
   (af (bd PassesOwn.never rfl (mO K rfl rfl T.fE (qv 4)) (tupE K rfl rfl (n:=2) (ao (aj (i:=7) bi.nd rfl lc) (ao (aj (i:=8) bi.nd rfl lc) aK))) (ai (aI (br (av (lN T) hr.m rfl (aa (ak (ixE K rfl) (qv 8) ae (fun _ _=>rfl)) (aa (qv 3) ad)))) (af (aI (aC aN (ak (ixE K rfl) (qv 8) ae (fun _ _=>rfl)) (qs [100,114,111,112])) (ai (ap (aq (aa (qs [100,114,111,112]) (aa (qv 7) ad))))) au)
   (ai (ap (av (mv T) hr.m rfl (aa (qv 0) (aa (ak (ixE K rfl) (qv 1) ae (fun _ _=>rfl)) (aa (av (iX T) hr.m rfl (aa (qv 3) (aa (ak (ixE K rfl) (qv 8) ae (fun _ _=>rfl)) ad))) ad))))))) au)))
   (ai (ap (aq (aa (qs [100,114,111,112]) (aa (aE (lenE K rfl) rfl T.bF be (aa (qv 4) ad)) ad)))))))),?_⟩
 rename_i p t d s;obtain ⟨l,rfl⟩:∃ x,s=st x:=⟨_,(aF s).symm⟩;obtain ⟨n,rfl⟩:∃ x,d=st x:=⟨_,(aF d).symm⟩;obtain ⟨ls,hs,rs,hL,hH,nd,eg,M,q⟩:=h;simp only [al] at q eg M;walk_at "rd";refine ⟨Nat.zero_le _,fun r0 hr0=>?_⟩;have s0:=ag hr0 (.lst []);have hH0:=hH.same s0;obtain ⟨g,w,e,⟨vs,e0,pr⟩,hw⟩:=id hH0;have hl:=pr.length;refine ⟨_,_,.inr (SqT.of e),rfl,?_⟩;walk_at "rd";refine .inl ⟨⟨_,SqL.of e0⟩,?_⟩;refine bq (xs:=vs) (fun i σ H'=>∃ r u v,σ = [some (.ref p),some (.ref t),some (.str (st n)),some (.str (st l)),some (.ref r),u,v,none,none]/\Same (upd H r0 (.lst [])) H'/\Rules H' r ((gateOf (hs.1.take i) n).getD [])) ⟨r0,none,none,rfl,Same.refl _,⟨[],upd_same,.nil⟩⟩ (fun i σ H' _ ⟨_,_,_,_,z,_⟩=>SqL.of (z _ _ e0)) ?_ ?_
 ·rintro i x σ H1 hx ⟨r,u,v,rfl,s1,h1⟩;have hi:i < vs.length:=(List.getElem?_eq_some_iff.mp hx).1;have hil:i < hs.1.length:=by omega
  obtain ⟨y,hy,t',r',ey,et,hr⟩:=aD pr (List.getElem?_eq_getElem hil);obtain rfl:x=.ref t':=by rw [hy] at hx; rw [<- Option.some.inj hx,ey]
  have tk:hs.1.take (i+1)=hs.1.take i++[hs.1[i]]:=by rw [List.take_add_one,List.getElem?_eq_getElem hil,Option.toList_some]
  rw [tk,nJ];refine ⟨t',[_,_],rfl,SqT.of (s1 _ _ et),rfl,_,[_],rfl,_,[],rfl,rfl,?_⟩;walk_at "rd";refine ite2 (fun g=>⟨r',some (tx hs.1[i].1),some (.ref r'),rfl,s1,?_⟩) fun g=>⟨r,some (tx hs.1[i].1),some (.ref r'),rfl,s1,?_⟩
  ·rw [if_pos g,mM (l:=hs.1.take i)]
   ·exact hr.same s1
   ·intro hm;obtain ⟨z,hz,ez⟩:=List.mem_map.mp hm;obtain ⟨j,hj,rfl⟩:=List.mem_take_iff_getElem.mp hz;have:=List.pairwise_iff_getElem.mp nd j i (by simp; omega) (by simp; omega) (by omega);apply this;rw [List.getElem_map,List.getElem_map];exact ez.trans g.symm
  ·rw [if_neg g,Option.or_none];exact h1
 ·rintro σ H1 ⟨r,u,v,rfl,s1,h1⟩;rw [<- hl,List.take_length,eg,Option.getD_some] at h1;obtain ⟨us,e1,pr1⟩:=h1;have hl1:=pr1.length;have s01:=s0.trans s1;walk_at "rd";refine ⟨⟨_,SqL.of e1⟩,?_⟩;refine jt (xs:=us) (fun i σ H'=>∃ a b,σ = [some (.ref p),some (.ref t),some (.str (st n)),some (.str (st l)),some (.ref r),u,v,a,b]/\Same H1 H'/\∀ r ∈ rs.take i,within l r.1=false) ⟨none,none,rfl,Same.refl _,fun r hr=>by simp at hr⟩ (fun i σ H' _ ⟨_,_,_,z,_⟩=>SqL.of (z _ _ e1)) ?_ ?_
  ·rintro i x σ H2 t2 hx ⟨a,b,rfl,s2,h2⟩ ht2;have hi:i < us.length:=(List.getElem?_eq_some_iff.mp hx).1;have hir:i < rs.length:=by omega
   obtain ⟨y,hy,t',ey,et⟩:=aD pr1 (List.getElem?_eq_getElem hir);obtain rfl:x=.ref t':=by rw [hy] at hx; rw [<- Option.some.inj hx,ey]
   have s3:=s2.trans (ag ht2 (.tup [.int i,.ref t']));have s13:=s01.trans s3;have st1:=SqT.of (K:=K) (s3 _ _ et);walk_at "rd";refine ⟨_,_,.inr st1,rfl,fun H3 s4=>?_⟩;simp only [al];have s14:=s13.trans s4;have st2:=SqT.of (K:=K) (s4 _ _ (s3 _ _ et));refine ite2 (fun g=>?_) fun g=>⟨_,_,rfl,s3.trans s4,fun r hr=>?_⟩
   ·have ef:firstR rs l=i:=oE hir h2 g;have er:rs[i]? = some rs[i]:=List.getElem?_eq_getElem hir;refine ⟨_,_,.inr st2,rfl,?_⟩;walk_at "rd";refine ite2 (fun gd=>?_) fun gd=>?_
    ·refine ⟨by decide,fun t3 ht3=>q t3 _ (s14.trans (ag ht3 _)) ?_⟩;rw [upd_same,doesV,ef,if_pos (by unfold dropB; rw [er]; exact decide_eq_true gd)];rfl
    ·obtain ⟨g4,w4,e4,_,hw4⟩:=hH.same s14;have eD:doesV ls rs hs.2 l=sentV (wayL hs.2 (partT ls (written l rs[i].2.2))).2 (written l rs[i].2.2):=by
      rw [doesV,ef,if_neg (by unfold dropB; rw [er]; intro z; exact gd (of_decide_eq_true z))];unfold sentT;rw [ef,er];rfl
     have ho:=M.over rs[i] (List.getElem_mem hir);have hwl:=cO ho.symm;have hM:=M.wide;obtain ⟨a1,b1,esp,hb1⟩:=M.to;refine ⟨_,_,.inr (SqT.of e4),rfl,?_⟩;walk_at "rd";refine ⟨_,_,.inr st2,rfl,by simp only [al]; exact hM,fun H5 s5=>?_⟩;simp only [al];walk_at "rd";refine ⟨ls,hs.2,a1,b1,hL.same (s14.trans s5),hw4.same s5,M.ways,by simp only [al]; omega,esp,by simp only [al]; omega,fun t6 H6 s6 e6=>q t6 H6 (s14.trans (s5.trans s6)) ?_⟩;rw [e6,eD]
   ·rw [List.take_add_one,List.getElem?_eq_getElem hir] at hr;rcases List.mem_append.mp hr with hr | hr
    ·exact h2 r hr
    ·have e:r=rs[i]:=by simpa using hr
     rw [e];simpa using g
  ·rintro σ H2 ⟨a,b,rfl,s2,h2⟩;walk_at "rd";refine ⟨us,.inl (SqL.of (s2 _ _ e1)),by decide,fun t3 ht3=>q t3 _ (s01.trans (s2.trans (ag ht3 _))) ?_⟩;have ef:firstR rs l=us.length:=by
    unfold firstR;rw [<- hl1];exact List.findIdx_eq_length.mpr fun r hr=>h2 r (by rw [<- hl1,List.take_length]; exact hr)
   rw [upd_same,doesV,ef,if_pos (by unfold dropB; rw [List.getElem?_eq_none (by omega)])];rfl
noncomputable def Th (H:Hp):Nat->V->D->Prop
 | 0,v,d=>d=.f v/\flatV v=true
 | n+1,v,d=>(d=.f v/\flatV v=true)\/(∃ a vs ds,v=.ref a/\d=.l ds/\H a=some (.lst vs)/\vs.length<=1000/\Paired (Th H n) vs ds)\/(∃ a vs ds,v=.ref a/\d=.t ds/\H a=some (.tup vs)/\vs.length<=1000/\Paired (Th H n) vs ds)
theorem bG {H H':Hp} (s:Same H H'):∀ (n:Nat) {v:V} {d:D},Th H n v d->Th H' n v d
 | 0,_,_,h=>h
 | n+1,_,_,.inl h=>.inl h
 | n+1,_,_,.inr (.inl ⟨a,vs,ds,e1,e2,e3,e4,p⟩)=>.inr (.inl ⟨a,vs,ds,e1,e2,s _ _ e3,e4,L2.Paired.mapP p fun _ _ z=>bG s n z⟩)
 | n+1,_,_,.inr (.inr ⟨a,vs,ds,e1,e2,e3,e4,p⟩)=>.inr (.inr ⟨a,vs,ds,e1,e2,s _ _ e3,e4,L2.Paired.mapP p fun _ _ z=>bG s n z⟩)
theorem cq {H:Hp} {v:V} (n:Nat) (f:flatV v=true):Th H n v (.f v):=by
 cases n with
 | zero=>exact ⟨rfl,f⟩
 | succ n=>exact .inl ⟨rfl,f⟩
theorem eK {α β γ:Type} {F:α -> γ -> Prop} {G:β -> γ -> Prop}:∀ {xs:List α} {ys:List β} {ds:List γ},Paired F xs ds->Paired G ys ds->∀ x ∈ xs.zip ys,∃ d,F x.1 d/\G x.2 d
 | _,_,_,.nil,.nil,x,hx=>by simp at hx
 | _,_,_,.cons r p,.cons r' p',x,hx=>by
  rw [List.zip_cons_cons] at hx;rcases List.mem_cons.mp hx with rfl | hx
  ·exact ⟨_,r,r'⟩
  ·exact eK p p' x hx
theorem mm {α:Type} {F:α -> V->Hp->Prop} {H:Hp}:∀ {xs:List α} {vs:List V},Paired (fun x v=>v=V.bl true) xs vs->vs=(xs.map fun _=>true).map V.bl
 | _,_,.nil=>rfl
 | _,_,.cons r p=>by rw [List.map_cons,List.map_cons,<- mm (F:=F) (H:=H) p,r]
theorem sE {α:Type} (xs:List α):(xs.map fun _=>true).all id=true:=by simp
theorem sF {H:Hp}:∀ {n:Nat} {v:V} {d:D},Th H n v d->flatV v=true->d=.f v
 | 0,_,_,h,_=>h.1
 | _+1,_,_,.inl h,_=>h.1
 | _+1,_,_,.inr (.inl ⟨_,_,_,e,_⟩),f=>by subst e; cases f
 | _+1,_,_,.inr (.inr ⟨_,_,_,e,_⟩),f=>by subst e; cases f
theorem fS {H:Hp}:∀ {n:Nat} {u v:V},Th H n u (.f v)->u=v
 | 0,_,_,h=>(D.f.inj h.1).symm
 | _+1,_,_,.inl h=>(D.f.inj h.1).symm
 | _+1,_,_,.inr (.inl ⟨_,_,_,_,e,_⟩)=>by cases e
 | _+1,_,_,.inr (.inr ⟨_,_,_,_,e,_⟩)=>by cases e
noncomputable def bB (K:Frag) (m:Nat):Sp:=fun vs H Q _=>match vs with
 | [v,u]=>∃ n d,n < m/\Th H n v d/\Th H n u d/\∀ H',Same H H'->Q (.bl true) H'
 | _=>False
theorem j0 (T:Top K mg):∀ m:Nat,Callee P w K mg base (m+1) "_law_same" ["_law_found", "_law_due"] (bB K m):=by
 intro m
 induction m with
 | zero=>
  refine T.fB.cal gK (by intro vs H Q E h; unfold bB at h; split at h <;> first | rfl | exact h.elim) (fun _ _ _ _ _ _ us hl=>match us,hl with | [_,_],_=>rfl) (fun f cdv A outer s H vs Q E hr h=>?_);unfold bB at h;split at h
  case h_2=>exact h.elim
  obtain ⟨_,_,hn,_⟩:=h;exact absurd hn (Nat.not_lt_zero _)
 | succ m ih=>
  refine T.fB.cal gK (by intro vs H Q E h; unfold bB at h; split at h <;> first | rfl | exact h.elim) (fun _ _ _ _ _ _ us hl=>match us,hl with | [_,_],_=>rfl) (fun f cdv A outer s H vs Q E hr h=>?_);unfold bB at h;split at h
  case h_2=>exact h.elim
  refine ⟨_,(af (aI (aC mh (qv 1) fh) (ai (ap (ge mh (qv 0) fh))) au)
   (af (aI (PW.pt (sd (br (aP .bool rfl T.aH (qv 1) rfl T.jW i7)) (ol (br (aP .bool rfl T.aH (qv 0) rfl T.jW i7))))) (ai (ap (lC (aP .bool rfl T.aH (qv 1) rfl T.jW i7) (lC (aP .bool rfl T.aH (qv 0) rfl T.jW i7) (lO (ge aN (qv 0) (qv 1))))))) au)
   (af (aI (br (aP .str rfl T.aH (qv 1) rfl T.pI om)) (ai (ap (lC (aP .str rfl T.aH (qv 0) rfl T.pI om) (lO (ge aN (qv 0) (qv 1)))))) au)
   (af (aI (br (aP .int rfl T.aH (qv 1) rfl T.pJ oa)) (ai (ap (lC (aP .int rfl T.aH (qv 0) rfl T.pJ oa) (lO (ge aN (qv 0) (qv 1)))))) au)
   (bZ (aI (br (aP .tuple rfl T.aH (qv 1) rfl T.gO gD)) (ai (aI (ic (br (aP .tuple rfl T.aH (qv 0) rfl T.gO gD))) (ai (ap dt)) au)) (ai (aI (ic (br (aP .list rfl T.aH (qv 0) rfl T.fG dB))) (ai (ap dt)) au)))
   (af (aI (aC hZ (aE (lenE K rfl) rfl T.bF be (aa (qv 0) ad)) (aE (lenE K rfl) rfl T.bF be (aa (qv 1) ad))) (ai (ap dt)) au)
   (ai (ap (aE (qM K rfl rfl) rfl T.vo vt (aa (bu (nt:=2) (fi:=[]) (N':=["_law_own", "_law_part"]) rfl (cscope rfl (by decide +kernel)) (cnames (N:=["_law_found", "_law_due"]) (sc:=defScope cN) rfl rfl (by decide +kernel)) (gr (by decide) (by decide)) (uw rfl rfl T.jX (qv 0) (qv 1)) (fun _ _ _ _ _=>(tupE K rfl rfl (n:=2) (ao (aj (i:=0) (by show (["_law_own", "_law_part"]:List Str).Nodup; decide +kernel) rfl lc) (ao (aj (i:=1) (by show (["_law_own", "_law_part"]:List Str).Nodup; decide +kernel) rfl lc) aK)))) (fun _ _ _ _ _=>bw) (fun _ _ _ _ _=>(av ih hr.m rfl (aa (qv 0) (aa (qv 1) ad))))) ad)))))))))),?_⟩
  rename_i v u;obtain ⟨n,d,hn,h1,h2,q⟩:=h;by_cases fl:flatV v=true
  ·have ed:=sF h1 fl;subst ed;have eu:=fS h2;subst eu;have q0:=q H (Same.refl _);cases u with
   | non=>walk_at "rd"; exact q0
   | bl b=>walk_at "rd"; exact q0
   | int i=>walk_at "rd"; exact q0
   | str z=>
    walk_at "rd";rw [if_neg (by intro y; cases y)];rw [sv];simpa using q0
   | _=>cases fl
  ·obtain _ | n:=n
   ·exact absurd h1.2 fl
   rcases h1 with h1 | ⟨a,vs,ds,rfl,rfl,e1,l1,p1⟩ | ⟨a,vs,ds,rfl,rfl,e1,l1,p1⟩
   ·exact absurd h1.2 fl
   ·rcases h2 with ⟨e2,_⟩ | ⟨b,us,ds2,rfl,ed,e2,l2,p2⟩ | ⟨b,us,ds2,rfl,ed,e2,l2,p2⟩
    ·cases e2
    ·cases ed;walk_at "rd";rw [if_neg (by intro y; cases y)];refine .inl ⟨⟨_,e2⟩,.inl ⟨⟨_,e1⟩,.inl ⟨⟨_,e2⟩,.inl ⟨⟨_,e2⟩,fun σ' H'=>σ'=[some (.ref a),some (.ref b)]/\H'=H,.inl ⟨⟨_,e2⟩,.inl ⟨⟨_,e1⟩,rfl,rfl⟩⟩,?_⟩⟩⟩⟩;rintro σ' H' ⟨rfl,rfl⟩;walk_at "rd";have l3:=p1.length;have l4:=p2.length;have lz:(vs.zip us).length=vs.length:=by rw [List.length_zip]; omega
     refine ⟨vs,.inl (SqL.of e1),us,.inl (SqL.of e2),?_⟩;rw [if_pos (by omega)];refine .inl ⟨⟨_,SqL.of e1⟩,⟨_,SqL.of e2⟩,fun D hD=>?_⟩;refine mT (vs.zip us) (fun _=>true) (fun _ v _=>v=.bl true) hD (by omega) (fun i H1 hi s1=>⟨⟨vs,vs[i],SqL.of (s1 _ _ e1),List.getElem?_eq_getElem (by omega)⟩,⟨us,us[i],SqL.of (s1 _ _ e2),List.getElem?_eq_getElem (by omega)⟩⟩) (fun H1 s1=>.inl ⟨vs,SqL.of (s1 _ _ e1),by omega⟩) ?_ (fun _ _ _ _ _ _ _ r=>r) ?_ ?_
     ·rintro i H1 v H2 _ ⟨S,x,y,rfl,hS,rfl,_,_⟩;exact ag hS _
     ·rintro i x v H1 H2 out non hx s1 ⟨S,x1,x2,rfl,hS,rfl,a1,a2⟩ ho _;obtain ⟨z1,z2⟩:=List.getElem?_zip_eq_some.mp hx;have y1:=(a1 vs (SqL.of (s1 _ _ e1)));have y2:=(a2 us (SqL.of (s1 _ _ e2)));rw [z1] at y1;rw [z2] at y2;cases y1;cases y2;obtain ⟨d,t1,t2⟩:=eK p1 p2 x (List.mem_of_getElem? hx);have s2:=s1.trans (ag hS (.tup [x.1,x.2]));refine ⟨S,[_,_],rfl,SqT.of upd_same,rfl,_,[_],rfl,_,[],rfl,rfl,?_⟩;walk_at "rd";exact ⟨n,d,by omega,bG s2 n t1,bG s2 n t2,fun H3 s3=>ho _ H3 rfl s3 rfl⟩
     ·intro H1 ws s1 e3 p3;rw [mm (F:=fun _ _ _=>True) (H:=H') p3] at e3;walk_at "rd";refine ⟨_,SqL.of e3,?_⟩;rw [sE];exact q H1 s1
    ·cases ed
   ·rcases h2 with ⟨e2,_⟩ | ⟨b,us,ds2,rfl,ed,e2,l2,p2⟩ | ⟨b,us,ds2,rfl,ed,e2,l2,p2⟩
    ·cases e2
    ·cases ed
    ·cases ed;walk_at "rd";rw [if_neg (by intro y; cases y)];refine .inr ⟨⟨_,e2⟩,.inr ⟨⟨_,e1⟩,.inr ⟨⟨_,e2⟩,.inr ⟨⟨_,e2⟩,fun σ' H'=>σ'=[some (.ref a),some (.ref b)]/\H'=H,.inr ⟨⟨_,e2⟩,.inr ⟨⟨_,e1⟩,rfl,rfl⟩⟩,?_⟩⟩⟩⟩;rintro σ' H' ⟨rfl,rfl⟩;walk_at "rd";have l3:=p1.length;have l4:=p2.length;have lz:(vs.zip us).length=vs.length:=by rw [List.length_zip]; omega
     refine ⟨vs,.inr (SqT.of e1),us,.inr (SqT.of e2),?_⟩;rw [if_pos (by omega)];refine .inr ⟨a,b,rfl,rfl,⟨_,e1⟩,⟨_,e2⟩,fun D hD=>?_⟩;refine mT (vs.zip us) (fun _=>true) (fun _ v _=>v=.bl true) hD (by omega) (fun i H1 hi s1=>⟨⟨vs,vs[i],s1 _ _ e1,List.getElem?_eq_getElem (by omega)⟩,⟨us,us[i],s1 _ _ e2,List.getElem?_eq_getElem (by omega)⟩⟩) (fun H1 s1=>.inl ⟨vs,s1 _ _ e1,by omega⟩) ?_ (fun _ _ _ _ _ _ _ r=>r) ?_ ?_
     ·rintro i H1 v H2 _ ⟨S,x,y,rfl,hS,rfl,_,_⟩;exact ag hS _
     ·rintro i x v H1 H2 out non hx s1 ⟨S,x1,x2,rfl,hS,rfl,a1,a2⟩ ho _;obtain ⟨z1,z2⟩:=List.getElem?_zip_eq_some.mp hx;have y1:=(a1 vs (s1 _ _ e1));have y2:=(a2 us (s1 _ _ e2));rw [z1] at y1;rw [z2] at y2;cases y1;cases y2;obtain ⟨d,t1,t2⟩:=eK p1 p2 x (List.mem_of_getElem? hx);have s2:=s1.trans (ag hS (.tup [x.1,x.2]));refine ⟨S,[_,_],rfl,SqT.of upd_same,rfl,_,[_],rfl,_,[],rfl,rfl,?_⟩;walk_at "rd";exact ⟨n,d,by omega,bG s2 n t1,bG s2 n t2,fun H3 s3=>ho _ H3 rfl s3 rfl⟩
     ·intro H1 ws s1 e3 p3;rw [mm (F:=fun _ _ _=>True) (H:=H') p3] at e3;walk_at "rd";refine ⟨_,SqL.of e3,?_⟩;rw [sE];exact q H1 s1
theorem dC (T:Top K mg):Callee P w K mg base 11 "_law_same" ["_law_found", "_law_due"] (bB K 10):=j0 T 10
noncomputable def ThN (N:Addr->Prop) (H:Hp):Nat->V->D->Prop
 | 0,v,d=>d=.f v/\flatV v=true
 | n+1,v,d=>(d=.f v/\flatV v=true)\/(∃ a vs ds,v=.ref a/\d=.l ds/\N a/\H a=some (.lst vs)/\vs.length<=1000/\Paired (ThN N H n) vs ds)\/(∃ a vs ds,v=.ref a/\d=.t ds/\N a/\H a=some (.tup vs)/\vs.length<=1000/\Paired (ThN N H n) vs ds)
theorem cM {N N':Addr->Prop} {H H':Hp} (s:∀ a o,N a->H a=some o->H' a=some o) (f:∀ a,N a->N' a):∀ (n:Nat) {v:V} {d:D},ThN N H n v d->ThN N' H' n v d
 | 0,_,_,h=>h
 | n+1,_,_,.inl h=>.inl h
 | n+1,_,_,.inr (.inl ⟨a,vs,ds,e1,e2,k,e3,e4,p⟩)=>.inr (.inl ⟨a,vs,ds,e1,e2,f _ k,s _ _ k e3,e4,L2.Paired.mapP p fun _ _ z=>cM s f n z⟩)
 | n+1,_,_,.inr (.inr ⟨a,vs,ds,e1,e2,k,e3,e4,p⟩)=>.inr (.inr ⟨a,vs,ds,e1,e2,f _ k,s _ _ k e3,e4,L2.Paired.mapP p fun _ _ z=>cM s f n z⟩)
theorem oM {N:Addr->Prop} {H:Hp}:∀ (n:Nat) {v:V} {d:D},ThN N H n v d->Th H n v d
 | 0,_,_,h=>h
 | n+1,_,_,.inl h=>.inl h
 | n+1,_,_,.inr (.inl ⟨a,vs,ds,e1,e2,k,e3,e4,p⟩)=>.inr (.inl ⟨a,vs,ds,e1,e2,e3,e4,L2.Paired.mapP p fun _ _ z=>oM n z⟩)
 | n+1,_,_,.inr (.inr ⟨a,vs,ds,e1,e2,k,e3,e4,p⟩)=>.inr (.inr ⟨a,vs,ds,e1,e2,e3,e4,L2.Paired.mapP p fun _ _ z=>oM n z⟩)
theorem gn {α β:Type} {F:α -> β -> Prop}:∀ {xs:List α} {ds:List β},Paired F xs ds->∀ {i:Nat} {x:α},xs[i]? = some x->∃ d,ds[i]? = some d/\F x d
 | _,_,.nil,i,x,h=>by simp at h
 | _,_,.cons r p,0,x,h=>by simp at h; subst h; exact ⟨_,rfl,r⟩
 | _,_,.cons r p,i+1,x,h=>by simpa using gn p (by simpa using h)
theorem fm {α β γ:Type} {F:β -> γ -> Prop}:∀ {xs:List (α × γ)} {vs:List β},Paired (fun x v=>F v x.2) xs vs->Paired F vs (xs.map (·.2))
 | _,_,.nil=>.nil
 | _,_,.cons r p=>.cons r (fm p)
noncomputable def bA (K:Frag) (m:Nat):Sp:=fun vs H Q _=>match vs with
 | [v]=>∃ n d,n < m/\Th H n v d/\∀ v' H',Same H H'->ThN (fun a=>H a=none) H' n v' d->Q v' H'
 | _=>False
theorem kx (T:Top K mg):∀ m:Nat,Callee P w K mg base (m+1) "_law_copy" ["_law_thing"] (bA K m):=by
 intro m
 induction m with
 | zero=>
  refine T.fJ.cal gx (by intro vs H Q E h; unfold bA at h; split at h <;> first | rfl | exact h.elim) (fun _ _ _ _ _ _ us hl=>match us,hl with | [_],_=>rfl) (fun f cdv A outer s H vs Q E hr h=>?_);unfold bA at h;split at h
  case h_2=>exact h.elim
  obtain ⟨_,_,hn,_⟩:=h;exact absurd hn (Nat.not_lt_zero _)
 | succ m ih=>
  refine T.fJ.cal gx (by intro vs H Q E h; unfold bA at h; split at h <;> first | rfl | exact h.elim) (fun _ _ _ _ _ _ us hl=>match us,hl with | [_],_=>rfl) (fun f cdv A outer s H vs Q E hr h=>?_);unfold bA at h;split at h
  case h_2=>exact h.elim
  refine ⟨_,(af (aI (br (aP .list rfl T.aH (qv 0) rfl T.fG dB)) (ai (ap (bu (nt:=1) (fi:=[]) (N':=["_law_part"]) rfl (cscope rfl (by decide +kernel)) (cnames (N:=["_law_thing"]) (sc:=defScope cw) rfl rfl (by decide +kernel)) (ck (by decide)) (iterE K rfl (qv 0)) (fun _ _ _ _ _=>(aj (i:=0) (by show (["_law_part"]:List Str).Nodup; decide +kernel) rfl lc)) (fun _ _ _ _ _=>bw) (fun _ _ _ _ _=>(av ih hr.m rfl (aa (qv 0) ad)))))) au)
   (af (aI (br (aP .tuple rfl T.aH (qv 0) rfl T.gO gD)) (ai (ap (bO (qF K rfl) rfl T.gO gD (aa (bu (nt:=1) (fi:=[]) (N':=["_law_part"]) rfl (cscope rfl (by decide +kernel)) (cnames (N:=["_law_thing"]) (sc:=defScope cw) rfl rfl (by decide +kernel)) (ck (by decide)) (iterE K rfl (qv 0)) (fun _ _ _ _ _=>(aj (i:=0) (by show (["_law_part"]:List Str).Nodup; decide +kernel) rfl lc)) (fun _ _ _ _ _=>bw) (fun _ _ _ _ _=>(av ih hr.m rfl (aa (qv 0) ad)))) ad)))) au)
   (ai (ap (qv 0))))),?_⟩
  rename_i v;obtain ⟨n,d,hn,h1,q⟩:=h;by_cases fl:flatV v=true
  ·have ed:=sF h1 fl;subst ed;have q0:=q v H (Same.refl _) (by cases n with | zero=>exact ⟨rfl,fl⟩ | succ n=>exact .inl ⟨rfl,fl⟩);cases v with
   | non=>walk_at "rd"; exact q0
   | bl b=>walk_at "rd"; exact q0
   | int i=>walk_at "rd"; exact q0
   | str z=>walk_at "rd"; exact q0
   | _=>cases fl
  ·obtain _ | n:=n
   ·exact absurd h1.2 fl
   rcases h1 with h1 | ⟨a,vs,ds,rfl,rfl,e1,l1,p1⟩ | ⟨a,vs,ds,rfl,rfl,e1,l1,p1⟩
   ·exact absurd h1.2 fl
   ·have l3:=p1.length;have lz:(vs.zip ds).length=vs.length:=by rw [List.length_zip]; omega
    walk_at "rd";refine .inl ⟨⟨_,e1⟩,.inl ⟨⟨_,SqL.of e1⟩,fun D hD=>?_⟩⟩;refine lj (vs.zip ds) (fun x v H1=>ThN (fun b=>b≠D/\H b=none) H1 n v x.2) hD (by omega) (fun i H1 hi s1=>⟨vs,vs[i],SqL.of (s1 _ _ e1),List.getElem?_eq_getElem (by omega)⟩) (fun H1 s1=>⟨vs,SqL.of (s1 _ _ e1),by omega⟩) ?_ (fun x v H1 H2 acc _ k r=>cM (fun b o nb e=>k b o nb.1 e) (fun _ z=>z) n r) ?_ ?_
    ·rintro i H1 v H2 _ ⟨rfl,_⟩;exact Same.refl _
    ·rintro i x v H1 H2 out non hx s1 nD ⟨rfl,a1⟩ ho;obtain ⟨z1,z2⟩:=List.getElem?_zip_eq_some.mp hx;have y1:=a1 vs (SqL.of (s1 _ _ e1));rw [z1] at y1;cases y1;obtain ⟨d,z3,t1⟩:=gn p1 z1;rw [z2] at z3;cases z3;walk_at "rd";exact ⟨n,x.2,by omega,bG s1 n t1,fun v' H6 s6 t6=>ho v' H6 s6 (cM (fun _ _ _ e=>e) (fun b hb=>⟨nD b hb,s1.free hb⟩) n t6)⟩
    ·intro H1 ws s1 e3 p3;have l4:=p3.length;have pe:=fm p3;rw [List.map_snd_zip (by omega)] at pe;refine q (.ref D) H1 s1 (.inr (.inl ⟨D,ws,ds,rfl,rfl,hD,e3,by omega,?_⟩));exact L2.Paired.mapP pe fun _ _ z=>cM (fun _ _ _ e=>e) (fun b hb=>hb.2) n z
   ·have l3:=p1.length;have lz:(vs.zip ds).length=vs.length:=by rw [List.length_zip]; omega
    walk_at "rd";refine .inr ⟨⟨_,e1⟩,.inr ⟨⟨_,e1⟩,.inr ⟨⟨_,SqT.of e1⟩,fun D hD=>?_⟩⟩⟩;refine lj (vs.zip ds) (fun x v H1=>ThN (fun b=>b≠D/\H b=none) H1 n v x.2) hD (by omega) (fun i H1 hi s1=>⟨vs,vs[i],SqT.of (s1 _ _ e1),List.getElem?_eq_getElem (by omega)⟩) (fun H1 s1=>⟨vs,SqT.of (s1 _ _ e1),by omega⟩) ?_ (fun x v H1 H2 acc _ k r=>cM (fun b o nb e=>k b o nb.1 e) (fun _ z=>z) n r) ?_ ?_
    ·rintro i H1 v H2 _ ⟨rfl,_⟩;exact Same.refl _
    ·rintro i x v H1 H2 out non hx s1 nD ⟨rfl,a1⟩ ho;obtain ⟨z1,z2⟩:=List.getElem?_zip_eq_some.mp hx;have y1:=a1 vs (SqT.of (s1 _ _ e1));rw [z1] at y1;cases y1;obtain ⟨d,z3,t1⟩:=gn p1 z1;rw [z2] at z3;cases z3;walk_at "rd";exact ⟨n,x.2,by omega,bG s1 n t1,fun v' H6 s6 t6=>ho v' H6 s6 (cM (fun _ _ _ e=>e) (fun b hb=>⟨nD b hb,s1.free hb⟩) n t6)⟩
    ·intro H1 ws s1 e3 p3;have l4:=p3.length;have pe:=fm p3;rw [List.map_snd_zip (by omega)] at pe;walk_at "rd";refine ⟨ws,SqL.of e3,fun l hl=>q (.ref l) _ (s1.trans (ag hl _)) (.inr (.inr ⟨l,ws,ds,rfl,rfl,s1.free hl,upd_same,by omega,?_⟩))⟩;exact L2.Paired.mapP pe fun _ _ z=>cM (fun b o _ e=>ag hl _ _ _ e) (fun b hb=>hb.2) n z
theorem ml (T:Top K mg):Callee P w K mg base 11 "_law_copy" ["_law_thing"] (bA K 10):=kx T 10
noncomputable def cellN (ns:List Int) (k:Nat):Int:=if 0 < ns.length then (ns.getD (k % ns.length) 0) % 2147483647 else 0
noncomputable def drawN (ns:List Int) (k m:Nat):Nat:=((cellN ns k*(742938285+9973*(k:Int)*(k:Int))+(k:Int)*630360016) % 2147483647 / 97 % (m:Int)).toNat
theorem qZ (ns:List Int) (k:Nat):0<=cellN ns k/\cellN ns k < 2147483647:=by
 unfold cellN;split
 ·exact ⟨Int.emod_nonneg _ (by decide),Int.emod_lt_of_pos _ (by decide)⟩
 ·decide
theorem fj (ns:List Int) (k:Nat) {m:Nat} (h:1<=m):drawN ns k m < m:=by
 unfold drawN;generalize (cellN ns k*(742938285+9973*(k:Int)*(k:Int))+(k:Int)*630360016) % 2147483647 / 97=z;have z0:0<=z % (m:Int):=Int.emod_nonneg _ (by omega);have z1:z % (m:Int) < m:=Int.emod_lt_of_pos _ (by omega);omega
noncomputable def b6 (K:Frag):Sp:=fun vs H Q _=>match vs with
 | [.ref a,.int k,.int m]=>∃ (ns:List Int) (k0 m0:Nat),SqL K H a (ns.map V.int)/\k=(k0:Int)/\k0<=100000/\m=(m0:Int)/\1<=m0/\m0<=100000/\Q (.int (drawN ns k0 m0:Nat)) H
 | _=>False
theorem ar (T:Top K mg):Callee P w K mg base 1 "_law_draw" ["_law_script", "_law_k", "_law_many"] (b6 K):=by
 refine T.iO.cal cD (by intro vs H Q E h; unfold b6 at h; split at h <;> first | rfl | exact h.elim) (fun _ _ _ _ _ _ us hl=>match us,hl with | [_,_,_],_=>rfl) (fun f cdv A outer s H vs Q E hr h=>?_);unfold b6 at h;split at h
 case h_2=>exact h.elim
 refine ⟨_,(af (am (i:=3) cD.nd rfl lc ae)
   (bZ (aI (aC mw (aE (lenE K rfl) rfl T.bF be (aa (qv 0) ad)) ae) (ai (am (i:=3) cD.nd rfl lc (aw dX (ak (ixE K rfl) (qv 0) (aw dX (qv 1) (aE (lenE K rfl) rfl T.bF be (aa (qv 0) ad))) (fun _ _=>rfl)) ae))) au)
   (af (am (i:=4) cD.nd rfl lc (aw aB (aw bj (qv 3) (aw aB ae (aw bj (aw bj ae (qv 1)) (qv 1)))) (aw bj (qv 1) ae)))
   (ai (ap (aw dX (aw sJ (aw dX (qv 4) ae) ae) (qv 2))))))),?_⟩
 rename_i a k m;obtain ⟨ns,k0,m0,hS,rfl,hk1,rfl,hm0,hm1,q⟩:=h;walk_at "rd";refine ⟨fun σ' H'=>σ'=[some (.ref a),some (.int (k0:Nat)),some (.int (m0:Nat)),some (.int (cellN ns k0)),none]/\H'=H,⟨_,.inl hS,ite2 (fun g=>⟨_,.inl hS,by simpa using g,?_⟩) fun g=>?_⟩,?_⟩
 ·rw [List.length_map] at g ⊢;have hl:0 < ns.length:=by omega
  have hj:k0 % ns.length < ns.length:=Nat.mod_lt _ hl;refine ⟨_,V.int ns[k0 % ns.length],.inl hS,?_,?_⟩
  ·rw [show (k0:Int) % (ns.length:Int)=((k0 % ns.length:Nat):Int) by omega];exact bo (by rw [List.getElem?_map,List.getElem?_eq_getElem hj]; rfl)
  walk_at "rd";have e:cellN ns k0=ns[k0 % ns.length] % 2147483647:=by
   unfold cellN;rw [if_pos hl,List.getD_eq_getElem?_getD,List.getElem?_eq_getElem hj];rfl
  rw [e]
 ·rw [List.length_map] at g;have e:cellN ns k0=0:=by
   unfold cellN;rw [if_neg (by omega)]
  rw [e];exact ⟨rfl,rfl⟩
 ·rintro σ' H' ⟨rfl,rfl⟩;walk_at "rd";obtain ⟨c0,c1⟩:=qZ ns k0;have hc (x:Int) (h0:0<=x) (h1:x<=2147483647):-(2 ^ 64) < x/\x < 2 ^ 64:=⟨Int.lt_of_lt_of_le (by decide) h0,Int.lt_of_le_of_lt h1 (by decide)⟩;refine ⟨.inr (hc k0 (by omega) (by omega)),.inr (hc k0 (by omega) (by omega)),.inl (hc _ c0 (by omega)),.inl (hc k0 (by omega) (by omega)),by omega,?_⟩;unfold drawN at q;rw [Int.toNat_of_nonneg (Int.emod_nonneg _ (by omega))] at q;exact q
theorem aO {H:Hp} {a:Addr} {k m:Int} {ns:List Int} {Q:VK} {E:XK} (hS:SqL K H a (ns.map V.int)) (hk0:0<=k) (hk1:k<=100000) (hm0:1<=m) (hm1:m<=100000) (q:∀ r:Nat,(r:Int) < m->Q (.int (r:Nat)) H):b6 K [.ref a,.int k,.int m] H Q E:=
 ⟨ns,k.toNat,m.toNat,hS,by omega,by omega,by omega,by omega,by omega,q _ (by have:=fj ns k.toNat (m:=m.toNat) (by omega); omega)⟩
theorem oU {H:Hp} {a:Addr} {k m:Nat} {ns:List Int} {Q:VK} {E:XK} (hS:SqL K H a (ns.map V.int)) (hk1:k<=100000) (hm0:1<=m) (hm1:m<=100000) (q:Q (.int (drawN ns k m:Nat)) H):b6 K [.ref a,.int (k:Int),.int (m:Int)] H Q E:=
 ⟨ns,k,m,hS,rfl,hk1,rfl,hm0,hm1,q⟩
noncomputable abbrev sgn (c:Nat):V:=V.str (st [c])
noncomputable abbrev nV (n:Nat):V:=V.int (n:Int)
theorem tp {n x:Nat} (h:x < n):ixN n (x:Int)=some x:=by
 unfold ixN;simp;omega
def OverL (ps r:List Nat):Prop:=∀ (i c:Nat),r[i]? = some c->c≠45->i ∈ ps
theorem vK {α:Type} {l:List α} {i:Nat} (h:i < l.length):∃ c,c ∈ l/\atI l (i:Int)=some c:=⟨l[i],List.getElem_mem h,bo (List.getElem?_eq_getElem h)⟩
structure RuleOk (W:Nat) (r:Rule):Prop where
 row:RowL r.1
 rowN:r.1.length=W
 word:r.2.1=passT\/r.2.1=dropT
 over:RowL r.2.2
 overN:r.2.2.length=W
noncomputable def abc:List Nat:=(List.range 26).map (97+·)
theorem lS {i:Nat} (h:i < 26):abc[i]? = some (97+i):=by
 unfold abc;rw [List.getElem?_map,List.getElem?_range h];rfl
def Low (l:List Nat):Prop:=∀ c ∈ l,97<=c/\c<=122
structure Names (n:Nat) (ls:List (List Nat)):Prop where
 len:ls.length=n
 nd:ls.Nodup
 low:∀ l ∈ ls,Low l
 short:∀ l ∈ ls,1<=l.length/\l.length<=8
 kind:(∃ c,∀ l ∈ ls,∃ k,l=List.replicate k c)\/∃ u v,∀ l ∈ ls,∃ c,l=u++[c]++v
theorem ix {n:Nat} (f:Nat->List Nat) (h:∀ i j,i < n->j < n->f i=f j->i=j):((List.range n).map f).Nodup:=by
 refine List.pairwise_map.mpr (List.Pairwise.imp_of_mem ?_ List.nodup_range);intro a b ha hb hab e;exact hab (h a b (List.mem_range.mp ha) (List.mem_range.mp hb) e)
theorem oB {n c:Nat} (hn:n<=8) (hc:97<=c/\c<=122):Names n ((List.range n).map fun j=>List.replicate (1+j) c) where
 len:=by simp
 nd:=ix _ fun i j _ _ e=>by
  have:=congrArg List.length e;simp at this;exact this
 low:=fun l hl=>by
  obtain ⟨j,_,rfl⟩:=List.mem_map.mp hl;exact fun d hd=>by rw [List.eq_of_mem_replicate hd]; exact hc
 short:=fun l hl=>by
  obtain ⟨j,hj,rfl⟩:=List.mem_map.mp hl;have:=List.mem_range.mp hj;simp;omega
 kind:=.inl ⟨c,fun l hl=>by
  obtain ⟨j,hj,rfl⟩:=List.mem_map.mp hl;exact ⟨_,rfl⟩⟩
theorem rC {n m s p:Nat} {b:List Nat} (hn:n<=8) (hb:Low b) (hl:b.length<=7) (hs:s=1\/s=7\/s=25\/s=11):Names n ((List.range n).map fun j=>b.take p++[97+(m+s*j) % 26]++b.drop p) where
 len:=by simp
 nd:=ix _ fun i j hi hj e=>by
  have e1:=List.append_cancel_right e;have e2:=List.append_cancel_left e1;have e3:97+(m+s*i) % 26=97+(m+s*j) % 26:=by simpa using e2
  rcases hs with rfl | rfl | rfl | rfl <;> omega
 low:=fun l hl=>by
  obtain ⟨j,_,rfl⟩:=List.mem_map.mp hl;intro d hd;rcases List.mem_append.mp hd with hd | hd
  ·rcases List.mem_append.mp hd with hd | hd
   ·exact hb d (List.mem_of_mem_take hd)
   ·rw [List.mem_singleton.mp hd];have:=Nat.mod_lt (m+s*j) (show 26 > 0 by decide);exact ⟨by omega,by omega⟩
  ·exact hb d (List.mem_of_mem_drop hd)
 short:=fun l hl=>by
  obtain ⟨j,_,rfl⟩:=List.mem_map.mp hl;simp;omega
 kind:=.inr ⟨b.take p,b.drop p,fun l hl=>by
  obtain ⟨j,hj,rfl⟩:=List.mem_map.mp hl;exact ⟨_,rfl⟩⟩
theorem ci {α β:Type} (f:α -> β) (l:List α):(l.flatMap fun x=>[f x])=l.map f:=by
 induction l with
 | nil=>rfl
 | cons x l ih=>rw [List.flatMap_cons,ih]; rfl
noncomputable def db (K:Frag):Sp:=fun vs H Q _=>match vs with
 | [.ref a,.int k,.int m]=>∃ (ns:List Int) (k0 n:Nat),SqL K H a (ns.map V.int)/\k=(k0:Int)/\k0<=50000/\m=(n:Int)/\n<=8/\∀ p H' ls,H p=none->Same H H'->H' p=some (.lst (ls.map tx))->Names n ls->Q (.ref p) H'
 | _=>False
theorem km (T:Top K mg):Callee P w K mg base 2 "_law_names" ["_law_script", "_law_k", "_law_many"] (db K):=by
 refine T.gY.cal aT (by intro vs H Q E h; unfold db at h; split at h <;> first | rfl | exact h.elim) (fun _ _ _ _ _ _ us hl=>match us,hl with | [_,_,_],_=>rfl) (fun f cdv A outer s H vs Q E hr h=>?_);unfold db at h;split at h
 case h_2=>exact h.elim
 refine ⟨_,(af (am (i:=3) aT.nd rfl lc (qs [97,98,99,100,101,102,103,104,105,106,107,108,109,110,111,112,113,114,115,116,117,118,119,120,121,122]))
   (af (am (i:=4) aT.nd rfl lc (av (ar T) hr.m rfl (aa (qv 0) (aa (qv 1) (aa ae ad)))))
   (af (aI (aC aN (av (ar T) hr.m rfl (aa (qv 0) (aa (aw aB (qv 1) ae) (aa ae ad)))) ae) (ai (ap (bu (nt:=1) (fi:=[3,4]) (N':=["_law_j", "_law_letters", "_law_start"]) rfl (cscope rfl (by decide +kernel)) (cnames (N:=["_law_script", "_law_k", "_law_many", "_law_letters", "_law_start", "_law_body", "_law_j", "_law_at", "_law_step"]) (sc:=defScope bX) rfl rfl (by decide +kernel)) (ck (by decide)) (bC rfl T.b7 (qv 2)) (fun _ _ _ _ _=>(aj (i:=0) (by show (["_law_j", "_law_letters", "_law_start"]:List Str).Nodup; decide +kernel) rfl lc)) (fun _ _ _ _ _=>bw) (fun _ _ _ _ _=>(aw bj (ak (ixE K rfl) (qv 1) (qv 2) (fun _ _=>rfl)) (aw aB ae (qv 0))))))) au)
   (af (am (i:=5) aT.nd rfl lc (qs []))
   (af (bd PassesOwn.never rfl (bC rfl T.b7 (av (ar T) hr.m rfl (aa (qv 0) (aa (aw aB (qv 1) ae) (aa ae ad))))) (aj (i:=6) aT.nd rfl lc) (ai (am (i:=5) aT.nd rfl lc (aw aB (qv 5) (ak (ixE K rfl) (qv 3) (av (ar T) hr.m rfl (aa (qv 0) (aa (aw aB (aw aB (qv 1) ae) (qv 6)) (aa ae ad)))) (fun _ _=>rfl))))))
   (af (am (i:=7) aT.nd rfl lc (av (ar T) hr.m rfl (aa (qv 0) (aa (aw aB (qv 1) ae) (aa (aw aB (aE (lenE K rfl) rfl T.bF be (aa (qv 5) ad)) ae) ad)))))
   (af (am (i:=8) aT.nd rfl lc (ak (ixE K rfl) (aZ (aa ae (aa ae (aa ae (aa ae ad))))) (av (ar T) hr.m rfl (aa (qv 0) (aa (aw aB (qv 1) ae) (aa ae ad)))) (fun _ _=>rfl)))
   (ai (ap (bu (nt:=1) (fi:=[5,3,7,4,8]) (N':=["_law_j", "_law_body", "_law_letters", "_law_at", "_law_start", "_law_step"]) rfl (cscope rfl (by decide +kernel)) (cnames (N:=["_law_script", "_law_k", "_law_many", "_law_letters", "_law_start", "_law_body", "_law_j", "_law_at", "_law_step"]) (sc:=defScope bX) rfl rfl (by decide +kernel)) (ck (by decide)) (bC rfl T.b7 (qv 2)) (fun _ _ _ _ _=>(aj (i:=0) (by show (["_law_j", "_law_body", "_law_letters", "_law_at", "_law_start", "_law_step"]:List Str).Nodup; decide +kernel) rfl lc)) (fun _ _ _ _ _=>bw) (fun _ _ _ _ _=>(aw aB (aw aB (bp (slE K rfl) (qv 1) cp (bx (qv 3))) (ak (ixE K rfl) (qv 2) (aw dX (aw aB (qv 4) (aw bj (qv 5) (qv 0))) ae) (fun _ _=>rfl))) (bp (slE K rfl) (qv 1) (bx (qv 3)) cp))))))))))))),?_⟩
 rename_i a k m;obtain ⟨ns,k0,n,hS,rfl,hk,rfl,hn,q⟩:=h;walk_at "rd";refine aO hS (by omega) (by omega) (by decide) (by decide) fun r1 hr1=>?_
 walk_at "rd";refine aO hS (by omega) (by omega) (by decide) (by decide) fun r2 hr2=>?_
 walk_at "rd";rw [show ([97,98,99,100,101,102,103,104,105,106,107,108,109,110,111,112,113,114,115,116,117,118,119,120,121,122]:List Nat)=abc from rfl];have a26:abc.length=26:=rfl;have ar1:atI abc (r1:Int)=some (97+r1):=bo (lS (by omega));refine ite2 (fun g=>⟨by omega,by omega,fun D hD=>?_⟩) fun g=>?_
 ·rw [Int.toNat_natCast];refine cj (lo:=0) (n:=n) (h:=fun j=>[tx (List.replicate (1+j) (97+r1))]) hD (by omega) (fun _=>by simp) ?_ ?_
  ·intro i H1 out non hi s1 ho _;walk_at "rd";refine ⟨by omega,_,ar1,by omega,by omega,?_⟩;rw [show (1+(i:Int)).toNat=1+i by omega];exact ho _ _ rfl (Same.refl _)
  ·intro H1 s1 e1;have ef:(List.range n).flatMap (fun j=>[tx (List.replicate (1+j) (97+r1))])=((List.range n).map fun j=>List.replicate (1+j) (97+r1)).map tx:=by
    rw [List.map_map];exact ci _ _
   rw [ef] at e1;exact q D H1 _ hD s1 e1 (oB hn ⟨by omega,by omega⟩)
 refine aO hS (by omega) (by omega) (by decide) (by decide) fun r3 hr3=>?_
 walk_at "rd";refine ⟨by omega,by omega,?_⟩;rw [Int.toNat_natCast];refine dE (lo:=0) (n:=r3) (fun i σ H'=>∃ (b:List Nat) (u:Option V),σ = [some (.ref a),some (nV k0),some (nV n),some (.str (st abc)),some (nV r1),some (tx b),u,none,none]/\H'=H/\Low b/\b.length=i) ⟨[],none,rfl,rfl,fun c hc=>by simp at hc,rfl⟩ ?_ ?_
 ·rintro i σ H1 hi ⟨b,u,rfl,rfl,hb,hbl⟩;walk_at "rd";refine aO hS (by omega) (by omega) (by decide) (by decide) fun r4 hr4=>?_
  walk_at "rd";refine ⟨by omega,97+r4,bo (lS (by omega)),?_⟩;walk_at "rd";refine ⟨by omega,b++[97+r4],_,rfl,fun c hc=>?_,by rw [List.length_append,hbl]; rfl⟩;rcases List.mem_append.mp hc with z | z
  ·exact hb c z
  ·rw [List.mem_singleton.mp z];exact ⟨by omega,by omega⟩
 ·rintro σ H1 ⟨b,u,rfl,rfl,hb,hbl⟩;walk_at "rd";refine ⟨by omega,aO hS (by omega) (by omega) (by omega) (by omega) fun r5 hr5=>⟨by decide,fun t1 ht1=>?_⟩⟩;have s1:=ag ht1 (.lst [V.int 1,V.int 7,V.int 25,V.int 11]);refine aO (s1.seq hS) (by omega) (by omega) (by decide) (by decide) fun r6 hr6=>?_
  obtain ⟨v,hv,ev⟩:=vK (l:=[V.int 1,V.int 7,V.int 25,V.int 11]) (i:=r6) (by show r6 < 4; omega);obtain ⟨st',rfl,hst⟩:∃ s:Nat,v=nV s/\(s=1\/s=7\/s=25\/s=11):=by
   simp only [List.mem_cons,List.not_mem_nil,or_false] at hv;rcases hv with rfl | rfl | rfl | rfl
   ·exact ⟨1,rfl,by simp⟩
   ·exact ⟨7,rfl,by simp⟩
   ·exact ⟨25,rfl,by simp⟩
   ·exact ⟨11,rfl,by simp⟩
  walk_at "rd";refine ⟨_,_,.inl (SqL.of upd_same),ev,by omega,by omega,fun D hD=>?_⟩;rw [Int.toNat_natCast];refine cj (lo:=0) (n:=n) (h:=fun j=>[tx (b.take r5++[97+(r1+st'*j) % 26]++b.drop r5)]) hD (by omega) (fun _=>by simp) ?_ ?_
  ·intro i H2 out non hi s2 ho _;walk_at "rd";have hm:=Nat.mod_lt (r1+st'*i) (show 26 > 0 by decide);have hl1:=List.length_take_le r5 b;have hl2:(b.drop r5).length<=b.length:=by rw [List.length_drop]; omega
   have e26:((r1:Int)+(st':Int)*(i:Int)) % 26=(((r1+st'*i) % 26:Nat):Int):=by
    rw [Int.natCast_emod,Int.natCast_add,Int.natCast_mul];rfl
   rw [Int.toNat_natCast,e26];refine ⟨by omega,by omega,by omega,.inr ⟨Int.lt_of_lt_of_le (by decide) (Int.natCast_nonneg i),Int.lt_of_lt_of_le (Int.ofNat_lt.mpr hi) (Int.le_trans (Int.ofNat_le.mpr hn) (by decide))⟩,by omega,_,bo (lS hm),by omega,by omega,by omega,by omega,?_,ho _ _ rfl (Same.refl _)⟩;rw [List.length_append,List.length_singleton];omega
  ·intro H2 s2 e2;have ef:(List.range n).flatMap (fun j=>[tx (b.take r5++[97+(r1+st'*j) % 26]++b.drop r5)])=((List.range n).map fun j=>b.take r5++[97+(r1+st'*j) % 26]++b.drop r5).map tx:=by
    rw [List.map_map];exact ci _ _
   rw [ef] at e2;exact q D H2 _ (s1.free hD) (s1.trans s2) e2 (rC hn hb (by omega) hst)
structure LayOk (ls:List Fld):Prop where
 to:∃ a b,spanF ls toT 0=some (a,b)/\a < b/\b<=widthL ls
 w1:1<=widthL ls
 w2:widthL ls<=48
 len:ls.length<=3
 pos:∀ x ∈ ls,1<=x.2
 nd:(ls.map (·.1)).Nodup
 low:∀ x ∈ ls,Low x.1/\1<=x.1.length/\x.1.length<=8
structure WaysOk (S:Nat) (ds:List (List Nat)) (ws:List Way):Prop where
 n:∀ x ∈ ws,x.1.length<=S
 bits:∀ x ∈ ws,∀ c ∈ x.1,c=48\/c=49
 door:∀ x ∈ ws,x.2 ∈ ds
 nd:(ws.map (·.1)).Nodup
def GateN (N:Addr->Prop) (H:Hp) (x:Gate) (v:V):Prop:=∃ t r,v=.ref t/\N r/\H t=some (.tup [tx x.1,.ref r])/\Rules H r x.2
structure HouseN (F:Addr->Prop) (H:Hp) (q g w:Addr) (hs:House):Prop where
 tup:H q=some (.tup [.ref g,.ref w])
 ne:g≠w
 gates:∃ vs,H g=some (.lst vs)/\Paired (GateN (fun r=>r≠g/\r≠w/\F r) H) hs.1 vs
 ways:Ways H w hs.2
theorem HouseN.at {F:Addr->Prop} {H:Hp} {q g w:Addr} {hs:House} (h:HouseN F H q g w hs):HouseAt H q hs:=by
 obtain ⟨vs,e,p⟩:=h.gates;exact ⟨g,w,h.tup,⟨vs,e,L2.Paired.mapP p fun _ _ ⟨t,r,e,_,h1,h2⟩=>⟨t,r,e,h1,h2⟩⟩,h.ways⟩
theorem HouseN.same {F:Addr->Prop} {H H':Hp} {q g w:Addr} {hs:House} (h:HouseN F H q g w hs) (s:Same H H'):HouseN F H' q g w hs:=by
 obtain ⟨vs,e,p⟩:=h.gates;exact ⟨s _ _ h.tup,h.ne,⟨vs,s _ _ e,L2.Paired.mapP p fun _ _ ⟨t,r,e,n,h1,h2⟩=>⟨t,r,e,n,s _ _ h1,h2.same s⟩⟩,h.ways.same s⟩
theorem nI {H:Hp}:∀ (n:Nat) {v:V} {d:D},Th H n v d->Th H (n+1) v d
 | 0,_,_,h=>.inl h
 | n+1,_,_,.inl h=>.inl h
 | n+1,_,_,.inr (.inl ⟨a,vs,ds,e1,e2,e3,e4,p⟩)=>.inr (.inl ⟨a,vs,ds,e1,e2,e3,e4,L2.Paired.mapP p fun _ _ z=>nI n z⟩)
 | n+1,_,_,.inr (.inr ⟨a,vs,ds,e1,e2,e3,e4,p⟩)=>.inr (.inr ⟨a,vs,ds,e1,e2,e3,e4,L2.Paired.mapP p fun _ _ z=>nI n z⟩)
theorem paired_flip {α β γ:Type} {F:α -> β -> Prop} {G:β -> γ -> Prop} {f:α -> γ} (h:∀ x v,F x v->G v (f x)):∀ {l:List α} {vs:List β},Paired F l vs->Paired G vs (l.map f)
 | _,_,.nil=>.nil
 | _,_,.cons r p=>.cons (h _ _ r) (paired_flip h p)
theorem bz {α β γ:Type} {F:α -> β -> Prop} {G:β -> γ -> Prop} {f:α -> γ} (h:∀ x v,G v (f x)->F x v):∀ {l:List α} {vs:List β},Paired G vs (l.map f)->Paired F l vs
 | [],_,p=>by cases p; exact .nil
 | x::l,_,p=>by
  cases p with
  | cons r p=>exact .cons (h _ _ r) (bz h p)
theorem qh {H:Hp} {n:Nat} {v:V} {ds:List D} (h:Th H (n+1) v (.l ds)):∃ a vs,v=.ref a/\H a=some (.lst vs)/\Paired (Th H n) vs ds:=by
 rcases h with ⟨e,_⟩ | ⟨a,vs,ds',e1,e2,e3,_,p⟩ | ⟨a,vs,ds',e1,e2,e3,_,p⟩
 ·cases e
 ·cases e2; exact ⟨a,vs,e1,e3,p⟩
 ·cases e2
theorem mU {H:Hp} {n:Nat} {v:V} {ds:List D} (h:Th H (n+1) v (.t ds)):∃ a vs,v=.ref a/\H a=some (.tup vs)/\Paired (Th H n) vs ds:=by
 rcases h with ⟨e,_⟩ | ⟨a,vs,ds',e1,e2,e3,_,p⟩ | ⟨a,vs,ds',e1,e2,e3,_,p⟩
 ·cases e
 ·cases e2
 ·cases e2; exact ⟨a,vs,e1,e3,p⟩
theorem oP {H:Hp} {n:Nat} {a:Addr} {vs:List V} {ds:List D} (e:H a=some (.lst vs)) (hl:vs.length<=1000) (p:Paired (Th H n) vs ds):Th H (n+1) (.ref a) (.l ds):=.inr (.inl ⟨a,vs,ds,rfl,rfl,e,hl,p⟩)
theorem ki {H:Hp} {n:Nat} {a:Addr} {vs:List V} {ds:List D} (e:H a=some (.tup vs)) (hl:vs.length<=1000) (p:Paired (Th H n) vs ds):Th H (n+1) (.ref a) (.t ds):=.inr (.inr ⟨a,vs,ds,rfl,rfl,e,hl,p⟩)
theorem wo {H:Hp} {x:Fld} {v:V} (n:Nat) (h:FldAt H x v):Th H (n+1) v (fldD x):=by
 obtain ⟨t,rfl,e⟩:=h;exact ki e (by simp) (.cons (cq n rfl) (.cons (cq n rfl) .nil))
theorem rN {H:Hp} {x:Fld} {v:V} {n:Nat} (h:Th H (n+1) v (fldD x)):FldAt H x v:=by
 obtain ⟨a,vs,rfl,e,p⟩:=mU h;cases p with
 | cons r p=>cases p with
  | cons r2 p=>
   cases p;rw [fS r,fS r2] at e;exact ⟨a,rfl,e⟩
theorem nR {H:Hp} {x:Way} {v:V} (n:Nat) (h:WayAt H x v):Th H (n+1) v (wayD x):=by
 obtain ⟨t,rfl,e⟩:=h;exact ki e (by simp) (.cons (cq n rfl) (.cons (cq n rfl) .nil))
theorem jh {H:Hp} {x:Way} {v:V} {n:Nat} (h:Th H (n+1) v (wayD x)):WayAt H x v:=by
 obtain ⟨a,vs,rfl,e,p⟩:=mU h;cases p with
 | cons r p=>cases p with
  | cons r2 p=>
   cases p;rw [fS r,fS r2] at e;exact ⟨a,rfl,e⟩
theorem uS {H:Hp} {x:Rule} {v:V} (n:Nat) (h:RuleAt H x v):Th H (n+1) v (ruleD x):=by
 obtain ⟨t,rfl,e⟩:=h;exact ki e (by simp) (.cons (cq n rfl) (.cons (cq n rfl) (.cons (cq n rfl) .nil)))
theorem pN {H:Hp} {x:Rule} {v:V} {n:Nat} (h:Th H (n+1) v (ruleD x)):RuleAt H x v:=by
 obtain ⟨a,vs,rfl,e,p⟩:=mU h;cases p with
 | cons r p=>cases p with
  | cons r2 p=>cases p with
   | cons r3 p=>
    cases p;rw [fS r,fS r2,fS r3] at e;exact ⟨a,rfl,e⟩
noncomputable def layD (ls:List Fld):D:=.l (ls.map fldD)
noncomputable def gateD (x:Gate):D:=.t [.f (tx x.1),.l (x.2.map ruleD)]
noncomputable def houseD (h:House):D:=.t [.l (h.1.map gateD),.l (h.2.map wayD)]
theorem vT {H:Hp} {p:Addr} {ls:List Fld} (n:Nat) (h:Lay H p ls) (hl:ls.length<=1000):Th H (n+2) (.ref p) (layD ls):=by
 obtain ⟨vs,e,pr⟩:=h;exact oP e (by rw [<- pr.length]; exact hl) (paired_flip (fun x v z=>wo n z) pr)
theorem rG {H:Hp} {v:V} {ls:List Fld} {n:Nat} (h:Th H (n+2) v (layD ls)):∃ p,v=.ref p/\Lay H p ls:=by
 obtain ⟨a,vs,rfl,e,p⟩:=qh h;exact ⟨a,rfl,vs,e,bz (F:=FldAt H) (fun x v z=>rN z) p⟩
theorem rX {H:Hp} {p:Addr} {rs:List Rule} (n:Nat) (h:Rules H p rs) (hl:rs.length<=1000):Th H (n+2) (.ref p) (.l (rs.map ruleD)):=by
 obtain ⟨vs,e,pr⟩:=h;exact oP e (by rw [<- pr.length]; exact hl) (paired_flip (fun x v z=>uS n z) pr)
theorem oN {H:Hp} {v:V} {rs:List Rule} {n:Nat} (h:Th H (n+2) v (.l (rs.map ruleD))):∃ p,v=.ref p/\Rules H p rs:=by
 obtain ⟨a,vs,rfl,e,p⟩:=qh h;exact ⟨a,rfl,vs,e,bz (F:=RuleAt H) (fun x v z=>pN z) p⟩
theorem pX {H:Hp} {x:Gate} {v:V} {n:Nat} (h:Th H (n+3) v (gateD x)):GateAt H x v:=by
 obtain ⟨a,vs,rfl,e,p⟩:=mU h;cases p with
 | cons r p=>cases p with
  | cons r2 p=>
   cases p;obtain ⟨q,rfl,hq⟩:=oN r2;rw [fS r] at e;exact ⟨a,q,rfl,e,hq⟩
theorem rn {H:Hp} {t:Addr} {hs:House} (n:Nat) (h:HouseAt H t hs) (h1:hs.1.length<=1000) (h2:hs.2.length<=1000) (h3:∀ x ∈ hs.1,x.2.length<=1000):Th H (n+5) (.ref t) (houseD hs):=by
 obtain ⟨g,w,e,⟨vs,eg,pg⟩,⟨us,ew,pw⟩⟩:=h;refine ki e (by simp) (.cons (oP eg (by rw [<- pg.length]; exact h1) ?_) (.cons (oP ew (by rw [<- pw.length]; exact h2) (paired_flip (fun x v z=>nR (n+2) z) pw)) .nil));clear eg e ew pw h1 h2;obtain ⟨gs,ws⟩:=hs;dsimp only at pg h3 ⊢
 induction pg with
 | nil=>exact .nil
 | cons r p ih=>
  refine .cons ?_ (ih fun x hx=>h3 x (List.mem_cons_of_mem _ hx));obtain ⟨t',q,rfl,e,hq⟩:=r;exact ki e (by simp) (.cons (cq (n+2) rfl) (.cons (rX n hq (h3 _ List.mem_cons_self)) .nil))
theorem oQ {H:Hp} {v:V} {hs:House} {n:Nat} (h:Th H (n+5) v (houseD hs)):∃ t,v=.ref t/\HouseAt H t hs:=by
 obtain ⟨a,vs,rfl,e,p⟩:=mU h;cases p with
 | cons r p=>cases p with
  | cons r2 p=>
   cases p;obtain ⟨g,gv,rfl,eg,pg⟩:=qh r;obtain ⟨w,wv,rfl,ew,pw⟩:=qh r2;exact ⟨a,rfl,g,w,e,⟨gv,eg,bz (F:=GateAt H) (fun x v z=>pX z) pg⟩,⟨wv,ew,bz (F:=WayAt H) (fun x v z=>jh z) pw⟩⟩
theorem gz {H:Hp} {t:Addr} {vs:List V} (e:H t=some (.tup vs)) (hf:vs.all flatV=true) (hl:vs.length<=1000):Th H 1 (.ref t) (.t (vs.map D.f)):=by
 refine ki e hl ?_;clear e hl
 induction vs with
 | nil=>exact .nil
 | cons v vs ih=>
  rw [List.all_cons,Bool.and_eq_true] at hf;exact .cons (cq 0 hf.1) (ih hf.2)
noncomputable abbrev Named:=List Nat × House
def NamedAt (H:Hp) (x:Named) (v:V):Prop:=∃ t q,v=.ref t/\H t=some (.tup [tx x.1,.ref q])/\HouseAt H q x.2
def Houses (H:Hp) (p:Addr) (hs:List Named):Prop:=∃ vs,H p=some (.lst vs)/\Paired (NamedAt H) hs vs
theorem Houses.same {H H':Hp} {p:Addr} {hs:List Named} (h:Houses H p hs) (s:Same H H'):Houses H' p hs:=by
 obtain ⟨vs,e,pr⟩:=h;exact ⟨vs,s _ _ e,L2.Paired.mapP pr fun _ _ ⟨t,q,e,h1,h2⟩=>⟨t,q,e,s _ _ h1,h2.same s⟩⟩
noncomputable def spotsOf (hs:List Named):List Way:=hs.flatMap fun x=>x.2.1.map fun g=>(x.1,g.1)
noncomputable abbrev Line:=Way × Way
def LineAt (H:Hp) (x:Line) (v:V):Prop:=∃ t u1 u2,v=.ref t/\H t=some (.tup [u1,u2])/\WayAt H x.1 u1/\WayAt H x.2 u2
def Lines (H:Hp) (p:Addr) (ls:List Line):Prop:=∃ vs,H p=some (.lst vs)/\Paired (LineAt H) ls vs
theorem ir {H H':Hp} (k:∀ t vs,H t=some (.tup vs)->H' t=some (.tup vs)) {x:Line} {v:V} (h:LineAt H x v):LineAt H' x v:=by
 obtain ⟨t,u1,u2,e,h1,⟨a,ea,ha⟩,⟨b,eb,hb⟩⟩:=h;exact ⟨t,u1,u2,e,k _ _ h1,⟨a,ea,k _ _ ha⟩,⟨b,eb,k _ _ hb⟩⟩
theorem Lines.same {H H':Hp} {p:Addr} {ls:List Line} (h:Lines H p ls) (s:Same H H'):Lines H' p ls:=by
 obtain ⟨vs,e,pr⟩:=h;exact ⟨vs,s _ _ e,L2.Paired.mapP pr fun _ _ z=>ir (fun t us q=>s _ _ q) z⟩
noncomputable def endsOf (ls:List Line):List Way:=ls.flatMap fun x=>[x.1,x.2]
noncomputable abbrev Net:=List Fld × List Named × List Line
def NetAt (H:Hp) (t:Addr) (n:Net):Prop:=∃ a b c,H t=some (.tup [.ref a,.ref b,.ref c])/\Lay H a n.1/\Houses H b n.2.1/\Lines H c n.2.2
theorem NetAt.same {H H':Hp} {t:Addr} {n:Net} (h:NetAt H t n) (s:Same H H'):NetAt H' t n:=by
 obtain ⟨a,b,c,e,h1,h2,h3⟩:=h;exact ⟨a,b,c,s _ _ e,h1.same s,h2.same s,h3.same s⟩
structure HouseOk5 (W S:Nat) (hs:House):Prop where
 nd:(hs.1.map (·.1)).Nodup
 g3:hs.1.length<=8
 rules:∀ x ∈ hs.1,∀ r ∈ x.2,RuleOk W r
 many:∀ x ∈ hs.1,x.2.length<=300
 ways:WaysOk S (hs.1.map (·.1)) hs.2
 w8:hs.2.length<=8
structure NetOk (n:Net):Prop where
 lay:LayOk n.1
 nd:(n.2.1.map (·.1)).Nodup
 low:∀ x ∈ n.2.1,Low x.1/\x.1.length<=1000
 house:∀ x ∈ n.2.1,HouseOk5 (widthL n.1) ((spanG n.1).2 - (spanG n.1).1) x.2
 door:∀ x ∈ n.2.1,∀ g ∈ x.2.1,Low g.1/\g.1.length<=1000
 h100:n.2.1.length<=100
 ends:(endsOf n.2.2).Nodup
 spots:∀ s ∈ endsOf n.2.2,s ∈ spotsOf n.2.1
 l500:n.2.2.length<=500
noncomputable def houseOf (hs:List Named) (n:List Nat):Option House:=(hs.find? fun x=>decide (x.1=n)).map (·.2)
noncomputable def cL (K:Frag):Sp:=fun vs H Q E=>match vs with
 | [.ref t,.str n]=>∃ N:Net,NetAt H t N/\(∀ c ∈ n.cps.toList,c < 16 ^ 8)/\n.cps.toList.length<=1000 /\
   (∀ h,houseOf N.2.1 n.cps.toList=some h->∀ q H',Same H H'->HouseAt H' q h->Q (.ref q) H') /\
   (houseOf N.2.1 n.cps.toList=none->∀ H',Same H H'->E (.ref (xA K "NoHouse")) none H')
 | _=>False
theorem jM (T:Top K mg):CalleeX P w K mg base 1 "house_named" ["net", "name"] (cL K):=by
 refine T.fX.calX cK (by intro vs H Q E h; unfold cL at h; split at h <;> first | rfl | exact h.elim) (fun _ _ _ _ _ _ us hl=>match us,hl with | [_,_],_=>rfl) (fun f cdv A outer s H vs Q E hr h=>?_);unfold cL at h;split at h
 case h_2=>exact h.elim
 refine ⟨_,(af (bd PassesOwn.leaving rfl (iterE K rfl (ak (ixE K rfl) (qv 0) ae (fun _ _=>rfl))) (tupE K rfl rfl (n:=2) (ao (aj (i:=2) cK.nd rfl lc) (ao (aj (i:=3) cK.nd rfl lc) aK))) (ai (aI (aC aN (qv 2) (qv 1)) (ai (ap (qv 3))) au)))
   (ai (gI rfl fO rfl T.iB.1 T.iB.2 (aa (px (cP (qs [110,111,32,104,111,117,115,101,32]) (cP (lK (qv 1)) lZ))) ad)))),?_⟩
 rename_i p s;obtain ⟨n,rfl⟩:∃ x,s=st x:=⟨_,(aF s).symm⟩;obtain ⟨N,⟨a,b,c,e,_,⟨vs,e0,pr⟩,_⟩,hc,hn,q1,q2⟩:=h;simp only [al] at q1 q2 hc hn;have hl:=pr.length;walk_at "rd";refine ⟨_,_,.inr (SqT.of e),rfl,?_⟩;walk_at "rd";refine .inl ⟨⟨_,SqL.of e0⟩,?_⟩;refine bq (xs:=vs) (fun i σ H'=>∃ u v,σ = [some (.ref p),some (.str (st n)),u,v]/\Same H H'/\∀ x ∈ N.2.1.take i,¬ x.1=n) ⟨none,none,rfl,Same.refl _,fun x hx=>by simp at hx⟩ (fun i σ H' _ ⟨_,_,_,z,_⟩=>SqL.of (z _ _ e0)) ?_ ?_
 ·rintro i x σ H1 hx ⟨u,v,rfl,s1,h1⟩;have hi:i < vs.length:=(List.getElem?_eq_some_iff.mp hx).1;have hil:i < N.2.1.length:=by omega
  obtain ⟨y,hy,t,r,ey,et,hr⟩:=aD pr (List.getElem?_eq_getElem hil);obtain rfl:x=.ref t:=by rw [hy] at hx; rw [<- Option.some.inj hx,ey]
  refine ⟨t,[_,_],rfl,SqT.of (s1 _ _ et),rfl,_,[_],rfl,_,[],rfl,rfl,?_⟩;walk_at "rd";refine ite2 (fun g=>?_) fun g=>⟨some (tx N.2.1[i].1),some (.ref r),rfl,s1,fun y hy=>?_⟩
  ·refine q1 N.2.1[i].2 ?_ r H1 s1 (hr.same s1);unfold houseOf;rw [show N.2.1.find? (fun g=>decide (g.1=n))=some N.2.1[i] from List.find?_eq_some_iff_append.mpr ⟨by simpa using g,N.2.1.take i,N.2.1.drop (i+1),by simp,fun y hy=>by simpa using h1 y hy⟩];rfl
  ·rw [List.take_add_one,List.getElem?_eq_getElem hil] at hy;rcases List.mem_append.mp hy with hy | hy
   ·exact h1 y hy
   ·have e:y=N.2.1[i]:=by simpa using hy
    rw [e];exact g
 ·rintro σ H1 ⟨u,v,rfl,s1,h1⟩;walk_at "rd";have e:houseOf N.2.1 n=none:=by
   unfold houseOf;rw [List.find?_eq_none.mpr fun y hy=>by simpa using h1 y (by rw [<- hl,List.take_length]; exact hy)];rfl
  have hz:(st n).length=n.length:=cX n;refine ⟨by rw [cX]; exact Nat.le_of_lt (sizeBig (by decide)),hc,by omega,fun z hzz=>⟨?_,fun _=>⟨by decide,q2 e H1 s1⟩⟩⟩;rw [cX];exact Nat.le_of_lt (sizeBig (by simp only [List.length_cons,List.length_nil]; omega))
noncomputable def cZ (K:Frag):Sp:=fun vs H Q E=>match vs with
 | [.ref t,.str n,.str d]=>∃ N:Net,NetAt H t N/\(∀ c ∈ n.cps.toList,c < 16 ^ 8)/\n.cps.toList.length<=1000/\(∀ c ∈ d.cps.toList,c < 16 ^ 8)/\d.cps.toList.length<=1000 /\
   (∀ h,houseOf N.2.1 n.cps.toList=some h->(∀ rs,gateOf h.1 d.cps.toList=some rs->∀ H',Same H H'->Q .non H')/\(gateOf h.1 d.cps.toList=none->∀ H',Same H H'->E (.ref (xA K "NoDoor")) none H')) /\
   (houseOf N.2.1 n.cps.toList=none->∀ H',Same H H'->E (.ref (xA K "NoHouse")) none H')
 | _=>False
theorem kg (T:Top K mg):CalleeX P w K mg base 2 "check_spot" ["net", "house", "door"] (cZ K):=by
 refine T.gZ.calX kB (by intro vs H Q E h; unfold cZ at h; split at h <;> first | rfl | exact h.elim) (fun _ _ _ _ _ _ us hl=>match us,hl with | [_,_,_],_=>rfl) (fun f cdv A outer s H vs Q E hr h=>?_);unfold cZ at h;split at h
 case h_2=>exact h.elim
 refine ⟨_,(ai (bI (fo (fQ T) hr.m bN rfl (aa (fo (jM T) hr.m bN rfl (aa (qv 0) (aa (qv 1) ad))) (aa (qv 2) ad))))),?_⟩;rename_i t n d;obtain ⟨N,hN,h1,h2,h3,h4,q1,q2⟩:=h;walk_at "rd";refine ⟨N,hN,h1,h2,fun h eh q H1 s1 hH=>?_,q2⟩;obtain ⟨q3,q4⟩:=q1 h eh;walk_at "rd";exact ⟨h,hH,h3,h4,fun rs ers p H2 s2 _=>q3 rs ers H2 (s1.trans s2),fun en H2 s2=>q4 en H2 (s1.trans s2)⟩
theorem pW (ls:List Line) (i:Nat) (h:i < ls.length):endsOf (ls.take (i+1))=endsOf (ls.take i)++[ls[i].1,ls[i].2]:=by
 unfold endsOf;rw [List.take_add_one,List.getElem?_eq_getElem h,Option.toList_some,List.flatMap_append];simp
theorem rT {ls:List Line} {i:Nat} (h:i < ls.length):endsOf ls=endsOf (ls.take i)++([ls[i].1,ls[i].2]++endsOf (ls.drop (i+1))):=by
 conv=>lhs; rw [<- List.take_append_drop (i+1) ls]
 rw [show endsOf (ls.take (i+1)++ls.drop (i+1))=endsOf (ls.take (i+1))++endsOf (ls.drop (i+1)) by unfold endsOf; rw [List.flatMap_append],pW ls i h,List.append_assoc]
noncomputable def namedD (x:Named):D:=.t [.f (tx x.1),houseD x.2]
noncomputable def lineD (x:Line):D:=.t [wayD x.1,wayD x.2]
noncomputable def netD (N:Net):D:=.t [layD N.1,.l (N.2.1.map namedD),.l (N.2.2.map lineD)]
theorem uQ {H:Hp} {x:Line} {v:V} (n:Nat) (h:LineAt H x v):Th H (n+2) v (lineD x):=by
 obtain ⟨t,u1,u2,rfl,e,h1,h2⟩:=h;exact ki e (by simp) (.cons (nR n h1) (.cons (nR n h2) .nil))
theorem qA {H:Hp} {x:Line} {v:V} {n:Nat} (h:Th H (n+2) v (lineD x)):LineAt H x v:=by
 obtain ⟨a,vs,rfl,e,p⟩:=mU h;cases p with
 | cons r p=>cases p with
  | cons r2 p=>
   cases p;exact ⟨a,_,_,rfl,e,jh r,jh r2⟩
theorem nW {H:Hp} {x:Named} {v:V} {n:Nat} (h:Th H (n+6) v (namedD x)):NamedAt H x v:=by
 obtain ⟨a,vs,rfl,e,p⟩:=mU h;cases p with
 | cons r p=>cases p with
  | cons r2 p=>
   cases p;obtain ⟨q,rfl,hq⟩:=oQ r2;rw [fS r] at e;exact ⟨a,q,rfl,e,hq⟩
theorem qP {H:Hp} {p:Addr} {hs:List Named} (h:Houses H p hs) (hl:hs.length<=1000) (h1:∀ x ∈ hs,x.2.1.length<=1000/\x.2.2.length<=1000/\∀ g ∈ x.2.1,g.2.length<=1000):Th H 7 (.ref p) (.l (hs.map namedD)):=by
 obtain ⟨vs,e,pr⟩:=h;refine oP e (by rw [<- pr.length]; exact hl) ?_;clear e hl
 induction pr with
 | nil=>exact .nil
 | cons r p ih=>
  refine .cons ?_ (ih fun x hx=>h1 x (List.mem_cons_of_mem _ hx));obtain ⟨t',q,rfl,e,hq⟩:=r;have:=h1 _ List.mem_cons_self;exact ki e (by simp) (.cons (cq 5 rfl) (.cons (rn 0 hq this.1 this.2.1 this.2.2) .nil))
theorem rh {H:Hp} {p:Addr} {ls:List Line} (h:Lines H p ls) (hl:ls.length<=1000):Th H 7 (.ref p) (.l (ls.map lineD)):=by
 obtain ⟨vs,e,pr⟩:=h;exact oP e (by rw [<- pr.length]; exact hl) (paired_flip (fun x v z=>uQ 4 z) pr)
theorem vV {H:Hp} {q:Addr} {N:Net} (h:NetAt H q N) (ok:NetOk N):Th H 8 (.ref q) (netD N):=by
 obtain ⟨a,b,c,e,h1,h2,h3⟩:=h;have:=ok.lay.len;have:=ok.h100;have:=ok.l500;refine ki e (by simp) (.cons (vT 5 h1 (by omega)) (.cons (qP h2 (by omega) fun x hx=>?_) (.cons (rh h3 (by omega)) .nil)));have k:=ok.house x hx;exact ⟨Nat.le_trans k.g3 (by decide),Nat.le_trans k.w8 (by decide),fun g hg=>Nat.le_trans (k.many g hg) (by decide)⟩
theorem rD {H:Hp} {v:V} {N:Net} (h:Th H 8 v (netD N)):∃ q,v=.ref q/\NetAt H q N:=by
 obtain ⟨a,vs,rfl,e,p⟩:=mU h;cases p with
 | cons r p=>cases p with
  | cons r2 p=>cases p with
   | cons r3 p=>
    cases p;obtain ⟨p1,rfl,k1⟩:=rG r;obtain ⟨p2,v2,rfl,e2,k2⟩:=qh r2;obtain ⟨p3,v3,rfl,e3,k3⟩:=qh r3;exact ⟨a,rfl,p1,p2,p3,e,k1,⟨v2,e2,bz (F:=NamedAt H) (fun x v z=>nW z) k2⟩,⟨v3,e3,bz (F:=LineAt H) (fun x v z=>qA z) k3⟩⟩
noncomputable def keyW (x:Way):List Key:=[.inr (st x.1),.inr (st x.2)]
theorem mZ {x y:Way} (h:keyW x=keyW y):x=y:=by
 obtain ⟨a,b⟩:=x;obtain ⟨c,d⟩:=y;have h1:st a=st c:=by injection h with h1 _; injection h1
 have h2:st b=st d:=by injection h with _ h2; injection h2 with h2 _; injection h2
 rw [bL.mp h1,bL.mp h2]
noncomputable def beyondL:List Line->Way->Option Way
 | [],_=>none
 | (a,b)::ls,x=>if a=x then some b else if b=x then some a else beyondL ls x
theorem eY:∀ {ls:List Line} {x:Way},x ∉ endsOf ls->beyondL ls x=none
 | [],_,_=>rfl
 | (a,b)::ls,x,h=>by
  have e:endsOf ((a,b)::ls)=a::b::endsOf ls:=by unfold endsOf; rw [List.flatMap_cons]; rfl
  rw [e] at h;simp only [List.mem_cons,not_or] at h;unfold beyondL;rw [if_neg (fun z=>h.1 z.symm),if_neg (fun z=>h.2.1 z.symm)];exact eY h.2.2
theorem iF:∀ (ls:List Line) (a b x:Way),beyondL (ls++[(a,b)]) x=(beyondL ls x).or (if a=x then some b else if b=x then some a else none)
 | [],a,b,x=>by simp [beyondL]
 | (c,d)::ls,a,b,x=>by
  have ih:=iF ls a b x;show beyondL ((c,d)::(ls++[(a,b)])) x=_;unfold beyondL;by_cases h1:c=x
  ·rw [if_pos h1,if_pos h1]; rfl
  ·rw [if_neg h1,if_neg h1];by_cases h2:d=x
   ·rw [if_pos h2,if_pos h2]; rfl
   ·rw [if_neg h2,if_neg h2];exact ih
def OptW (H:Hp) (o:Option Way) (v:Option V):Prop:=match o with
 | none=>v=none
 | some y=>∃ u,v=some u/\WayAt H y u
theorem OptW.keep {H H':Hp} (k:∀ t vs,H t=some (.tup vs)->H' t=some (.tup vs)) {o:Option Way} {v:Option V} (h:OptW H o v):OptW H' o v:=by
 cases o with
 | none=>exact h
 | some y=>
  obtain ⟨u,e,t,e2,h2⟩:=h;exact ⟨u,e,t,e2,k _ _ h2⟩
def EndsAt (H:Hp) (d:Addr) (ls:List Line):Prop:=∃ kvs:List (List Key × V),H d=some (.dT kvs)/\∀ x,OptW H (beyondL ls x) (valV kvs (keyW x))
theorem EndsAt.same {H H':Hp} {d:Addr} {ls:List Line} (h:EndsAt H d ls) (s:Same H H'):EndsAt H' d ls:=by
 obtain ⟨kvs,e,h⟩:=h;exact ⟨kvs,s _ _ e,fun x=>(h x).keep fun _ _ z=>s _ _ z⟩
noncomputable def dz (K:Frag):Sp:=fun vs H Q _=>match vs with
 | [.ref p]=>∃ N:Net,NetAt H p N/\N.2.2.length<=500/\(endsOf N.2.2).Nodup/\∀ d H',H d=none->Same H H'->EndsAt H' d N.2.2->Q (.ref d) H'
 | _=>False
theorem lI (T:Top K mg):Callee P w K mg base 1 "line_ends" ["net"] (dz K):=by
 refine T.iM.cal cC (by intro vs H Q E h; unfold dz at h; split at h <;> first | rfl | exact h.elim) (fun _ _ _ _ _ _ us hl=>match us,hl with | [_],_=>rfl) (fun f cdv A outer s H vs Q E hr h=>?_);unfold dz at h;split at h
 case h_2=>exact h.elim
 refine ⟨_,(af (am (i:=1) cC.nd rfl lc nE)
   (af (bd PassesOwn.never rfl (iterE K rfl (ak (ixE K rfl) (qv 0) ae (fun _ _=>rfl))) (tupE K rfl rfl (n:=2) (ao (aj (i:=2) cC.nd rfl lc) (ao (aj (i:=3) cC.nd rfl lc) aK))) (af (lT (jo hr) (qv 1) (qv 2) (qv 3))
   (ai (lT (jo hr) (qv 1) (qv 3) (qv 2)))))
   (ai (ap (qv 1))))),?_⟩
 rename_i p;obtain ⟨⟨ls,hs,lns⟩,⟨pa,pb,pc,eN,_,_,⟨vs,e0,pr⟩⟩,hn,hnd,q⟩:=h;dsimp only at pr hn hnd q;have hl:=pr.length;walk_at "rd";intro d hd;have s1:=ag hd (.dT []);refine ⟨_,_,.inr (SqT.of (s1 _ _ eN)),rfl,?_⟩;walk_at "rd";refine .inl ⟨⟨_,SqL.of (s1 _ _ e0)⟩,?_⟩;refine bq (xs:=vs) (fun i σ H'=>∃ u v kvs,σ = [some (.ref p),some (.ref d),u,v]/\Same H H'/\H' d=some (.dT kvs)/\kvs.length<=2*i/\∀ x,OptW H' (beyondL (lns.take i) x) (valV kvs (keyW x))) ⟨none,none,[],rfl,s1,upd_same,Nat.le_refl _,fun x=>rfl⟩ (fun i σ H' _ ⟨_,_,_,_,z,_⟩=>SqL.of (z _ _ e0)) ?_ ?_
 ·rintro i x σ H1 hx ⟨u,v,kvs,rfl,s2,ed,hk,hv⟩;have hi:i < vs.length:=(List.getElem?_eq_some_iff.mp hx).1;have hil:i < lns.length:=by omega
  obtain ⟨y,hy,t,u1,u2,ey,et,⟨t1,rfl,h1⟩,⟨t2,rfl,h2⟩⟩:=aD pr (List.getElem?_eq_getElem hil);obtain rfl:x=.ref t:=by rw [hy] at hx; rw [<- Option.some.inj hx,ey]
  refine ⟨t,[_,_],rfl,SqT.of (s2 _ _ et),rfl,_,[_],rfl,_,[],rfl,rfl,?_⟩;walk_at "rd";have h1':=s2 _ _ h1;have h2':=s2 _ _ h2;generalize ea:lns[i].1=a at *;generalize eb:lns[i].2=b at *;have kd:∀ {H:Hp} {k k':List (List Key × V)},H d=some (.dT k)->∀ t ts,H t=some (.tup ts)->upd H d (.dT k') t=some (.tup ts):=fun e t ts z=>by
   rw [aA (fun y=>by rw [y,e] at z; cases z)];exact z
  have g1:DPut H1 d (.ref t1) (.ref t2) (upd H1 d (.dT (putK kvs (keyW a) (.ref t2)))):=DPut.t (k:=keyW a) ed h1' (sizeBig (by omega));have lp1:=cR kvs (keyW a) (.ref t2);have ed2:upd H1 d (.dT (putK kvs (keyW a) (.ref t2))) d=some (.dT (putK kvs (keyW a) (.ref t2))):=upd_same;have g2:=DPut.t (v:=.ref t1) (k:=keyW b) ed2 (kd ed _ _ h2') (sizeBig (by omega));have lp2:=cR (putK kvs (keyW a) (.ref t2)) (keyW b) (.ref t1);refine ⟨_,g1,_,g2,_,_,putK (putK kvs (keyW a) (.ref t2)) (keyW b) (.ref t1),rfl,aW (aW s2 hd) hd,upd_same,by omega,fun x=>?_⟩;have kk:∀ t ts,H1 t=some (.tup ts)->upd (upd H1 d (.dT (putK kvs (keyW a) (.ref t2)))) d (.dT (putK (putK kvs (keyW a) (.ref t2)) (keyW b) (.ref t1))) t=some (.tup ts):=fun t ts z=>kd ed2 _ _ (kd ed _ _ z)
  have hends:=rT hil;rw [hends,ea,eb] at hnd;obtain ⟨_,n2,n3⟩:=List.nodup_append.mp hnd;have na:a ∉ endsOf (lns.take i):=fun z=>n3 a z a (by simp) rfl
  have nb:b ∉ endsOf (lns.take i):=fun z=>n3 b z b (by simp) rfl
  have nab:a≠b:=fun z=>by
   have:=List.nodup_cons.mp n2;exact this.1 (by rw [z]; simp)
  rw [mI,mI,List.take_add_one,List.getElem?_eq_getElem hil,Option.toList_some,show lns[i]=(a,b) by rw [<- ea,<- eb],iF];by_cases c1:x=b
  ·subst c1;rw [if_pos rfl,eY nb,if_neg nab,if_pos rfl];exact ⟨_,rfl,t1,rfl,kk _ _ h1'⟩
  ·rw [if_neg (fun z=>c1 (mZ z))];by_cases c2:x=a
   ·subst c2;rw [if_pos rfl,eY na,if_pos rfl];exact ⟨_,rfl,t2,rfl,kk _ _ h2'⟩
   ·rw [if_neg (fun z=>c2 (mZ z)),if_neg (fun z=>c2 z.symm),if_neg (fun z=>c1 z.symm),Option.or_none];exact (hv x).keep kk
 ·rintro σ H1 ⟨u,v,kvs,rfl,s2,ed,hk,hv⟩;walk_at "rd";rw [<- hl,List.take_length] at hv;exact q d H1 hd s2 ⟨kvs,ed,hv⟩
def OptV (H:Hp) (o:Option Way) (v:V):Prop:=match o with
 | none=>v=.non
 | some y=>WayAt H y v
theorem pz (x y:Way):eqD (wayD x) (wayD y)=decide (x=y):=by
 have txs:∀ x y:List Nat,eqV (tx x) (tx y)=decide (x=y):=fun x y=>by
  show (st x == st y)=_;rw [Bool.eq_iff_iff,beq_iff_eq,bL,decide_eq_true_eq]
 unfold wayD;simp only [eqD,eqDs,Bool.and_true,txs];rw [Bool.eq_iff_iff];simp [Prod.ext_iff]
theorem gB {H:Hp} {x:Way} {v:V} (h:WayAt H x v):Deep K H 1 v (wayD x):=by
 obtain ⟨t,rfl,e⟩:=h;exact .inr (.inr ⟨t,_,_,rfl,rfl,SqT.of e,.cons ⟨rfl,rfl⟩ (.cons ⟨rfl,rfl⟩ .nil)⟩)
theorem nu (y:Line) (ls:List Line) (x:Way):beyondL (y::ls) x=if y.1=x then some y.2 else if y.2=x then some y.1 else beyondL ls x:=rfl
noncomputable def bS (K:Frag):Sp:=fun vs H Q _=>match vs with
 | [.ref p,.ref t]=>∃ (ls:List Line) (x:Way),Lines H p ls/\WayAt H x (.ref t)/\∀ v H',Same H H'->OptV H' (beyondL ls x) v->Q v H'
 | _=>False
theorem jE (T:Top K mg):Callee P w K mg base 1 "_law_beyond" ["_law_lines", "_law_spot"] (bS K):=by
 refine T.fY.cal cE (by intro vs H Q E h; unfold bS at h; split at h <;> first | rfl | exact h.elim) (fun _ _ _ _ _ _ us hl=>match us,hl with | [_,_],_=>rfl) (fun f cdv A outer s H vs Q E hr h=>?_);unfold bS at h;split at h
 case h_2=>exact h.elim
 refine ⟨_,(af (bd PassesOwn.never rfl (iterE K rfl (qv 0)) (tupE K rfl rfl (n:=2) (ao (aj (i:=2) cE.nd rfl lc) (ao (aj (i:=3) cE.nd rfl lc) aK))) (af (aI (aC (eqDE K rfl hr) (qv 2) (qv 1)) (ai (ap (qv 3))) au)
   (ai (aI (aC (eqDE K rfl hr) (qv 3) (qv 1)) (ai (ap (qv 2))) au))))
   (ai (ap fh))),?_⟩
 rename_i p t;obtain ⟨ls,x,⟨vs,e0,pr⟩,⟨t',et',ht⟩,q⟩:=h;cases et';have hl:=pr.length;walk_at "rd";refine .inl ⟨⟨_,SqL.of e0⟩,?_⟩;refine bq (xs:=vs) (fun i σ H'=>∃ u v,σ = [some (.ref p),some (.ref t),u,v]/\H'=H/\beyondL ls x=beyondL (ls.drop i) x) ⟨none,none,rfl,rfl,rfl⟩ (fun i σ H' _ ⟨_,_,_,z,_⟩=>by rw [z]; exact SqL.of e0) ?_ ?_
 ·rintro i y σ H1 hy ⟨u,v,rfl,rfl,hb⟩;have hi:i < vs.length:=(List.getElem?_eq_some_iff.mp hy).1;have hil:i < ls.length:=by omega
  obtain ⟨y',hy',t0,u1,u2,ey,et,⟨t1,rfl,h1⟩,⟨t2,rfl,h2⟩⟩:=aD pr (List.getElem?_eq_getElem hil);obtain rfl:y=.ref t0:=by rw [hy'] at hy; rw [<- Option.some.inj hy,ey]
  refine ⟨t0,[_,_],rfl,SqT.of et,rfl,_,[_],rfl,_,[],rfl,rfl,?_⟩;walk_at "rd";rw [List.drop_eq_getElem_cons hil] at hb;refine ⟨1,_,_,by decide,gB ⟨t1,rfl,h1⟩,gB ⟨t,rfl,ht⟩,?_⟩;rw [pz];rw [nu] at hb;by_cases c1:ls[i].1=x
  ·rw [if_pos (decide_eq_true c1)];rw [if_pos c1] at hb;refine q _ _ (Same.refl _) ?_;rw [hb];exact ⟨t2,rfl,h2⟩
  ·rw [if_neg (by simpa using c1)];refine ⟨1,_,_,by decide,gB ⟨t2,rfl,h2⟩,gB ⟨t,rfl,ht⟩,?_⟩;rw [pz];rw [if_neg c1] at hb;by_cases c2:ls[i].2=x
   ·rw [if_pos (decide_eq_true c2)];rw [if_pos c2] at hb;refine q _ _ (Same.refl _) ?_;rw [hb];exact ⟨t1,rfl,h1⟩
   ·rw [if_neg (by simpa using c2)];rw [if_neg c2] at hb;exact ⟨_,_,rfl,hb⟩
 ·rintro σ H1 ⟨u,v,rfl,rfl,hb⟩;walk_at "rd";rw [<- hl,List.drop_length] at hb;refine q _ _ (Same.refl _) ?_;rw [hb];exact rfl
noncomputable def dF:Sp:=fun vs H Q _=>match vs with
 | [v,.int w]=>Known H v/\Q (.bl (textOf v w [48,49])) H
 | _=>False
theorem lE (T:Top K mg):Callee P w K mg base 2 "is_letter" ["thing", "width"] dF:=by
 refine T.iN.cal me (by intro vs H Q E h; unfold dF at h; split at h <;> first | rfl | exact h.elim) (fun _ _ _ _ _ _ us hl=>match us,hl with | [_,_],_=>rfl) (fun f cdv A outer s H vs Q E hr h=>?_);unfold dF at h;split at h
 case h_2=>exact h.elim
 refine ⟨_,(ai (ap (av (kq T) hr.m rfl (aa (qv 0) (aa (qv 1) (aa (qs [48,49]) ad)))))),?_⟩;walk_at "rd";exact h
noncomputable abbrev Step:=List Nat × List Nat × List Nat
inductive Act where
 | drop (n:Nat)
 | lost
 | sent (d l:List Nat)
noncomputable def actV:Act->List V
 | .drop n=>[tx dropT,.int (n:Nat)]
 | .lost=>[tx lostT]
 | .sent d l=>[tx sentW,tx d,tx l]
noncomputable def actOf (ls:List Fld) (rs:List Rule) (ws:List Way) (l:List Nat):Act:=
 if dropB rs (firstR rs l) then .drop (firstR rs l) else match (wayL ws (partT ls (sentT rs l))).2 with
  | none=>.lost
  | some d=>.sent d (sentT rs l)
theorem mS (ls:List Fld) (rs:List Rule) (ws:List Way) (l:List Nat):doesV ls rs ws l=actV (actOf ls rs ws l):=by
 unfold doesV actOf;split
 ·rfl
 ·cases (wayL ws (partT ls (sentT rs l))).2 <;> rfl
noncomputable def actS (N:Net) (s:Step):Act:=match houseOf N.2.1 s.1 with
 | none=>.lost
 | some h=>match gateOf h.1 s.2.1 with
  | none=>.lost
  | some rs=>actOf N.1 rs h.2 s.2.2
theorem lP {N:Net} {s:Step} {h:House} {rs:List Rule} (e1:houseOf N.2.1 s.1=some h) (e2:gateOf h.1 s.2.1=some rs):actS N s=actOf N.1 rs h.2 s.2.2:=by
 unfold actS;rw [e1];dsimp only;rw [e2]
noncomputable def outT:List Nat:=[111,117,116]
noncomputable def ringT:List Nat:=[114,105,110,103]
noncomputable def stepV (s:Step):List V:=[tx s.1,tx s.2.1,tx s.2.2]
inductive Go where
 | stop (e:List V)
 | on (t:Step)
noncomputable def goA (N:Net) (s:Step):Act->Go
 | .drop n=>.stop [tx dropT,tx s.1,tx s.2.1,.int (n:Nat)]
 | .lost=>.stop [tx lostT,tx s.1,tx s.2.1]
 | .sent d l=>match beyondL N.2.2 (s.1,d) with
  | none=>.stop [tx outT,tx s.1,tx d,tx l]
  | some w=>.on (w.1,w.2,l)
noncomputable def goS (N:Net) (s:Step):Go:=goA N s (actS N s)
noncomputable def atS (tr:List Step) (s:Step):Nat:=tr.findIdx fun x=>decide (x=s)
noncomputable def ringV (tr:List Step) (s:Step):List V:=[tx ringT,tx (minT ((tr.drop (atS tr s)).map (·.1)))]
noncomputable def walkF (N:Net):Nat->List Step->Step->List Step × List V
 | 0,tr,_=>(tr,[])
 | n+1,tr,s=>if s ∈ tr then (tr,ringV tr s) else match goS N s with
  | .stop e=>(tr++[s],e)
  | .on t=>walkF N n (tr++[s]) t
theorem im {N:Net} {n:Nat} {tr:List Step} {s:Step} (h:s ∈ tr):walkF N (n+1) tr s=(tr,ringV tr s):=by
 unfold walkF;rw [if_pos h]
theorem iw {N:Net} {n:Nat} {tr:List Step} {s:Step} {e:List V} (h:s ∉ tr) (g:goS N s=.stop e):walkF N (n+1) tr s=(tr++[s],e):=by
 unfold walkF;rw [if_neg h,g]
theorem lD {N:Net} {n:Nat} {tr:List Step} {s t:Step} (h:s ∉ tr) (g:goS N s=.on t):walkF N (n+1) tr s=walkF N n (tr++[s]) t:=by
 conv=>lhs; unfold walkF
 rw [if_neg h,g]
structure InW (N:Net) (ps l0:List Nat) (s:Step):Prop where
 spot:(s.1,s.2.1) ∈ spotsOf N.2.1
 len:s.2.2.length=l0.length
 bits:∀ c ∈ s.2.2,c=48\/c=49
 off:∀ i,i ∉ ps->s.2.2[i]? = l0[i]?
theorem vf {α:Type} [DecidableEq α]:∀ {l m:List α},l.Nodup->(∀ x ∈ l,x ∈ m)->l.length<=m.length
 | [],_,_,_=>Nat.zero_le _
 | x::l,m,nd,h=>by
  rw [List.nodup_cons] at nd;have hx:=h x List.mem_cons_self;have ih:=vf (l:=l) (m:=m.erase x) nd.2 fun y hy=>(List.mem_erase_of_ne (fun z=>nd.1 (by rw [<- z]; exact hy))).mpr (h y (List.mem_cons_of_mem _ hy))
  rw [List.length_erase_of_mem hx] at ih;have:=List.length_pos_of_mem hx;rw [List.length_cons];omega
noncomputable def bitsL:Nat->List (List Nat)
 | 0=>[[]]
 | n+1=>(bitsL n).map (48::·)++(bitsL n).map (49::·)
theorem kP:∀ n,(bitsL n).length=2 ^ n
 | 0=>rfl
 | n+1=>by rw [bitsL,List.length_append,List.length_map,List.length_map,kP n,Nat.pow_succ]; omega
theorem kN:∀ {l:List Nat},(∀ c ∈ l,c=48\/c=49)->l ∈ bitsL l.length
 | [],_=>List.mem_singleton.mpr rfl
 | c::l,h=>by
  have ih:=kN fun d hd=>h d (List.mem_cons_of_mem _ hd)
  rw [List.length_cons,bitsL,List.mem_append];rcases h c List.mem_cons_self with rfl | rfl
  ·exact .inl (List.mem_map.mpr ⟨l,ih,rfl⟩)
  ·exact .inr (List.mem_map.mpr ⟨l,ih,rfl⟩)
theorem jF {N:Net} {ps l0:List Nat} {tr:List Step} (nd:tr.Nodup) (h:∀ s ∈ tr,InW N ps l0 s) (hp:∀ i ∈ ps,i < l0.length):tr.length<=(spotsOf N.2.1).length*2 ^ ps.length:=by
 let key:Step->Way × List Nat:=fun s=>((s.1,s.2.1),ps.map fun i=>s.2.2.getD i 48)
 have inj:∀ x ∈ tr,∀ y ∈ tr,key x=key y->x=y:=fun x hx y hy e=>by
  have e1:=congrArg Prod.fst e;have e2:ps.map (fun i=>x.2.2.getD i 48)=ps.map fun i=>y.2.2.getD i 48:=congrArg Prod.snd e
  have hX:=h x hx;have hY:=h y hy;have e3:x.2.2=y.2.2:=List.ext_getElem? fun i=>by
   by_cases hi:i ∈ ps
   ·have h1:x.2.2.getD i 48=y.2.2.getD i 48:=List.map_inj_left.mp e2 i hi;have hl:=hp i hi;rw [List.getD_eq_getElem?_getD,List.getD_eq_getElem?_getD,List.getElem?_eq_getElem (by rw [hX.len]; exact hl),List.getElem?_eq_getElem (by rw [hY.len]; exact hl)] at h1;rw [List.getElem?_eq_getElem (by rw [hX.len]; exact hl),List.getElem?_eq_getElem (by rw [hY.len]; exact hl)];exact congrArg some h1
   ·rw [hX.off i hi,hY.off i hi]
  obtain ⟨a,b,c⟩:=x;obtain ⟨a',b',c'⟩:=y;have e4:a=a':=congrArg Prod.fst e1;have e5:b=b':=congrArg Prod.snd e1;have e6:c=c':=e3;rw [e4,e5,e6]
 have nd2:(tr.map key).Nodup:=List.pairwise_map.mpr (List.Pairwise.imp_of_mem (fun {a b} ha hb hab e=>hab (inj a ha b hb e)) nd);have sub:∀ x ∈ tr.map key,x ∈ (spotsOf N.2.1).flatMap fun w=>(bitsL ps.length).map fun b=>(w,b):=fun x hx=>by
  obtain ⟨s,hs,rfl⟩:=List.mem_map.mp hx;have hS:=h s hs;refine List.mem_flatMap.mpr ⟨_,hS.spot,List.mem_map.mpr ⟨_,?_,rfl⟩⟩;have hl:ps.length=(ps.map fun i=>s.2.2.getD i 48).length:=by simp
  rw [hl];refine kN fun c hc=>?_
  obtain ⟨i,hi,rfl⟩:=List.mem_map.mp hc;have hlt:i < s.2.2.length:=by rw [hS.len]; exact hp i hi
  rw [List.getD_eq_getElem?_getD,List.getElem?_eq_getElem hlt];exact hS.bits _ (List.getElem_mem hlt)
 have le:=vf nd2 sub;rw [List.length_map] at le;refine Nat.le_trans le (Nat.le_of_eq ?_);generalize spotsOf N.2.1=l;clear le sub nd2 inj key nd h
 induction l with
 | nil=>simp
 | cons x l ih=>rw [List.flatMap_cons,List.length_append,ih,List.length_map,kP,List.length_cons,Nat.succ_mul,Nat.add_comm]
theorem nF {ps l o:List Nat} (h:l.length=o.length) (ho:OverL ps o) (i:Nat) (hi:i ∉ ps):(written l o)[i]? = l[i]?:=by
 by_cases hl:i < l.length
 ·have hl2:i < o.length:=by omega
  have e:(l.zip o)[i]? = some (l[i],o[i]):=List.getElem?_zip_eq_some.mpr ⟨List.getElem?_eq_getElem hl,List.getElem?_eq_getElem hl2⟩;have e45:o[i]=45:=Classical.byContradiction fun n=>hi (ho i _ (List.getElem?_eq_getElem hl2) n)
  unfold written;rw [List.getElem?_map,e,List.getElem?_eq_getElem hl];show some (wSign l[i] o[i])=_;rw [e45];rfl
 ·rw [List.getElem?_eq_none (by rw [cO h]; omega),List.getElem?_eq_none (by omega)]
theorem lJ {l o:List Nat} (hl:∀ c ∈ l,c=48\/c=49) (ho:RowL o):∀ c ∈ written l o,c=48\/c=49:=fun c hc=>by
 unfold written at hc;obtain ⟨⟨a,b⟩,hab,rfl⟩:=List.mem_map.mp hc;obtain ⟨h1,h2⟩:=List.of_mem_zip hab;unfold wSign;split
 ·exact hl a h1
 ·rename_i ne;rcases ho b h2 with z | z | z
  ·exact .inl z
  ·exact .inr z
  ·exact absurd z ne
structure NetW (ps:List Nat) (W:Nat) (N:Net):Prop where
 ok:NetOk N
 width:widthL N.1=W
 over:∀ x ∈ N.2.1,∀ g ∈ x.2.1,∀ r ∈ g.2,OverL ps r.2.2
 spots:(spotsOf N.2.1).length<=20
 told:ps.length<=5
 lt:∀ i ∈ ps,i < W
theorem d5 {N:Net} (ok:NetOk N) {x:Way} (h:x ∈ spotsOf N.2.1):∃ (y:Named) (g:Gate),y ∈ N.2.1/\g ∈ y.2.1/\y.1=x.1/\g.1=x.2/\houseOf N.2.1 x.1=some y.2/\gateOf y.2.1 x.2=some g.2:=by
 have hh:=h;unfold spotsOf at h;obtain ⟨y,hy,hx⟩:=List.mem_flatMap.mp h;obtain ⟨g,hg,rfl⟩:=List.mem_map.mp hx;have e1:houseOf N.2.1 y.1=some y.2:=by
  obtain ⟨i,hi,rfl⟩:=List.getElem_of_mem hy;unfold houseOf;rw [show N.2.1.find? (fun g=>decide (g.1=N.2.1[i].1))=some N.2.1[i] from List.find?_eq_some_iff_append.mpr ⟨by simp,N.2.1.take i,N.2.1.drop (i+1),by simp,fun z hz=>?_⟩]
  ·rfl
  ·obtain ⟨j,hj,rfl⟩:=List.mem_take_iff_getElem.mp hz;have:=List.pairwise_iff_getElem.mp ok.nd j i (by simp; omega) (by simp; omega) (by omega);rw [List.getElem_map,List.getElem_map] at this;simpa using this
 have e2:gateOf y.2.1 g.1=some g.2:=by
  have nd:=(ok.house y hy).nd;obtain ⟨i,hi,rfl⟩:=List.getElem_of_mem hg;unfold gateOf;rw [show y.2.1.find? (fun g=>decide (g.1=y.2.1[i].1))=some y.2.1[i] from List.find?_eq_some_iff_append.mpr ⟨by simp,y.2.1.take i,y.2.1.drop (i+1),by simp,fun z hz=>?_⟩]
  ·rfl
  ·obtain ⟨j,hj,rfl⟩:=List.mem_take_iff_getElem.mp hz;have:=List.pairwise_iff_getElem.mp nd j i (by simp; omega) (by simp; omega) (by omega);rw [List.getElem_map,List.getElem_map] at this;simpa using this
 exact ⟨y,g,hy,hg,rfl,rfl,e1,e2⟩
theorem jB:∀ {ls:List Line} {x y:Way},beyondL ls x=some y->y ∈ endsOf ls
 | [],_,_,h=>by cases h
 | (a,b)::ls,x,y,h=>by
  have e:endsOf ((a,b)::ls)=a::b::endsOf ls:=by unfold endsOf; rw [List.flatMap_cons]; rfl
  rw [e];unfold beyondL at h;split at h
  ·cases h; simp
  ·split at h
   ·cases h; simp
   ·exact List.mem_cons_of_mem _ (List.mem_cons_of_mem _ (jB h))
theorem tz {ls:List Fld} {rs:List Rule} {ws:List Way} {l d l':List Nat} (h:actOf ls rs ws l=.sent d l'):l'=sentT rs l/\∃ r ∈ rs,sentT rs l=written l r.2.2:=by
 unfold actOf at h;split at h
 ·cases h
 ·rename_i nd;split at h
  ·cases h
  ·cases h;refine ⟨rfl,?_⟩;have hj:firstR rs l < rs.length:=by
    rcases Nat.lt_or_ge (firstR rs l) rs.length with z | z
    ·exact z
    ·exfalso;apply nd;unfold dropB;rw [List.getElem?_eq_none z]
   refine ⟨rs[firstR rs l],List.getElem_mem hj,?_⟩;unfold sentT;rw [List.getElem?_eq_getElem hj];rfl
theorem rS {N:Net} {ps l0:List Nat} {W:Nat} (n:NetW ps W N) (hl0:l0.length=W) {s t:Step} (h:InW N ps l0 s) (e:goS N s=.on t):InW N ps l0 t:=by
 obtain ⟨y,g,hy,hg,e1,e2,e3,e4⟩:=d5 n.ok h.spot;have ea:=lP (N:=N) (s:=s) e3 e4;unfold goS at e;rw [ea] at e;cases ec:actOf N.1 g.2 y.2.2 s.2.2 with
 | drop k=>rw [ec] at e; cases e
 | lost=>rw [ec] at e; cases e
 | sent d l=>
  rw [ec] at e;unfold goA at e;dsimp only at e;cases eb:beyondL N.2.2 (s.1,d) with
  | none=>rw [eb] at e; cases e
  | some w=>
   rw [eb] at e;cases e;obtain ⟨rfl,r,hr,es⟩:=tz ec;have rok:=(n.ok.house y hy).rules g hg r hr;have ho:=n.over y hy g hg r hr;have hlen:s.2.2.length=r.2.2.length:=by rw [h.len,hl0,rok.overN,n.width]
   rw [es];refine ⟨n.ok.spots w (jB eb),?_,lJ h.bits rok.over,fun i hi=>?_⟩
   ·show (written s.2.2 r.2.2).length=_;rw [cO hlen];exact h.len
   ·show (written s.2.2 r.2.2)[i]? = _;rw [nF hlen ho i hi];exact h.off i hi
theorem tO {N:Net} {s t:Step} (h:goS N s=.on t):∃ d l w,actS N s=.sent d l/\beyondL N.2.2 (s.1,d)=some w/\t=(w.1,w.2,l):=by
 unfold goS at h;cases e:actS N s with
 | drop n=>rw [e] at h; cases h
 | lost=>rw [e] at h; cases h
 | sent d l=>
  rw [e] at h;unfold goA at h;dsimp only at h;cases eb:beyondL N.2.2 (s.1,d) with
  | none=>rw [eb] at h; cases h
  | some w=>
   rw [eb] at h;cases h;exact ⟨d,l,w,rfl,eb,rfl⟩
def StepAt (H:Hp) (x:Step) (v:V):Prop:=∃ t,v=.ref t/\H t=some (.tup (stepV x))
theorem aY {H H':Hp} (k:∀ t vs,H t=some (.tup vs)->H' t=some (.tup vs)) {tr:List Step} {vs:List V} (p:Paired (StepAt H) tr vs):Paired (StepAt H') tr vs:=
 L2.Paired.mapP p fun _ _ ⟨t,e,h⟩=>⟨t,e,k _ _ h⟩
theorem sx (x s:Step):eqDs ((stepV x).map D.f) ((stepV s).map D.f)=decide (x=s):=by
 have txs:∀ x y:List Nat,eqV (tx x) (tx y)=decide (x=y):=fun x y=>by
  show (st x == st y)=_;rw [Bool.eq_iff_iff,beq_iff_eq,bL,decide_eq_true_eq]
 obtain ⟨a,b,c⟩:=x;obtain ⟨a',b',c'⟩:=s;unfold stepV;simp only [List.map_cons,List.map_nil,eqDs,eqD,txs,Bool.and_true];rw [Bool.eq_iff_iff];simp [Prod.ext_iff]
theorem no {H:Hp} {x:Step} {v:V} (h:StepAt H x v) (s:Step):tupEq H (stepV s) v=decide (x=s):=by
 obtain ⟨t,rfl,e⟩:=h;unfold tupEq;simp only [e];exact sx x s
theorem fM {H:Hp} (s:Step):∀ {tr:List Step} {vs:List V},Paired (StepAt H) tr vs->vs.any (tupEq H (stepV s))=decide (s ∈ tr)
 | _,_,.nil=>rfl
 | x::tr,v::vs,.cons r p=>by
  rw [List.any_cons,no r s,fM s p,Bool.eq_iff_iff,Bool.or_eq_true,decide_eq_true_eq,decide_eq_true_eq,decide_eq_true_eq,List.mem_cons];exact or_congr eq_comm Iff.rfl
theorem jv {H:Hp} (s:Step):∀ {tr:List Step} {vs:List V},Paired (StepAt H) tr vs->vs.findIdx (tupEq H (stepV s))=atS tr s
 | _,_,.nil=>rfl
 | x::tr,v::vs,.cons r p=>by
  unfold atS;rw [List.findIdx_cons,List.findIdx_cons,no r s,jv s p];rfl
theorem gi {H:Hp} {tr:List Step} {vs:List V} (p:Paired (StepAt H) tr vs):∀ y ∈ vs,FlatT H y:=fun y hy=>by
 induction p with
 | nil=>simp at hy
 | cons r p ih=>
  rcases List.mem_cons.mp hy with rfl | hy
  ·obtain ⟨t,rfl,e⟩:=r;exact ⟨t,_,rfl,e,rfl⟩
  ·exact ih hy
theorem fg {α β:Type} {R:α -> β -> Prop}:∀ (n:Nat) {l:List α} {m:List β},Paired R l m->Paired R (l.drop n) (m.drop n)
 | 0,_,_,p=>p
 | n+1,_,_,.nil=>.nil
 | n+1,_,_,.cons _ p=>fg n p
theorem vk {tr:List Step} {s:Step} (h:s ∈ tr):atS tr s < tr.length:=List.findIdx_lt_length.mpr ⟨s,h,by simp⟩
theorem js {xs:List V} {n:Nat} (h:n<=xs.length):cutV xs (some (n:Nat)) none=xs.drop n:=by
 unfold cutV;rw [HT.sIx_nat,HT.sIx_none,Nat.min_eq_left h];exact List.take_of_length_le (by rw [List.length_drop]; exact Nat.le_refl _)
noncomputable def eT (K:Frag):Sp:=fun vs H Q _=>match vs with
 | [.ref p,.ref q]=>∃ (tr:List Step) (s:Step) (xs:List V),H p=some (.lst xs)/\Paired (StepAt H) tr xs/\H q=some (.tup (stepV s))/\s ∈ tr/\tr.length<=1000/\∀ a H',H a=none->Same H H'->H' a=some (.tup (ringV tr s))->Q (.ref a) H'
 | _=>False
theorem mH (T:Top K mg):Callee P w K mg base 1 "ring_end" ["trail", "step"] (eT K):=by
 refine T.jR.cal ng (by intro vs H Q E h; unfold eT at h; split at h <;> first | rfl | exact h.elim) (fun _ _ _ _ _ _ us hl=>match us,hl with | [_,_],_=>rfl) (fun f cdv A outer s H vs Q E hr h=>?_);unfold eT at h;split at h
 case h_2=>exact h.elim
 refine ⟨_,(ai (ap (aq (aa (qs [114,105,110,103]) (aa (aE (ld K rfl rfl) rfl T.pH oD (aa (bu (nt:=1) (fi:=[]) (N':=["past"]) rfl (cscope rfl (by decide +kernel)) (cnames (N:=["trail", "step"]) (sc:=defScope dZ) rfl rfl (by decide +kernel)) (ck (by decide)) (iterE K rfl (bp (slE K rfl) (qv 0) (bx (kC K rfl hr (qv 0) (qv 1))) cp)) (fun _ _ _ _ _=>(aj (i:=0) (by show (["past"]:List Str).Nodup; decide +kernel) rfl lc)) (fun _ _ _ _ _=>bw) (fun _ _ _ _ _=>(ak (ixE K rfl) (qv 0) ae (fun _ _=>rfl)))) ad)) ad))))),?_⟩;rename_i p q;obtain ⟨tr,s',xs,ep,pr,eq,hm,hn,k⟩:=h;have hl:=pr.length;have hlt:=vk hm;walk_at "rd";refine ⟨⟨_,SqL.of ep⟩,_,xs,SqL.of ep,by omega,eq,rfl,gi pr,by rw [fM s' pr]; simpa using hm,?_⟩;rw [jv s' pr];refine ⟨xs,SqL.of ep,fun c hc=>?_⟩;have ec:cutV xs (some (atS tr s':Nat)) none=xs.drop (atS tr s'):=js (by omega);rw [ec];have s1:=ag hc (.lst (xs.drop (atS tr s')));have e1:upd H c (.lst (xs.drop (atS tr s'))) c=some (.lst (xs.drop (atS tr s'))):=upd_same;generalize upd H c (.lst (xs.drop (atS tr s')))=H1 at s1 e1 ⊢;have pd:=fg (atS tr s') (aY (fun _ _ z=>s1 _ _ z) pr);obtain ⟨z1,z2⟩:=b9 pd;have hdl:=pd.length;have hdl2:(tr.drop (atS tr s')).length<=1000:=by rw [List.length_drop]; omega
 refine .inl ⟨⟨_,SqL.of e1⟩,fun D hD=>?_⟩;refine fN (item:=fun x:Step × V=>x.2) (xs:=(tr.drop (atS tr s')).zip (xs.drop (atS tr s'))) (h:=fun x=>[tx x.1.1]) hD (by rw [z1]; exact SqL.of e1) (by rw [List.length_zip]; omega) (fun _=>by simp) ?_ ?_
 ·intro x H2 out non hx s2 ho _;obtain ⟨t,ex,et⟩:=z2 x hx;rw [ex];walk_at "rd";refine ⟨_,_,.inr (SqT.of (s2 _ _ et)),rfl,?_⟩;exact ho _ _ rfl (Same.refl _)
 intro H2 s2 e2;rw [show ((tr.drop (atS tr s')).zip (xs.drop (atS tr s'))).flatMap (fun x=>[tx x.1.1])=((tr.drop (atS tr s')).map (·.1)).map tx by
  rw [ci (fun x:Step × V=>tx x.1.1)]
  conv=>rhs; rw [<- dG (l:=tr.drop (atS tr s')) (m:=xs.drop (atS tr s')) hdl,List.map_map,List.map_map]
  rfl] at e2
 walk_at "rd";refine ⟨_,SqL.of e2,by rw [List.length_map,List.length_drop]; omega,by decide,fun a ha=>?_⟩;have s12:=s1.trans s2;exact k a _ (s12.free ha) (s12.trans (ag ha _)) upd_same
noncomputable def iy (K:Frag):Sp:=fun vs H Q _=>match vs with
 | [.ref t,.str n,.str d,.ref e]=>∃ (N:Net) (s:Step) (a:Act),n=st s.1/\d=st s.2.1/\H t=some (.tup (actV a))/\EndsAt H e N.2.2 /\
   (∀ ev,goA N s a=.stop ev->∀ q H',H q=none->Same H H'->H' q=some (.tup ev)->Q (.ref q) H')/\(∀ t',goA N s a=.on t'->∀ H',Same H H'->Q .non H')
 | _=>False
theorem qa (T:Top K mg):Callee P w K mg base 1 "end_by" ["does", "house", "door", "ends"] (iy K):=by
 refine T.nK.cal pV (by intro vs H Q E h; unfold iy at h; split at h <;> first | rfl | exact h.elim) (fun _ _ _ _ _ _ us hl=>match us,hl with | [_,_,_,_],_=>rfl) (fun f cdv A outer s H vs Q E hr h=>?_);unfold iy at h;split at h
 case h_2=>exact h.elim
 refine ⟨_,(af (aI (aC aN (ak (ixE K rfl) (qv 0) ae (fun _ _=>rfl)) (qs [100,114,111,112])) (ai (ap (aq (aa (qs [100,114,111,112]) (aa (qv 1) (aa (qv 2) (aa (ak (ixE K rfl) (qv 0) ae (fun _ _=>rfl)) ad))))))) au)
   (af (aI (aC aN (ak (ixE K rfl) (qv 0) ae (fun _ _=>rfl)) (qs [108,111,115,116])) (ai (ap (aq (aa (qs [108,111,115,116]) (aa (qv 1) (aa (qv 2) ad)))))) au)
   (af (aI (wF (jo hr) (aq (aa (qv 1) (aa (ak (ixE K rfl) (qv 0) ae (fun _ _=>rfl)) ad))) (qv 3)) (ai (ap fh)) au)
   (ai (ap (aq (aa (qs [111,117,116]) (aa (qv 1) (aa (ak (ixE K rfl) (qv 0) ae (fun _ _=>rfl)) (aa (ak (ixE K rfl) (qv 0) ae (fun _ _=>rfl)) ad)))))))))),?_⟩
 rename_i t n d e;obtain ⟨N,s',a,rfl,rfl,et,hE,q1,q2⟩:=h;walk_at "rd";cases a with
 | drop k=>
  refine ⟨_,_,.inr (SqT.of et),rfl,?_⟩;walk_at "rd";rw [if_pos (by decide)];exact ⟨_,_,.inr (SqT.of et),rfl,by decide,fun p hp=>q1 _ rfl p _ hp (ag hp _) upd_same⟩
 | lost=>
  refine ⟨_,_,.inr (SqT.of et),rfl,?_⟩;walk_at "rd";rw [if_neg (by decide)];refine ⟨_,_,.inr (SqT.of et),rfl,?_⟩;walk_at "rd";rw [if_pos (by decide)];exact ⟨by decide,fun p hp=>q1 _ rfl p _ hp (ag hp _) upd_same⟩
 | sent d l=>
  refine ⟨_,_,.inr (SqT.of et),rfl,?_⟩;walk_at "rd";rw [if_neg (by decide)];refine ⟨_,_,.inr (SqT.of et),rfl,?_⟩;walk_at "rd";rw [if_neg (by decide)];refine ⟨_,_,.inr (SqT.of et),rfl,by decide,fun p hp=>?_⟩;have s1:=ag hp (.tup [V.str (st s'.1),tx d]);have ek:upd H p (.tup [V.str (st s'.1),tx d]) p=some (.tup ((keyW (s'.1,d)).map kV)):=upd_same;generalize upd H p (.tup [V.str (st s'.1),tx d])=H1 at s1 ek ⊢;obtain ⟨kvs,ed,hv⟩:=hE.same s1;refine ⟨_,DGet.t ed ek,?_⟩;have hvx:=hv (s'.1,d);cases eb:beyondL N.2.2 (s'.1,d) with
  | none=>
   rw [eb] at hvx;have hvx:valV kvs (keyW (s'.1,d))=none:=hvx;rw [hvx,if_neg (by simp)];have et1:=s1 _ _ et;refine ⟨_,_,.inr (SqT.of et1),rfl,_,_,.inr (SqT.of et1),rfl,by decide,fun p2 hp2=>?_⟩;exact q1 _ (by unfold goA; dsimp only; rw [eb]; rfl) p2 _ (s1.free hp2) (s1.trans (ag hp2 _)) upd_same
  | some w=>
   rw [eb] at hvx;obtain ⟨u,hu,_⟩:=hvx;rw [hu,if_pos (by simp)];exact q2 (w.1,w.2,l) (by unfold goA; dsimp only; rw [eb]) H1 s1
def HousesD (H:Hp) (d:Addr) (hs:List Named):Prop:=∃ kvs:List (Key × V),H d=some (.dK kvs)/\∀ n h,houseOf hs n=some h->∃ q,valV kvs (.inr (st n))=some (.ref q)/\HouseAt H q h
theorem HousesD.same {H H':Hp} {d:Addr} {hs:List Named} (h:HousesD H d hs) (s:Same H H'):HousesD H' d hs:=by
 obtain ⟨kvs,e,h⟩:=h;exact ⟨kvs,s _ _ e,fun n x e=>let ⟨q,h1,h2⟩:=h n x e; ⟨q,h1,h2.same s⟩⟩
theorem gy {H:Hp}:∀ {hs:List Named} {vs:List V},Paired (NamedAt H) hs vs->∃ kvs:List (Key × V),kvs.map (·.1)=hs.map (fun x=>Sum.inr (st x.1))/\Paired (fun (kv:Key × V) v=>∃ t,v=.ref t/\H t=some (.tup [kV kv.1,kv.2])) kvs vs/\∀ n h,houseOf hs n=some h->∃ q,valV kvs (.inr (st n))=some (.ref q)/\HouseAt H q h
 | _,_,.nil=>⟨[],rfl,.nil,fun n h e=>by simp [houseOf] at e⟩
 | x::hs,_,.cons ⟨t,q,rfl,e,hq⟩ p=>by
  obtain ⟨kvs,h1,h2,h3⟩:=gy p;refine ⟨(.inr (st x.1),.ref q)::kvs,by rw [List.map_cons,List.map_cons,h1],.cons ⟨t,rfl,e⟩ h2,fun n h eh=>?_⟩;unfold houseOf at eh h3;rw [List.find?_cons] at eh;by_cases c:x.1=n
  ·subst c;rw [show decide (x.1=x.1)=true by simp] at eh;cases eh;exact ⟨q,bg rfl,hq⟩
  ·rw [show decide (x.1=n)=false by simp [c]] at eh;obtain ⟨q',e1,e2⟩:=h3 n h eh;refine ⟨q',?_,e2⟩;rw [bf (fun z=>c (bL.mp (Sum.inr.inj z)))];exact e1
noncomputable def keyS (x:Step):List Key:=[.inr (st x.1),.inr (st x.2.1),.inr (st x.2.2)]
theorem rF {x y:Step} (h:keyS x=keyS y):x=y:=by
 obtain ⟨a,b,c⟩:=x;obtain ⟨a',b',c'⟩:=y;unfold keyS at h;simp only [List.cons.injEq,Sum.inr.injEq,bL,and_true] at h;obtain ⟨rfl,rfl,rfl⟩:=h;rfl
theorem hV (s:Step):∀ tr:List Step,(valV (tr.map fun x=>(keyS x,V.bl true)) (keyS s)).isSome=decide (s ∈ tr)
 | []=>rfl
 | x::tr=>by
  rw [List.map_cons];by_cases c:x=s
  ·subst c;rw [bg rfl];simp
  ·rw [bf (fun z=>c (rF z)),hV s tr,Bool.eq_iff_iff,decide_eq_true_eq,decide_eq_true_eq,List.mem_cons];exact ⟨.inr,fun h=>h.resolve_left fun z=>c z.symm⟩
theorem dS {H:Hp}:∀ {tr:List Step} {vs:List V},Paired (fun (kv:List Key × V) v=>∃ b,v=.ref b/\H b=some (.tup (kv.1.map kV))) (tr.map fun x=>(keyS x,V.bl true)) vs->Paired (StepAt H) tr vs
 | [],_,.nil=>.nil
 | x::tr,_,.cons ⟨b,e,h⟩ p=>.cons ⟨b,e,h⟩ (dS p)
theorem pC {N:Net} {ps:List Nat} {W:Nat} (n:NetW ps W N) {y:Named} {g:Gate} (hy:y ∈ N.2.1) (hg:g ∈ y.2.1):Meet N.1 g.2 y.2.2 W:=by
 have ok:=n.ok;have hk:=ok.house y hy;obtain ⟨fa,fb,esp,hab,hb⟩:=ok.lay.to;have w2:=ok.lay.w2;have hw:=n.width;have eG:spanG N.1=(fa,fb):=by unfold spanG; rw [esp]; rfl
 refine ⟨by omega,fun r hr=>?_,fun x hx=>?_,fa,fb,esp,by omega⟩
 ·rw [(hk.rules g hg r hr).overN,n.width]
 ·have:=hk.ways.n x hx;rw [eG] at this;simp only at this;omega
def WalkAt (H:Hp) (q:Addr) (R:List Step × List V):Prop:=∃ p a us,H q=some (.tup [.ref p,.ref a])/\H p=some (.lst us)/\Paired (StepAt H) R.1 us/\H a=some (.tup R.2)
theorem pR {l:List Nat} {W:Nat} (h1:l.length=W) (h2:∀ c ∈ l,c=48\/c=49):textOf (tx l) (W:Int) [48,49]=true:=by
 unfold textOf;simp only [al,Bool.and_eq_true,decide_eq_true_eq,List.all_eq_true];exact ⟨by omega,fun c hc=>by simpa using h2 c hc⟩
noncomputable def eZ (K:Frag):Sp:=fun vs H Q _=>match vs with
 | [.ref t,.str n,.str d,.str l]=>∃ (N:Net) (ps:List Nat) (W:Nat),NetAt H t N/\NetW ps W N/\(n.cps.toList,d.cps.toList) ∈ spotsOf N.2.1/\l.cps.toList.length=W/\(∀ c ∈ l.cps.toList,c=48\/c=49) /\
   ∀ q H',H q=none->Same H H'->WalkAt H' q (walkF N 700 [] (n.cps.toList,d.cps.toList,l.cps.toList))->Q (.ref q) H'
 | _=>False
theorem iG (T:Top K mg):CalleeX P w K mg base 5 "net_walk" ["net", "house", "door", "letter"] (eZ K):=by
 refine T.jU.calX bh (by intro vs H Q E h; unfold eZ at h; split at h <;> first | rfl | exact h.elim) (fun _ _ _ _ _ _ us hl=>match us,hl with | [_,_,_,_],_=>rfl) (fun f cdv A outer s H vs Q E hr h=>?_);unfold eZ at h;split at h
 case h_2=>exact h.elim
 refine ⟨_,(af (bI (fo (kg T) hr.m bN rfl (aa (qv 0) (aa (qv 1) (aa (qv 2) ad)))))
   (af (aI (ic (br (av (lE T) hr.m rfl (aa (qv 3) (aa (av (i0 T) hr.m rfl (aa (ak (ixE K rfl) (qv 0) ae (fun _ _=>rfl)) ad)) ad))))) (ai (gI rfl fO rfl T.jS.1 T.jS.2 (aa (px (cP (qs [110,111,32,108,101,116,116,101,114,32,111,102,32,116,104,101,32,110,101,116,58,32]) (cP (tW hr.gd hr.units0 (qv 3)) lZ))) ad))) au)
   (af (am (i:=4) bh.nd rfl lc (bO (oA rfl) rfl T.sP ul (aa (ak (ixE K rfl) (qv 0) ae (fun _ _=>rfl)) ad)))
   (af (am (i:=5) bh.nd rfl lc (av (lI T) hr.m rfl (aa (qv 0) ad)))
   (af (am (i:=6) bh.nd rfl lc nE)
   (af (am (i:=7) bh.nd rfl lc (aq (aa (qv 1) (aa (qv 2) (aa (qv 3) ad)))))
   (af (nB PassesOwn.leaving (qq (jo hr) (qv 7) (qv 6)) (af (lT (jo hr) (qv 6) (qv 7) dt)
   (af (am (i:=8) bh.nd rfl lc (fo (kj T) hr.m bN rfl (aa (ak (ixE K rfl) (qv 0) ae (fun _ _=>rfl)) (aa (o0 (jo hr) (qv 4) (ak (ixE K rfl) (qv 7) ae (fun _ _=>rfl)) (fun _ _=>rfl)) (aa (ak (ixE K rfl) (qv 7) ae (fun _ _=>rfl)) (aa (ak (ixE K rfl) (qv 7) ae (fun _ _=>rfl)) ad))))))
   (af (am (i:=9) bh.nd rfl lc (av (qa T) hr.m rfl (aa (qv 8) (aa (ak (ixE K rfl) (qv 7) ae (fun _ _=>rfl)) (aa (ak (ixE K rfl) (qv 7) ae (fun _ _=>rfl)) (aa (qv 5) ad))))))
   (af (aI (aC qp (qv 9) fh) (ai (ap (aq (aa (bO (gq rfl) rfl T.fG dB (aa (qv 6) ad)) (aa (qv 9) ad))))) au)
   (ai (am (i:=7) bh.nd rfl lc (aw (uM K rfl) (o0 (jo hr) (qv 5) (aq (aa (ak (ixE K rfl) (qv 7) ae (fun _ _=>rfl)) (aa (ak (ixE K rfl) (qv 8) ae (fun _ _=>rfl)) ad))) (fun _ _=>rfl)) (aq (aa (ak (ixE K rfl) (qv 8) ae (fun _ _=>rfl)) ad))))))))))
   (ai (ap (aq (aa (bO (gq rfl) rfl T.fG dB (aa (qv 6) ad)) (aa (av (mH T) hr.m rfl (aa (bO (gq rfl) rfl T.fG dB (aa (qv 6) ad)) (aa (qv 7) ad))) ad)))))))))))),?_⟩
 rename_i t n d v;obtain ⟨xn,rfl⟩:∃ x,n=st x:=⟨_,(aF n).symm⟩;obtain ⟨xd,rfl⟩:∃ x,d=st x:=⟨_,(aF d).symm⟩;obtain ⟨xl,rfl⟩:∃ x,v=st x:=⟨_,(aF v).symm⟩;obtain ⟨N,ps,W,hN,nw,hsp,hW,hb,q⟩:=h;simp only [al] at hsp hW hb q;have ok:=nw.ok;obtain ⟨y0,g0,hy0,hg0,e1,e2,eh0,eg0⟩:=d5 ok hsp;have lw1:=ok.low y0 hy0;have lw2:=ok.door y0 hy0 g0 hg0;rw [show y0.1=xn from e1] at lw1;rw [show g0.1=xd from e2] at lw2;have eh0:houseOf N.2.1 xn=some y0.2:=eh0;have eg0:gateOf y0.2.1 xd=some g0.2:=eg0;walk_at "rd";refine ⟨N,hN,fun c hc=>(by have:=lw1.1 c (by simpa using hc); omega),by simp only [al]; exact lw1.2,fun c hc=>(by have:=lw2.1 c (by simpa using hc); omega),by simp only [al]; exact lw2.2,fun h eh=>?_,fun z=>(by simp only [al] at z; rw [eh0] at z; cases z)⟩;simp only [al] at eh ⊢;rw [eh0] at eh;cases eh;refine ⟨fun rs er H1 s1=>?_,fun z=>(by rw [eg0] at z; cases z)⟩;obtain ⟨pa,pb,pc,eN,hL,hH,hLn⟩:=hN.same s1;have hlen:=ok.lay.len;have w2:=ok.lay.w2;have hwd:=nw.width;walk_at "rd";refine ⟨_,_,.inr (SqT.of eN),rfl,?_⟩;walk_at "rd";refine ⟨N.1,hL,by omega,fun H2 s2=>?_⟩;rw [hwd];refine ⟨by show (st xl).cps.toList.length<=1000; rw [al]; omega,?_⟩;rw [show textOf (.str (st xl)) (W:Int) [48,49]=true from pR hW hb];walk_at "rd";have s12:=s1.trans s2;have eN2:=s2 _ _ eN;obtain ⟨hv,eh2,ph⟩:=hH.same s2;obtain ⟨kvs,hk1,hk2,hk3⟩:=gy ph;have hkl:kvs.length=N.2.1.length:=by have:=congrArg List.length hk1; simpa using this
 have h100:=ok.h100;refine ⟨_,_,.inr (SqT.of eN2),rfl,?_⟩;walk_at "rd";refine ⟨hv,kvs,eh2,by omega,?_,hk2,fun d1 hd1=>?_⟩
 ·rw [hk1];refine List.pairwise_map.mpr (List.Pairwise.imp_of_mem ?_ (List.pairwise_map.mp ok.nd));intro a b _ _ hab e;exact hab (bL.mp (Sum.inr.inj e))
 have s3:=ag hd1 (.dK kvs);have hHD:HousesD (upd H2 d1 (.dK kvs)) d1 N.2.1:=⟨kvs,upd_same,fun n h e=>let ⟨q,h1,h2⟩:=hk3 n h e; ⟨q,h1,h2.same s3⟩⟩;generalize upd H2 d1 (.dK kvs)=H3 at s3 hHD ⊢;have s13:=s12.trans s3;refine ⟨N,hN.same s13,ok.l500,ok.ends,fun d2 H4 hd2 s4 hE=>?_⟩;have s14:=s13.trans s4;walk_at "rd";intro d3 hd3;have s5:=ag hd3 (.dT []);refine ⟨by decide,fun p0 hp0=>?_⟩;have s6:=ag hp0 (.tup [V.str (st xn),V.str (st xd),V.str (st xl)]);have s56:=s5.trans s6;have hlx:xl.length=W:=hW;refine ⟨fun m σ H'=>∃ (tr:List Step) (x:Step) (p:Addr) (u8 u9:Option V),σ = [some (.ref t),some (.str (st xn)),some (.str (st xd)),some (.str (st xl)),some (.ref d1),some (.ref d2),some (.ref d3),some (.ref p),u8,u9]/\Same H4 H'/\H' d3=some (.dT (tr.map fun x=>(keyS x,V.bl true)))/\H' p=some (.tup (stepV x))/\m+tr.length=700/\walkF N m tr x=walkF N 700 [] (xn,xd,xl)/\tr.Nodup/\(∀ y ∈ tr,InW N ps xl y)/\InW N ps xl x,⟨700,[],(xn,xd,xl),p0,none,none,rfl,s56,s6 _ _ upd_same,upd_same,rfl,rfl,.nil,fun y hy=>by simp at hy,⟨hsp,rfl,hb,fun _ _=>rfl⟩⟩,?_⟩;rintro m σ H5 ⟨tr,x,p,u8,u9,rfl,s45,ed3,ep,hm,hwk,hnd,hin,hx⟩;have few:=jF (hnd) hin (fun i hi=>by rw [hlx]; exact nw.lt i hi);have hfew:tr.length<=640:=by
  refine Nat.le_trans few (Nat.le_trans (Nat.mul_le_mul nw.spots (Nat.pow_le_pow_right (by decide) nw.told)) (by decide))
 have s15:=s14.trans s45;walk_at "rd";refine ⟨_,DGet.t (k:=keyS x) ed3 ep,?_⟩;rw [hV];obtain ⟨m',rfl⟩:∃ m',m=m'+1:=⟨m - 1,by omega⟩;by_cases hx':x ∈ tr
 ·rw [if_neg (by simp [hx'])];rw [im hx'] at hwk;refine ⟨_,ed3,fun p1 vs1 hp1 pv1=>?_⟩;have s7:=ag hp1 (.lst vs1);have e7:upd H5 p1 (.lst vs1) p1=some (.lst vs1):=upd_same;generalize upd H5 p1 (.lst vs1)=H7 at s7 e7 ⊢;refine ⟨_,s7 _ _ ed3,fun p2 vs2 hp2 pv2=>?_⟩;have s8:=ag hp2 (.lst vs2);have e8:upd H7 p2 (.lst vs2) p2=some (.lst vs2):=upd_same;generalize upd H7 p2 (.lst vs2)=H8 at s8 e8 ⊢;refine ⟨tr,x,vs2,e8,aY (fun _ _ z=>s8 _ _ z) (dS pv2),(s7.trans s8) _ _ ep,hx',by omega,fun a H9 ha s9 e9=>⟨by decide,fun q0 hq0=>?_⟩⟩;have sA:=ag hq0 (.tup [V.ref p1,V.ref a]);have s79:=s7.trans (s8.trans s9);refine q q0 _ ((s15.trans s79).free hq0) (s15.trans (s79.trans sA)) ?_;rw [<- hwk];exact ⟨p1,a,vs1,upd_same,sA _ _ ((s8.trans s9) _ _ e7),aY (fun _ _ z=>sA _ _ (s79 _ _ z)) (dS pv1),sA _ _ e9⟩
 ·rw [if_pos (by simp [hx'])];refine ⟨_,fun σ' H' z=>z,?_⟩;have g1:DPut H5 d3 (.ref p) (.bl true) (upd H5 d3 (.dT (putK (tr.map fun x=>(keyS x,V.bl true)) (keyS x) (.bl true)))):=DPut.t (k:=keyS x) ed3 ep (sizeBig (by rw [List.length_map]; omega));have hpk:putK (tr.map fun x=>(keyS x,V.bl true)) (keyS x) (V.bl true)=(tr++[x]).map fun x=>(keyS x,V.bl true):=by
   rw [rB,List.map_append]
   ·rfl
   ·have:=hV x tr;rw [show decide (x ∈ tr)=false by simp [hx']] at this;exact Option.isNone_iff_eq_none.mp (by rw [<- Option.not_isSome]; simp [this])
  rw [hpk] at g1;refine ⟨_,g1,?_⟩;have hd3':H4 d3=none:=hd3;have s6':Same H4 (upd H5 d3 (.dT ((tr++[x]).map fun x=>(keyS x,V.bl true)))):=aW s45 hd3';have e63:upd H5 d3 (.dT ((tr++[x]).map fun x=>(keyS x,V.bl true))) d3=some (.dT ((tr++[x]).map fun x=>(keyS x,V.bl true))):=upd_same;have e6p:upd H5 d3 (.dT ((tr++[x]).map fun x=>(keyS x,V.bl true))) p=some (.tup (stepV x)):=by
   rw [aA (fun z=>by rw [z,ed3] at ep; cases ep)];exact ep
  generalize upd H5 d3 (.dT ((tr++[x]).map fun x=>(keyS x,V.bl true)))=H6 at s6' e63 e6p ⊢;have s16:=s14.trans s6';have eN6:=(s3.trans (s4.trans s6')) _ _ eN2;obtain ⟨y1,g1',hy1,hg1,f1,f2,eh1,eg1⟩:=d5 ok hx.spot;have eh1:houseOf N.2.1 x.1=some y1.2:=eh1;have eg1:gateOf y1.2.1 x.2.1=some g1'.2:=eg1;have lx1:=ok.low y1 hy1;have lx2:=ok.door y1 hy1 g1' hg1;rw [show y1.1=x.1 from f1] at lx1;rw [show g1'.1=x.2.1 from f2] at lx2;obtain ⟨kv6,ekv,hkv⟩:=hHD.same (s4.trans s6');obtain ⟨hq1,ev1,hHa⟩:=hkv x.1 y1.2 eh1;refine ⟨_,_,.inr (SqT.of eN6),rfl,_,_,.inr (SqT.of e6p),rfl,.ref hq1,?_,_,_,.inr (SqT.of e6p),rfl,_,_,.inr (SqT.of e6p),rfl,?_⟩
  ·rw [<- ev1];exact DGet.k (k:=.inr (st x.1)) ekv
  have hlW:x.2.2.length=W:=by rw [hx.len]; exact hlx
  refine ⟨N.1,y1.2,hL.same (s2.trans (s3.trans (s4.trans s6'))),hHa,fun c hc=>(by have:=lx2.1 c (by simpa using hc); omega),by simp only [al]; exact lx2.2,fun rs er=>?_,fun z=>(by simp only [al] at z; rw [eg1] at z; cases z)⟩;simp only [al] at er ⊢;rw [eg1] at er;cases er;refine ⟨by rw [hlW]; exact pC nw hy1 hg1,fun ta H7 hta s7 eta=>?_⟩;rw [mS,<- lP eh1 eg1] at eta;have e7p:=s7 _ _ e6p;refine ⟨_,_,.inr (SqT.of e7p),rfl,_,_,.inr (SqT.of e7p),rfl,?_⟩;walk_at "rd";refine ⟨N,x,actS N x,rfl,rfl,eta,(hE.same s6').same s7,fun ev hev b H8 hb' s8 e8=>?_,fun x2 hon H8 s8=>?_⟩
  ·walk_at "rd";rw [iw hx' hev] at hwk;refine ⟨_,(s7.trans s8) _ _ e63,fun p1 vs1 hp1 pv1=>⟨by decide,fun q0 hq0=>?_⟩⟩;have s9:=ag hp1 (.lst vs1);have sA:=ag hq0 (.tup [V.ref p1,V.ref b]);have s9A:=s9.trans sA;have s6A:=s7.trans (s8.trans s9A);refine q q0 _ ((s16.trans (s7.trans (s8.trans s9))).free hq0) (s16.trans s6A) ?_;rw [<- hwk];exact ⟨p1,b,vs1,upd_same,sA _ _ upd_same,aY (fun _ _ z=>s9A _ _ z) (dS pv1),s9A _ _ e8⟩
  ·walk_at "rd";have s68:=s7.trans s8;have hgo:goS N x=.on x2:=hon;rw [lD hx' hgo] at hwk;have hx2:=rS nw hlx hx hgo;obtain ⟨dd,ll,w,ea,eb,rfl⟩:=tO hgo;have eta8:=s8 _ _ eta;rw [ea] at eta8;refine ⟨_,_,.inr (SqT.of (s68 _ _ e6p)),rfl,_,_,.inr (SqT.of eta8),rfl,by decide,fun p9 hp9=>?_⟩;have s9:=ag hp9 (.tup [tx x.1,tx dd]);have ek:upd H8 p9 (.tup [tx x.1,tx dd]) p9=some (.tup ((keyW (x.1,dd)).map kV)):=upd_same;change ∃ v,DGet (upd H8 p9 (.tup [tx x.1,tx dd])) d2 (.ref p9) (some v)/\_;generalize upd H8 p9 (.tup [tx x.1,tx dd])=H9 at s9 ek ⊢;obtain ⟨kv9,ed9,hv9⟩:=(hE.same s6').same (s68.trans s9);have hvx:=hv9 (x.1,dd);rw [eb] at hvx;obtain ⟨u,hu,tw,rfl,etw⟩:=hvx;refine ⟨.ref tw,by rw [<- hu]; exact DGet.t ed9 ek,?_⟩;have eta9:=s9 _ _ eta8;refine ⟨_,_,.inr (SqT.of eta9),rfl,by decide,fun p10 hp10=>?_⟩;have s10:=ag hp10 (.tup [tx ll]);have e10:upd H9 p10 (.tup [tx ll]) p10=some (.tup [tx ll]):=upd_same;change kCatT K (.ref tw) (.ref p10) (upd H9 p10 (.tup [tx ll])) _;generalize upd H9 p10 (.tup [tx ll])=H10 at s10 e10 ⊢;walk_at "rd";refine ⟨_,_,SqT.of (s10 _ _ etw),SqT.of e10,by simp,by simp,by simp,fun p11 hp11=>?_⟩;have s11:=ag hp11 (.tup ([tx w.1,tx w.2]++[tx ll]));have s611:=s68.trans (s9.trans (s10.trans s11));have hnd2:(tr++[x]).Nodup:=by
    rw [List.nodup_append];exact ⟨hnd,by simp,fun a ha b hb' z=>by rw [List.mem_singleton.mp hb'] at z; exact hx' (z ▸ ha)⟩
   exact ⟨m',by omega,tr++[x],_,p11,_,_,rfl,s6'.trans s611,s611 _ _ e63,upd_same,by rw [List.length_append]; simp; omega,hwk,hnd2,fun y hy=>by
    rcases List.mem_append.mp hy with z | z
    ·exact hin y z
    ·rw [List.mem_singleton.mp z]; exact hx,hx2⟩
noncomputable def cc (K:Frag):Sp:=fun vs H Q _=>match vs with
 | [.ref p,.str n]=>∃ (hs:List Named) (h:House),Houses H p hs/\houseOf hs n.cps.toList=some h/\∀ q,HouseAt H q h->Q (.ref q) H
 | _=>False
theorem hU (T:Top K mg):Callee P w K mg base 1 "_law_house_of" ["_law_houses", "_law_name"] (cc K):=by
 refine T.eI.cal cg (by intro vs H Q E h; unfold cc at h; split at h <;> first | rfl | exact h.elim) (fun _ _ _ _ _ _ us hl=>match us,hl with | [_,_],_=>rfl) (fun f cdv A outer s H vs Q E hr h=>?_);unfold cc at h;split at h
 case h_2=>exact h.elim
 refine ⟨_,(af (bd PassesOwn.never rfl (iterE K rfl (qv 0)) (tupE K rfl rfl (n:=2) (ao (aj (i:=2) cg.nd rfl lc) (ao (aj (i:=3) cg.nd rfl lc) aK))) (ai (aI (aC aN (qv 2) (qv 1)) (ai (ap (qv 3))) au)))
   (ai (ap (aq (aa (aZ ad) (aa (aZ ad) ad)))))),?_⟩
 rename_i p s;obtain ⟨n,rfl⟩:∃ x,s=st x:=⟨_,(aF s).symm⟩;obtain ⟨hs,h,⟨vs,e0,pr⟩,eh,q⟩:=h;simp only [al] at eh;have hl:=pr.length;walk_at "rd";refine .inl ⟨⟨_,SqL.of e0⟩,?_⟩;refine bq (xs:=vs) (fun i σ H'=>∃ u v,σ = [some (.ref p),some (.str (st n)),u,v]/\H'=H/\houseOf (hs.drop i) n=some h) ⟨none,none,rfl,rfl,eh⟩ (fun i σ H' _ ⟨_,_,_,z,_⟩=>by rw [z]; exact SqL.of e0) ?_ ?_
 ·rintro i x σ H1 hx ⟨u,v,rfl,rfl,h1⟩;have hi:i < vs.length:=(List.getElem?_eq_some_iff.mp hx).1;have hil:i < hs.length:=by omega
  obtain ⟨y,hy,t,r,ey,et,hr⟩:=aD pr (List.getElem?_eq_getElem hil);obtain rfl:x=.ref t:=by rw [hy] at hx; rw [<- Option.some.inj hx,ey]
  refine ⟨t,[_,_],rfl,SqT.of et,rfl,_,[_],rfl,_,[],rfl,rfl,?_⟩;walk_at "rd";rw [List.drop_eq_getElem_cons hil] at h1;unfold houseOf at h1 ⊢;rw [List.find?_cons] at h1;refine ite2 (fun g=>?_) fun g=>⟨_,_,rfl,?_⟩
  ·rw [show decide (hs[i].1=n)=true by simpa using g] at h1;cases h1;exact q r hr
  ·rw [show decide (hs[i].1=n)=false by simpa using g] at h1;exact h1
 ·rintro σ H1 ⟨u,v,rfl,rfl,h1⟩;rw [<- hl,List.drop_length] at h1;cases h1
noncomputable def dQ (K:Frag):Sp:=fun vs H Q _=>match vs with
 | [.ref t,.ref sp,.str l]=>∃ (N:Net) (ps:List Nat) (W:Nat) (w:Way),NetAt H t N/\NetW ps W N/\H sp=some (.tup [tx w.1,tx w.2])/\w ∈ spotsOf N.2.1/\l.cps.toList.length=W/\(∀ c ∈ l.cps.toList,c=48\/c=49) /\
   ∀ q H',H q=none->Same H H'->WalkAt H' q (walkF N 700 [] (w.1,w.2,l.cps.toList))->Q (.ref q) H'
 | _=>False
theorem lF (T:Top K mg):Callee P w K mg base 4 "_law_walk" ["_law_net", "_law_spot", "_law_letter"] (dQ K):=by
 refine T.iT.cal aR (by intro vs H Q E h; unfold dQ at h; split at h <;> first | rfl | exact h.elim) (fun _ _ _ _ _ _ us hl=>match us,hl with | [_,_,_],_=>rfl) (fun f cdv A outer s H vs Q E hr h=>?_);unfold dQ at h;split at h
 case h_2=>exact h.elim
 refine ⟨_,(af (ig (qv 0) (seqE K rfl rfl (n:=3) (ao (aj (i:=3) aR.nd rfl lc) (ao (aj (i:=4) aR.nd rfl lc) (ao (aj (i:=5) aR.nd rfl lc) aK)))))
   (af (am (i:=6) aR.nd rfl lc (aZ ad))
   (af (am (i:=7) aR.nd rfl lc (aq (aa (ak (ixE K rfl) (qv 1) ae (fun _ _=>rfl)) (aa (ak (ixE K rfl) (qv 1) ae (fun _ _=>rfl)) (aa (qv 2) ad)))))
   (af (nB PassesOwn.never (aC (qf K rfl hr) (qv 7) (qv 6)) (af (bI (bP (qv 6) (qv 7)))
   (af (am (i:=8) aR.nd rfl lc (av (mq T) hr.m rfl (aa (qv 3) (aa (av (hU T) hr.m rfl (aa (qv 4) (aa (ak (ixE K rfl) (qv 7) ae (fun _ _=>rfl)) ad))) (aa (ak (ixE K rfl) (qv 7) ae (fun _ _=>rfl)) (aa (ak (ixE K rfl) (qv 7) ae (fun _ _=>rfl)) ad))))))
   (af (aI (aC aN (ak (ixE K rfl) (qv 8) ae (fun _ _=>rfl)) (qs [100,114,111,112])) (ai (ap (aq (aa (qv 6) (aa (aq (aa (qs [100,114,111,112]) (aa (ak (ixE K rfl) (qv 7) ae (fun _ _=>rfl)) (aa (ak (ixE K rfl) (qv 7) ae (fun _ _=>rfl)) (aa (ak (ixE K rfl) (qv 8) ae (fun _ _=>rfl)) ad))))) ad))))) au)
   (af (aI (aC aN (ak (ixE K rfl) (qv 8) ae (fun _ _=>rfl)) (qs [108,111,115,116])) (ai (ap (aq (aa (qv 6) (aa (aq (aa (qs [108,111,115,116]) (aa (ak (ixE K rfl) (qv 7) ae (fun _ _=>rfl)) (aa (ak (ixE K rfl) (qv 7) ae (fun _ _=>rfl)) ad)))) ad))))) au)
   (af (am (i:=9) aR.nd rfl lc (av (jE T) hr.m rfl (aa (qv 5) (aa (aq (aa (ak (ixE K rfl) (qv 7) ae (fun _ _=>rfl)) (aa (ak (ixE K rfl) (qv 8) ae (fun _ _=>rfl)) ad))) ad))))
   (af (aI (aC mh (qv 9) fh) (ai (ap (aq (aa (qv 6) (aa (aq (aa (qs [111,117,116]) (aa (ak (ixE K rfl) (qv 7) ae (fun _ _=>rfl)) (aa (ak (ixE K rfl) (qv 8) ae (fun _ _=>rfl)) (aa (ak (ixE K rfl) (qv 8) ae (fun _ _=>rfl)) ad))))) ad))))) au)
   (ai (am (i:=7) aR.nd rfl lc (aq (aa (ak (ixE K rfl) (qv 9) ae (fun _ _=>rfl)) (aa (ak (ixE K rfl) (qv 9) ae (fun _ _=>rfl)) (aa (ak (ixE K rfl) (qv 8) ae (fun _ _=>rfl)) ad)))))))))))))
   (ai (ap (aq (aa (qv 6) (aa (aq (aa (qs [114,105,110,103]) (aa (aE (ld K rfl rfl) rfl T.pH oD (aa (bu (nt:=1) (fi:=[]) (N':=["_law_step"]) rfl (cscope rfl (by decide +kernel)) (cnames (N:=["_law_net", "_law_spot", "_law_letter", "_law_layout", "_law_houses", "_law_lines", "_law_trail", "_law_coming", "_law_does_here", "_law_beyond_here"]) (sc:=defScope cQ) rfl rfl (by decide +kernel)) (ck (by decide)) (iterE K rfl (bp (slE K rfl) (qv 6) (bx (kC K rfl hr (qv 6) (qv 7))) cp)) (fun _ _ _ _ _=>(aj (i:=0) (by show (["_law_step"]:List Str).Nodup; decide +kernel) rfl lc)) (fun _ _ _ _ _=>bw) (fun _ _ _ _ _=>(ak (ixE K rfl) (qv 0) ae (fun _ _=>rfl)))) ad)) ad))) ad))))))))),?_⟩
 rename_i t sp v;obtain ⟨xl,rfl⟩:∃ x,v=st x:=⟨_,(aF v).symm⟩;obtain ⟨N,ps,W,w,hN,nw,esp,hsp,hW,hb,q⟩:=h;simp only [al] at hW hb q;have ok:=nw.ok;obtain ⟨pa,pb,pc,eN,hL,hH,hLn⟩:=id hN;walk_at "rd";refine ⟨[_,_,_],.inr (SqT.of eN),rfl,_,[_,_],rfl,_,[_],rfl,_,[],rfl,rfl,?_⟩;walk_at "rd";refine ⟨by decide,fun g hg=>?_⟩;have s1:=ag hg (.lst []);refine ⟨_,_,.inr (SqT.of (s1 _ _ esp)),rfl,_,_,.inr (SqT.of (s1 _ _ esp)),rfl,by decide,fun p0 hp0=>?_⟩;have s2:=ag hp0 (.tup [tx w.1,tx w.2,V.str (st xl)]);have s12:=s1.trans s2;have hlx:xl.length=W:=hW;refine ⟨fun m σ H'=>∃ (tr:List Step) (x:Step) (p:Addr) (us:List V) (u8 u9:Option V),σ = [some (.ref t),some (.ref sp),some (.str (st xl)),some (.ref pa),some (.ref pb),some (.ref pc),some (.ref g),some (.ref p),u8,u9]/\Same H H'/\H' g=some (.lst us)/\Paired (StepAt H') tr us/\H' p=some (.tup (stepV x))/\m+tr.length=700/\walkF N m tr x=walkF N 700 [] (w.1,w.2,xl)/\tr.Nodup/\(∀ y ∈ tr,InW N ps xl y)/\InW N ps xl x,⟨700,[],(w.1,w.2,xl),p0,[],none,none,rfl,s12,s2 _ _ upd_same,.nil,upd_same,rfl,rfl,.nil,fun y hy=>by simp at hy,⟨hsp,rfl,hb,fun _ _=>rfl⟩⟩,?_⟩;rintro m σ H5 ⟨tr,x,p,us,u8,u9,rfl,s5,eg,pu,ep,hm,hwk,hnd,hin,hx⟩;have few:=jF (hnd) hin (fun i hi=>by rw [hlx]; exact nw.lt i hi);have hfew:tr.length<=640:=by
  refine Nat.le_trans few (Nat.le_trans (Nat.mul_le_mul nw.spots (Nat.pow_le_pow_right (by decide) nw.told)) (by decide))
 obtain ⟨m',rfl⟩:∃ m',m=m'+1:=⟨m - 1,by omega⟩;have hul:=pu.length;walk_at "rd";refine ⟨_,us,SqL.of eg,ep,rfl,gi pu,?_⟩;rw [fM x pu];by_cases hx':x ∈ tr
 ·rw [if_neg (by simp [hx'])];rw [im hx'] at hwk;have hlt:=vk hx';refine ⟨⟨_,SqL.of eg⟩,_,us,SqL.of eg,by omega,ep,rfl,gi pu,by rw [fM x pu]; simpa using hx',?_⟩;rw [jv x pu];refine ⟨us,SqL.of eg,fun c hc=>?_⟩;rw [js (show atS tr x<=us.length by omega)];have s6:=ag hc (.lst (us.drop (atS tr x)));have e6:upd H5 c (.lst (us.drop (atS tr x))) c=some (.lst (us.drop (atS tr x))):=upd_same;generalize upd H5 c (.lst (us.drop (atS tr x)))=H6 at s6 e6 ⊢;have pd:=fg (atS tr x) (aY (fun _ _ z=>s6 _ _ z) pu);obtain ⟨z1,z2⟩:=b9 pd;have hdl:=pd.length;have hdl2:(tr.drop (atS tr x)).length<=1000:=by rw [List.length_drop]; omega
  refine .inl ⟨⟨_,SqL.of e6⟩,fun D hD=>?_⟩;refine fN (item:=fun x:Step × V=>x.2) (xs:=(tr.drop (atS tr x)).zip (us.drop (atS tr x))) (h:=fun x=>[tx x.1.1]) hD (by rw [z1]; exact SqL.of e6) (by rw [List.length_zip]; omega) (fun _=>by simp) ?_ ?_
  ·intro y H7 out non hy s7 ho _;obtain ⟨t',ey,et'⟩:=z2 y hy;rw [ey];walk_at "rd";refine ⟨_,_,.inr (SqT.of (s7 _ _ et')),rfl,?_⟩;exact ho _ _ rfl (Same.refl _)
  intro H7 s7 e7;rw [show ((tr.drop (atS tr x)).zip (us.drop (atS tr x))).flatMap (fun x=>[tx x.1.1])=((tr.drop (atS tr x)).map (·.1)).map tx by
   rw [ci (fun x:Step × V=>tx x.1.1)]
   conv=>rhs; rw [<- dG (l:=tr.drop (atS tr x)) (m:=us.drop (atS tr x)) hdl,List.map_map,List.map_map]
   rfl] at e7
  walk_at "rd";refine ⟨_,SqL.of e7,by rw [List.length_map,List.length_drop]; omega,by decide,fun a ha=>⟨by decide,fun q0 hq0=>?_⟩⟩;have s67:=s6.trans s7;have s8:=ag ha (.tup (ringV tr x));have sA:=ag hq0 (.tup [V.ref g,V.ref a]);have s68:=s67.trans s8;refine q q0 _ ((s5.trans s68).free hq0) (s5.trans (s68.trans sA)) ?_;rw [<- hwk];exact ⟨g,a,us,upd_same,sA _ _ (s68 _ _ eg),aY (fun _ _ z=>sA _ _ (s68 _ _ z)) pu,sA _ _ upd_same⟩
 ·rw [if_pos (by simp [hx'])];refine ⟨_,fun σ' H' z=>z,⟨_,eg⟩,us,eg,sizeBig (by omega),?_⟩;have hg':H g=none:=hg;have s6:Same H (upd H5 g (.lst (us++[.ref p]))):=aW s5 hg';have kt:∀ t ts,H5 t=some (.tup ts)->upd H5 g (.lst (us++[.ref p])) t=some (.tup ts):=gE eg;have e6g:upd H5 g (.lst (us++[.ref p])) g=some (.lst (us++[.ref p])):=upd_same;have e6p:=kt _ _ ep;have p6:Paired (StepAt (upd H5 g (.lst (us++[.ref p])))) (tr++[x]) (us++[.ref p]):=mP (aY kt pu) ⟨p,rfl,e6p⟩;generalize upd H5 g (.lst (us++[.ref p]))=H6 at s6 e6g e6p p6 ⊢;obtain ⟨y1,g1',hy1,hg1,f1,f2,eh1,eg1⟩:=d5 ok hx.spot;have eh1:houseOf N.2.1 x.1=some y1.2:=eh1;have eg1:gateOf y1.2.1 x.2.1=some g1'.2:=eg1;refine ⟨_,_,.inr (SqT.of e6p),rfl,N.2.1,y1.2,hH.same s6,by simp only [al]; exact eh1,fun hq1 hHa=>?_⟩;have hlW:x.2.2.length=W:=by rw [hx.len]; exact hlx
  refine ⟨_,_,.inr (SqT.of e6p),rfl,_,_,.inr (SqT.of e6p),rfl,N.1,y1.2,g1'.2,hL.same s6,hHa,(ok.house y1 hy1).nd,by simp only [al]; exact eg1,by simp only [al]; rw [hlW]; exact pC nw hy1 hg1,fun ta H7 s7 eta=>?_⟩;simp only [al] at eta;rw [mS,<- lP eh1 eg1] at eta;have e7p:=s7 _ _ e6p;have e7g:=s7 _ _ e6g;have p7:=aY (fun _ _ z=>s7 _ _ z) p6;have s17:=s6.trans s7;have fin:∀ {ev:List V} {b:Addr} {H':Hp},goS N x=.stop ev->Same H7 H'->H' b=some (.tup ev)->∀ q0,H' q0=none->Q (.ref q0) (upd H' q0 (.tup [V.ref g,V.ref b])):=fun {ev b H'} hev sH eb q0 hq0=>by
   rw [iw hx' hev] at hwk;have sA:=ag hq0 (.tup [V.ref g,V.ref b]);refine q q0 _ ((s17.trans sH).free hq0) ((s17.trans sH).trans sA) ?_;rw [<- hwk];exact ⟨g,b,_,upd_same,sA _ _ (sH _ _ e7g),aY (fun _ _ z=>sA _ _ (sH _ _ z)) p7,sA _ _ eb⟩
  walk_at "rd";cases ea:actS N x with
  | drop k=>
   rw [ea] at eta;refine ⟨_,_,.inr (SqT.of eta),rfl,?_⟩;walk_at "rd";rw [if_pos (by decide)];refine ⟨_,_,.inr (SqT.of e7p),rfl,_,_,.inr (SqT.of e7p),rfl,_,_,.inr (SqT.of eta),rfl,by decide,fun b hb'=>⟨by decide,fun q0 hq0=>?_⟩⟩;exact fin (by unfold goS; rw [ea]; rfl) (ag hb' _) upd_same q0 hq0
  | lost=>
   rw [ea] at eta;refine ⟨_,_,.inr (SqT.of eta),rfl,?_⟩;walk_at "rd";rw [if_neg (by decide)];refine ⟨_,_,.inr (SqT.of eta),rfl,?_⟩;walk_at "rd";rw [if_pos (by decide)];refine ⟨_,_,.inr (SqT.of e7p),rfl,_,_,.inr (SqT.of e7p),rfl,by decide,fun b hb'=>⟨by decide,fun q0 hq0=>?_⟩⟩;exact fin (by unfold goS; rw [ea]; rfl) (ag hb' _) upd_same q0 hq0
  | sent dd ll=>
   rw [ea] at eta;refine ⟨_,_,.inr (SqT.of eta),rfl,?_⟩;walk_at "rd";rw [if_neg (by decide)];refine ⟨_,_,.inr (SqT.of eta),rfl,?_⟩;walk_at "rd";rw [if_neg (by decide)];refine ⟨_,_,.inr (SqT.of e7p),rfl,_,_,.inr (SqT.of eta),rfl,by decide,fun p8 hp8=>?_⟩;have s8:=ag hp8 (.tup [tx x.1,tx dd]);have e8:upd H7 p8 (.tup [tx x.1,tx dd]) p8=some (.tup [tx x.1,tx dd]):=upd_same;change bS K [.ref pc,.ref p8] (upd H7 p8 (.tup [tx x.1,tx dd])) _ _;generalize upd H7 p8 (.tup [tx x.1,tx dd])=H8 at s8 e8 ⊢;refine ⟨N.2.2,(x.1,dd),hLn.same (s17.trans s8),⟨p8,rfl,e8⟩,fun bv H9 s9 ov=>?_⟩;have s79:=s8.trans s9;have e9p:=s79 _ _ e7p;have eta9:=s79 _ _ eta;cases eb:beyondL N.2.2 (x.1,dd) with
   | none=>
    rw [eb] at ov;rw [show bv=.non from ov];walk_at "rd";refine ⟨_,_,.inr (SqT.of e9p),rfl,_,_,.inr (SqT.of eta9),rfl,_,_,.inr (SqT.of eta9),rfl,by decide,fun b hb'=>⟨by decide,fun q0 hq0=>?_⟩⟩;exact fin (by unfold goS; rw [ea]; unfold goA; dsimp only; rw [eb]; rfl) (s79.trans (ag hb' _)) upd_same q0 hq0
   | some wy=>
    rw [eb] at ov;obtain ⟨tw,rfl,etw⟩:=ov;walk_at "rd";have hgo:goS N x=.on (wy.1,wy.2,ll):=by unfold goS; rw [ea]; unfold goA; dsimp only; rw [eb]
    rw [lD hx' hgo] at hwk;have hx2:=rS nw hlx hx hgo;refine ⟨_,_,.inr (SqT.of etw),rfl,_,_,.inr (SqT.of etw),rfl,_,_,.inr (SqT.of eta9),rfl,by decide,fun p10 hp10=>?_⟩;have s10:=ag hp10 (.tup [tx wy.1,tx wy.2,tx ll]);have s710:=s79.trans s10;have hnd2:(tr++[x]).Nodup:=by
     rw [List.nodup_append];exact ⟨hnd,by simp,fun a ha b hb' z=>by rw [List.mem_singleton.mp hb'] at z; exact hx' (z ▸ ha)⟩
    exact ⟨m',by omega,tr++[x],_,p10,us++[.ref p],_,_,rfl,s17.trans s710,s710 _ _ e7g,aY (fun _ _ z=>s710 _ _ z) p7,upd_same,by rw [List.length_append]; simp; omega,hwk,hnd2,fun y hy=>by
     rcases List.mem_append.mp hy with z | z
     ·exact hin y z
     ·rw [List.mem_singleton.mp z]; exact hx,hx2⟩
noncomputable def fareV (e:List V):List V:=match e with
 | .str h::_=>if h=st outT then e else if h=st ringT then [tx ringT] else [tx lostT]
 | _=>[]
structure EndOk (e:List V):Prop where
 head:∃ h r,e=tx h::r
 flat:e.all flatV=true
 few:e.length<=4
theorem qo {e:List V} (h:EndOk e):(fareV e).all flatV=true/\(fareV e).length<=4:=by
 obtain ⟨h',r,rfl⟩:=h.head;unfold fareV;dsimp only;split
 ·exact ⟨h.flat,h.few⟩
 ·split
  ·exact ⟨rfl,by simp⟩
  ·exact ⟨rfl,by simp⟩
theorem wQ {N:Net} {s:Step} {e:List V} (h:goS N s=.stop e):EndOk e:=by
 unfold goS at h;cases ea:actS N s with
 | drop n=>rw [ea] at h; cases h; exact ⟨⟨_,_,rfl⟩,rfl,by simp⟩
 | lost=>rw [ea] at h; cases h; exact ⟨⟨_,_,rfl⟩,rfl,by simp⟩
 | sent d l=>
  rw [ea] at h;unfold goA at h;dsimp only at h;cases eb:beyondL N.2.2 (s.1,d) with
  | none=>rw [eb] at h; cases h; exact ⟨⟨_,_,rfl⟩,rfl,by simp⟩
  | some w=>rw [eb] at h; cases h
theorem qc {N:Net} {ps l0:List Nat} {W:Nat} (nw:NetW ps W N) (hl0:l0.length=W):∀ (m:Nat) (tr:List Step) (x:Step),m+tr.length=700->tr.Nodup->(∀ y ∈ tr,InW N ps l0 y)->InW N ps l0 x->EndOk (walkF N m tr x).2/\(walkF N m tr x).1.length<=700:=by
 intro m
 induction m with
 | zero=>
  intro tr x hm hnd hin hx;have few:=jF (hnd) hin (fun i hi=>by rw [hl0]; exact nw.lt i hi);have hfew:tr.length<=640:=by
   refine Nat.le_trans few (Nat.le_trans (Nat.mul_le_mul nw.spots (Nat.pow_le_pow_right (by decide) nw.told)) (by decide))
  omega
 | succ m ih=>
  intro tr x hm hnd hin hx;by_cases hx':x ∈ tr
  ·rw [im hx'];exact ⟨⟨⟨_,_,rfl⟩,rfl,by simp [ringV]⟩,by show tr.length<=700; omega⟩
  ·cases eg:goS N x with
   | stop e=>
    rw [iw hx' eg];exact ⟨wQ eg,by show (tr++[x]).length<=700; rw [List.length_append]; simp; omega⟩
   | on t=>
    rw [lD hx' eg];refine ih (tr++[x]) t (by rw [List.length_append]; simp; omega) ?_ (fun y hy=>?_) (rS nw hl0 hx eg)
    ·rw [List.nodup_append];exact ⟨hnd,by simp,fun a ha b hb' z=>by rw [List.mem_singleton.mp hb'] at z; exact hx' (z ▸ ha)⟩
    ·rcases List.mem_append.mp hy with z | z
     ·exact hin y z
     ·rw [List.mem_singleton.mp z]; exact hx
theorem py {N:Net} {ps:List Nat} {W:Nat} (nw:NetW ps W N) {w:Way} {l:List Nat} (hw:w ∈ spotsOf N.2.1) (hl:l.length=W) (hb:∀ c ∈ l,c=48\/c=49):EndOk (walkF N 700 [] (w.1,w.2,l)).2/\(walkF N 700 [] (w.1,w.2,l)).1.length<=700:=
 qc nw (l0:=l) hl 700 [] (w.1,w.2,l) rfl .nil (fun y hy=>by simp at hy) ⟨hw,rfl,hb,fun _ _=>rfl⟩
noncomputable def ff (K:Frag):Sp:=fun vs H Q _=>match vs with
 | [.ref a]=>∃ e,H a=some (.tup e)/\EndOk e/\∀ q H',Same H H'->H' q=some (.tup (fareV e))->Q (.ref q) H'
 | _=>False
theorem nG (T:Top K mg):Callee P w K mg base 1 "fared_by" ["end"] (ff K):=by
 refine T.jY.cal ni (by intro vs H Q E h; unfold ff at h; split at h <;> first | rfl | exact h.elim) (fun _ _ _ _ _ _ us hl=>match us,hl with | [_],_=>rfl) (fun f cdv A outer s H vs Q E hr h=>?_);unfold ff at h;split at h
 case h_2=>exact h.elim
 refine ⟨_,(af (aI (aC aN (ak (ixE K rfl) (qv 0) ae (fun _ _=>rfl)) (qs [111,117,116])) (ai (ap (qv 0))) au)
   (ai (ap (gG (aC aN (ak (ixE K rfl) (qv 0) ae (fun _ _=>rfl)) (qs [114,105,110,103])) (aq (aa (qs [114,105,110,103]) ad)) (aq (aa (qs [108,111,115,116]) ad)))))),?_⟩
 rename_i a;obtain ⟨e,ea,ok,q⟩:=h;obtain ⟨h',r,rfl⟩:=ok.head;walk_at "rd";refine ⟨_,_,.inr (SqT.of ea),bo (j:=0) rfl,?_⟩;walk_at "rd";unfold fareV at q;dsimp only at q;refine ite2 (fun g=>?_) fun g=>?_
 ·rw [if_pos (bL.mpr (show h'=outT from g))] at q;exact q a H (Same.refl _) ea
 ·rw [if_neg (fun z=>g (bL.mp z:h'=outT))] at q;refine ⟨_,_,.inr (SqT.of ea),bo (j:=0) rfl,?_⟩;walk_at "rd";refine ite2 (fun g2=>?_) fun g2=>?_
  ·rw [if_pos (bL.mpr (show h'=ringT from g2))] at q;exact ⟨by decide,fun p hp=>q p _ (ag hp _) upd_same⟩
  ·rw [if_neg (fun z=>g2 (bL.mp z:h'=ringT))] at q;exact ⟨by decide,fun p hp=>q p _ (ag hp _) upd_same⟩
noncomputable def di (K:Frag):Sp:=fun vs H Q _=>match vs with
 | [.ref a]=>∃ e,H a=some (.tup e)/\EndOk e/\∀ q H',Same H H'->H' q=some (.tup (fareV e))->Q (.ref q) H'
 | _=>False
theorem ku (T:Top K mg):Callee P w K mg base 1 "_law_fared" ["_law_end"] (di K):=by
 refine T.gM.cal kw (by intro vs H Q E h; unfold di at h; split at h <;> first | rfl | exact h.elim) (fun _ _ _ _ _ _ us hl=>match us,hl with | [_],_=>rfl) (fun f cdv A outer s H vs Q E hr h=>?_);unfold di at h;split at h
 case h_2=>exact h.elim
 refine ⟨_,(af (aI (aC aN (ak (ixE K rfl) (qv 0) ae (fun _ _=>rfl)) (qs [111,117,116])) (ai (ap (qv 0))) au)
   (af (aI (aC aN (ak (ixE K rfl) (qv 0) ae (fun _ _=>rfl)) (qs [114,105,110,103])) (ai (ap (aq (aa (qs [114,105,110,103]) ad)))) au)
   (ai (ap (aq (aa (qs [108,111,115,116]) ad)))))),?_⟩
 rename_i a;obtain ⟨e,ea,ok,q⟩:=h;obtain ⟨h',r,rfl⟩:=ok.head;walk_at "rd";refine ⟨_,_,.inr (SqT.of ea),bo (j:=0) rfl,?_⟩;walk_at "rd";unfold fareV at q;dsimp only at q;refine ite2 (fun g=>?_) fun g=>?_
 ·rw [if_pos (bL.mpr (show h'=outT from g))] at q;exact q a H (Same.refl _) ea
 ·rw [if_neg (fun z=>g (bL.mp z:h'=outT))] at q;refine ⟨_,_,.inr (SqT.of ea),bo (j:=0) rfl,?_⟩;walk_at "rd";refine ite2 (fun g2=>?_) fun g2=>?_
  ·rw [if_pos (bL.mpr (show h'=ringT from g2))] at q;exact ⟨by decide,fun p hp=>q p _ (ag hp _) upd_same⟩
  ·rw [if_neg (fun z=>g2 (bL.mp z:h'=ringT))] at q;exact ⟨by decide,fun p hp=>q p _ (ag hp _) upd_same⟩
noncomputable def dA (K:Frag):Sp:=fun vs H Q _=>match vs with
 | [.ref t,.str n,.str d,.str l]=>∃ (N:Net) (ps:List Nat) (W:Nat),NetAt H t N/\NetW ps W N/\(n.cps.toList,d.cps.toList) ∈ spotsOf N.2.1/\l.cps.toList.length=W/\(∀ c ∈ l.cps.toList,c=48\/c=49) /\
   ∀ q H',Same H H'->H' q=some (.tup (fareV (walkF N 700 [] (n.cps.toList,d.cps.toList,l.cps.toList)).2))->Q (.ref q) H'
 | _=>False
theorem ly (T:Top K mg):CalleeX P w K mg base 6 "net_fared" ["net", "house", "door", "letter"] (dA K):=by
 refine T.iJ.calX lQ (by intro vs H Q E h; unfold dA at h; split at h <;> first | rfl | exact h.elim) (fun _ _ _ _ _ _ us hl=>match us,hl with | [_,_,_,_],_=>rfl) (fun f cdv A outer s H vs Q E hr h=>?_);unfold dA at h;split at h
 case h_2=>exact h.elim
 refine ⟨_,(ai (ap (av (nG T) hr.m rfl (aa (ak (ixE K rfl) (fo (iG T) hr.m bN rfl (aa (qv 0) (aa (qv 1) (aa (qv 2) (aa (qv 3) ad))))) ae (fun _ _=>rfl)) ad)))),?_⟩;rename_i t n d l;obtain ⟨N,ps,W,hN,nw,hsp,hW,hb,q⟩:=h;have gd:=py nw hsp hW hb;walk_at "rd";refine ⟨N,ps,W,hN,nw,hsp,hW,hb,fun q0 H1 hq0 s1 ⟨p,a,us,e1,e2,e3,e4⟩=>?_⟩;walk_at "rd";refine ⟨_,_,.inr (SqT.of e1),rfl,?_⟩;exact ⟨_,e4,gd.1,fun q1 H2 s2 e5=>q q1 H2 (s1.trans s2) e5⟩
noncomputable abbrev PairN:=Nat × Nat
noncomputable def ringL (m a:Nat):List (PairN × PairN):=((m - 1,1),(0,0))::(List.range (m+a - 1)).map fun j=>if j+1 < m then ((j,1),(j+1,0)) else if j+1=m then ((0,2),(j+1,1)) else ((j,0),(j+1,1))
noncomputable def ringE (m a:Nat):List PairN:=(ringL m a).flatMap fun l=>[l.1,l.2]
theorem qB {m a:Nat} (hm:m < 8) (ha:a < 3) (h1:1<=m):(ringE m a).Nodup/\∀ e ∈ ringE m a,e.1 < m+a/\(e.2 < 2\/e.1=0/\e.2 < 4):=by
 have h:∀ m:Fin 8,∀ a:Fin 3,1<=m.1->(ringE m.1 a.1).Nodup/\(ringE m.1 a.1).all fun e=>decide (e.1 < m.1+a.1/\(e.2 < 2\/e.1=0/\e.2 < 4)):=by decide +kernel
 have:=h ⟨m,hm⟩ ⟨a,ha⟩ h1;exact ⟨this.1,fun e he=>of_decide_eq_true (List.all_eq_true.mp this.2 e he)⟩
theorem jO {α β:Type} {f:α -> β}:∀ {l:List α},l.Nodup->(∀ x ∈ l,∀ y ∈ l,f x=f y->x=y)->(l.map f).Nodup
 | [],_,_=>.nil
 | x::l,h,i=>by
  rw [List.nodup_cons] at h;rw [List.map_cons,List.nodup_cons];refine ⟨fun m=>?_,jO h.2 fun a ha b hb=>i a (List.mem_cons_of_mem _ ha) b (List.mem_cons_of_mem _ hb)⟩;obtain ⟨y,hy,e⟩:=List.mem_map.mp m;exact h.1 (by rw [i x List.mem_cons_self y (List.mem_cons_of_mem _ hy) e.symm]; exact hy)
theorem qV {α:Type} {l f xs:List α} {k:Nat} {v:α} (p:(l++f).Perm xs) (h:l[k]? = some v):(l.eraseIdx k++(f++[v])).Perm xs:=by
 refine List.Perm.trans ?_ p;obtain ⟨hk,rfl⟩:=List.getElem?_eq_some_iff.mp h;have e:l=l.take k++l[k]::l.drop (k+1):=by simp
 conv=>rhs; rw [e]
 rw [List.eraseIdx_eq_take_drop_succ];generalize l.take k=u;generalize l.drop (k+1)=v;generalize l[k]=w;rw [List.append_assoc,List.append_assoc];refine List.Perm.append_left u ?_;rw [List.cons_append,<- List.append_assoc];exact List.perm_append_comm
noncomputable def cJ (K:Frag):Sp:=fun vs H Q _=>match vs with
 | [.ref a,.int k,.ref p]=>∃ (ns:List Int) (k0:Nat) (xs:List V),SqL K H a (ns.map V.int)/\k=(k0:Int)/\k0<=1000/\H p=some (.lst xs)/\xs.length<=100/\∀ q H' ys,H q=none->Same H H'->ys.Perm xs->H' q=some (.lst ys)->Q (.ref q) H'
 | _=>False
theorem aV (T:Top K mg):Callee P w K mg base 2 "_law_turned" ["_law_script", "_law_k", "_law_things"] (cJ K):=by
 refine T.fW.cal bW (by intro vs H Q E h; unfold cJ at h; split at h <;> first | rfl | exact h.elim) (fun _ _ _ _ _ _ us hl=>match us,hl with | [_,_,_],_=>rfl) (fun f cdv A outer s H vs Q E hr h=>?_);unfold cJ at h;split at h
 case h_2=>exact h.elim
 refine ⟨_,(af (am (i:=3) bW.nd rfl lc (bO (jL K rfl rfl) rfl T.fG dB (aa (qv 2) ad)))
   (af (am (i:=4) bW.nd rfl lc (aZ ad))
   (af (bd PassesOwn.never rfl (bC rfl T.b7 (aE (lenE K rfl) rfl T.bF be (aa (qv 2) ad))) (aj (i:=5) bW.nd rfl lc) (ai (bI (bP (qv 4) (rR (qv 3) (av (ar T) hr.m rfl (aa (qv 0) (aa (aw aB (qv 1) (qv 5)) (aa (aE (lenE K rfl) rfl T.bF be (aa (qv 3) ad)) ad)))))))))
   (ai (ap (qv 4)))))),?_⟩
 rename_i a k p;obtain ⟨ns,k0,xs,hS,rfl,hk,e0,hn,q⟩:=h;walk_at "rd";refine ⟨xs,.inl (SqL.of e0),fun g hg=>⟨by decide,fun f hf=>?_⟩⟩;have n1:=ag hg (.lst xs);have hf0:H f=none:=n1.free hf;have s1:=n1.trans (ag hf (.lst []));have ngf:g≠f:=fun z=>by rw [<- z,upd_same] at hf; cases hf
 refine ⟨xs,.inl (SqL.of (s1 _ _ e0)),by omega,by omega,?_⟩;refine dE (fun i σ H'=>∃ (u:Option V) (l fs:List V),σ = [some (.ref a),some (.int k0),some (.ref p),some (.ref g),some (.ref f),u]/\Same H H'/\H' g=some (.lst l)/\H' f=some (.lst fs)/\(l++fs).Perm xs/\l.length+i=xs.length)
  ⟨none,xs,[],rfl,s1,by rw [aA ngf,upd_same],upd_same,by simp,rfl⟩ ?_ ?_
 ·rintro i σ H1 hi ⟨u,l,fs,rfl,s2,e2,e3,pe,hl⟩;have hix:i < xs.length:=by omega
  walk_at "rd";refine ⟨⟨_,e3⟩,⟨_,e2⟩,l,.inl (SqL.of e2),aO (s2.seq hS) (by omega) (by omega) (by omega) (by omega) fun r hr=>?_⟩;have hrl:r < l.length:=by omega
  refine ⟨l,r,_,rfl,e2,by omega,List.getElem?_eq_getElem hrl,fs,by rw [aA ngf.symm]; exact e3,?_,_,_,_,rfl,aW (aW s2 hg) hf0,by rw [aA ngf,upd_same],upd_same,qV pe (List.getElem?_eq_getElem hrl),?_⟩
  ·have:=pe.length_eq;rw [List.length_append] at this;exact Nat.lt_of_le_of_lt (show fs.length<=100 by omega) (by decide)
  ·rw [List.length_eraseIdx,if_pos hrl];omega
 ·rintro σ H1 ⟨u,l,fs,rfl,s2,e2,e3,pe,hl⟩;walk_at "rd";have:l=[]:=List.eq_nil_of_length_eq_zero (by omega);subst this;exact q f H1 fs hf0 s2 (by simpa using pe) e3
theorem rj {ps r:List Nat} {x c:Nat} (h:OverL ps r) (hx:x ∈ ps):OverL ps (r.set x c):=fun j d e n=>by
 by_cases hj:x=j
 ·subst hj;exact hx
 ·rw [List.getElem?_set_ne hj] at e;exact h j d e n
theorem tR {r:List Nat} {x c:Nat} (h:RowL r) (hc:c=48\/c=49):RowL (r.set x c):=fun d hd=>by
 rcases List.mem_or_eq_of_mem_set hd with z | z
 ·exact h d z
 ·rw [z];rcases hc with z | z
  ·exact .inl z
  ·exact .inr (.inl z)
noncomputable def cI (K:Frag):Sp:=fun vs H Q _=>match vs with
 | [.int w,.ref p,.str s]=>∃ (W:Nat) (ps:List Nat),w=(W:Int)/\W<=1000/\SqL K H p (ps.map nV)/\(∀ x ∈ ps,x < W)/\(∀ c ∈ s.cps.toList,c=48\/c=49) /\
   ∀ r H',Same H H'->r.length=W->RowL r->OverL ps r->Q (tx r) H'
 | _=>False
theorem ba (T:Top K mg):Callee P w K mg base 1 "_law_row_at" ["_law_width_here", "_law_places", "_law_signs"] (cI K):=by
 refine T.gb.cal bQ (by intro vs H Q E h; unfold cI at h; split at h <;> first | rfl | exact h.elim) (fun _ _ _ _ _ _ us hl=>match us,hl with | [_,_,_],_=>rfl) (fun f cdv A outer s H vs Q E hr h=>?_);unfold cI at h;split at h
 case h_2=>exact h.elim
 refine ⟨_,(af (am (i:=3) bQ.nd rfl lc (aw u4 (aZ (aa (qs [45]) ad)) (qv 0)))
   (af (bd PassesOwn.never rfl (zipE K rfl rfl T.jX (qv 1) (qv 2)) (tupE K rfl rfl (n:=2) (ao (aj (i:=4) bQ.nd rfl lc) (ao (aj (i:=5) bQ.nd rfl lc) aK))) (ai (ig (qv 5) (vp (qv 3) (qv 4) sG (fun _=>rfl)))))
   (ai (ap (joinE K rfl (qv 3)))))),?_⟩
 rename_i w' p z;obtain ⟨sg,rfl⟩:∃ x,z=st x:=⟨_,(aF z).symm⟩;obtain ⟨W,ps,rfl,hW,hS,hp,hb,q⟩:=h;simp only [al] at hb q;walk_at "rd";refine ⟨by decide,fun p1 hp1=>⟨_,upd_same,by omega,by omega,by decide,fun g hg=>?_⟩⟩;have n1:=ag hp1 (.lst [V.str (st [45])]);have hg0:H g=none:=n1.free hg;have s1:=n1.trans (ag hg (.lst (List.replicate (W:Int).toNat [V.str (st [45])]).flatten));refine ⟨⟨_,s1.seq hS⟩,?_⟩;refine jn (xs:=ps.map nV) (ys:=sg.map fun c=>V.str (st [c])) (fun i σ H'=>∃ (r:List Nat) (u v:Option V),σ = [some (nV W),some (.ref p),some (.str (st sg)),some (.ref g),u,v]/\Same H H'/\H' g=some (.lst (r.map sgn))/\r.length=W/\RowL r/\OverL ps r)
  ⟨List.replicate W 45,none,none,rfl,s1,?_,by simp,fun c hc=>.inr (.inr (List.eq_of_mem_replicate hc)),fun i c e n=>absurd (List.eq_of_mem_replicate (List.mem_of_getElem? e)) n⟩ (fun i σ H' ⟨_,_,_,_,z,_⟩=>⟨z.seq hS,by simp [SrcVals]⟩) ?_ ?_
 ·rw [upd_same,Int.toNat_natCast];simp
 ·rintro i x y σ H1 Tt hx hy ⟨r,u,v,rfl,s2,e2,hl,hc,ho⟩ hT;rw [List.getElem?_map] at hx hy;obtain ⟨x,hxp,rfl⟩:=Option.map_eq_some_iff.mp hx;obtain ⟨c,hcy,rfl⟩:=Option.map_eq_some_iff.mp hy;have hxW:=hp x (List.mem_of_getElem? hxp);walk_at "rd";have e3:=ag hT (.tup [nV x,V.str (st [c])]) _ _ e2;refine ⟨_,x,e3,tp (by rw [List.length_map]; omega),r.set x c,_,_,rfl,aW (s2.trans (ag hT _)) hg0,?_,by rw [List.length_set]; exact hl,tR hc (hb c (List.mem_of_getElem? hcy)),rj ho (List.mem_of_getElem? hxp)⟩;rw [upd_same,List.map_set]
 ·rintro σ H1 ⟨r,u,v,rfl,s2,e2,hl,hc,ho⟩;walk_at "rd";exact ⟨r,SqL.of e2,by omega,q r H1 s2 hl hc ho⟩
def GoodR (W:Nat) (ps:List Nat) (r:Rule):Prop:=RuleOk W r/\OverL ps r.2.2
theorem goodR {W:Nat} {ps a b c:List Nat} (ha:RowL a) (la:a.length=W) (hw:b=passT\/b=dropT) (hc:RowL c) (lc:c.length=W) (o:OverL ps c):GoodR W ps (a,b,c):=⟨⟨ha,la,hw,hc,lc⟩,o⟩
theorem jk {n c:Nat} (h:c=48\/c=49):∀ d ∈ List.replicate n c,d=48\/d=49:=fun d hd=>by rw [List.eq_of_mem_replicate hd]; exact h
theorem kG {n c e:Nat} (h:c=48\/c=49) (h':e=48\/e=49):∀ d ∈ List.replicate n c++[e],d=48\/d=49:=fun d hd=>by
 rcases List.mem_append.mp hd with z | z
 ·exact jk h d z
 ·rw [List.mem_singleton.mp z]; exact h'
theorem lh {ps qs r:List Nat} (h:OverL ps r) (s:∀ x ∈ ps,x ∈ qs):OverL qs r:=fun i c e n=>s _ (h i c e n)
theorem jx (W:Nat):RowL (List.replicate W 45):=fun c hc=>.inr (.inr (List.eq_of_mem_replicate hc))
theorem kY (ps:List Nat) (W:Nat):OverL ps (List.replicate W 45):=fun i c e n=>absurd (List.eq_of_mem_replicate (List.mem_of_getElem? e)) n
noncomputable def cb (K:Frag):Sp:=fun vs H Q _=>match vs with
 | [.ref a,.int w,.ref p,.int g,.int y]=>∃ (ns:List Int) (W g0 y0:Nat) (ps:List Nat),SqL K H a (ns.map V.int)/\w=(W:Int)/\W<=48/\SqL K H p (ps.map nV)/\(∀ x ∈ ps,x < W)/\ps.length<=5/\g=(g0:Int)/\g0 < W/\y=(y0:Int)/\y0<=3 /\
   ∀ q H' rs,H q=none->Same H H'->Rules H' q rs->rs.length<=7->(∀ r ∈ rs,GoodR W (if y0=1\/y0=2 then g0::ps else ps) r)->Q (.ref q) H'
 | _=>False
theorem ie (T:Top K mg):Callee P w K mg base 3 "_law_counting" ["_law_script", "_law_width_here", "_law_places", "_law_goal", "_law_way"] (cb K):=by
 refine T.eJ.cal aM (by intro vs H Q E h; unfold cb at h; split at h <;> first | rfl | exact h.elim) (fun _ _ _ _ _ _ us hl=>match us,hl with | [_,_,_,_,_],_=>rfl) (fun f cdv A outer s H vs Q E hr h=>?_);unfold cb at h;split at h
 case h_2=>exact h.elim
 refine ⟨_,(af (am (i:=5) aM.nd rfl lc (aE (lenE K rfl) rfl T.bF be (aa (qv 2) ad)))
   (af (am (i:=6) aM.nd rfl lc (aZ (aa (aq (aa (av (ba T) hr.m rfl (aa (qv 1) (aa (qv 2) (aa (aw bj (qs [49]) (qv 5)) ad)))) (aa (qs [112,97,115,115]) (aa (av (ba T) hr.m rfl (aa (qv 1) (aa (qv 2) (aa (aw bj (qs [48]) (qv 5)) ad)))) ad)))) ad)))
   (af (bd PassesOwn.never rfl (bC rfl T.b7 (qv 5)) (aj (i:=7) aM.nd rfl lc) (af (am (i:=8) aM.nd rfl lc (av (ba T) hr.m rfl (aa (qv 1) (aa (qv 2) (aa (aw aB (aw bj (qs [49]) (qv 7)) (qs [48])) ad)))))
   (ai (bI (bP (qv 6) (aq (aa (qv 8) (aa (qs [112,97,115,115]) (aa (av (ba T) hr.m rfl (aa (qv 1) (aa (qv 2) (aa (aw aB (aw bj (qs [48]) (qv 7)) (qs [49])) ad)))) ad)))))))))
   (af (am (i:=6) aM.nd rfl lc (av (aV T) hr.m rfl (aa (qv 0) (aa ae (aa (qv 6) ad)))))
   (af (am (i:=9) aM.nd rfl lc (joinE K rfl (bu (nt:=1) (fi:=[0]) (N':=["_law_j", "_law_script"]) rfl (cscope rfl (by decide +kernel)) (cnames (N:=["_law_script", "_law_width_here", "_law_places", "_law_goal", "_law_way", "_law_most", "_law_rules", "_law_at", "_law_row", "_law_value"]) (sc:=defScope bJ) rfl rfl (by decide +kernel)) (ck (by decide)) (bC rfl T.b7 (qv 5)) (fun _ _ _ _ _=>(aj (i:=0) (by show (["_law_j", "_law_script"]:List Str).Nodup; decide +kernel) rfl lc)) (fun _ _ _ _ _=>bw) (fun _ _ _ _ _=>(ak (ixE K rfl) (qs [48,49]) (av (ar T) hr.m rfl (aa (qv 1) (aa (aw aB ae (qv 0)) (aa ae ad)))) (fun _ _=>rfl))))))
   (af (am (i:=8) aM.nd rfl lc (av (ba T) hr.m rfl (aa (qv 1) (aa (qv 2) (aa (qv 9) ad)))))
   (bZ (aI (aC aN (qv 4) ae) (ai (bI (kO (qv 6) ae (aq (aa (qv 8) (aa (qs [100,114,111,112]) (aa (aw bj (qs [45]) (qv 1)) ad))))))) (ai (aI (aC oK (qv 4) ae) (ai (bI (kO (qv 6) ae (aq (aa (qv 8) (aa (qs [112,97,115,115]) (aa (av (ba T) hr.m rfl (aa (qv 1) (aa (aZ (aa (qv 3) ad)) (aa (qs [49]) ad)))) ad))))))) au)))
   (ai (ap (qv 6)))))))))),?_⟩
 rename_i a w' p g' y';obtain ⟨ns,W,g0,y0,ps,hS,rfl,hW,hP,hp,h5,rfl,hgW,rfl,hy,q⟩:=h;walk_at "rd";refine ⟨_,.inl hP,by omega,by rw [List.length_map]; omega,⟨W,ps,rfl,by omega,hP,hp,by rw [al]; exact jk (.inr rfl),fun r1 H1 s1 l1 o1 v1=>⟨by omega,by rw [List.length_map]; omega,W,ps,rfl,by omega,s1.seq hP,hp,by rw [al]; exact jk (.inl rfl),fun r2 H2 s2 l2 o2 v2=>?_⟩⟩⟩;refine ⟨by decide,fun t1 ht1=>⟨by decide,fun g hg=>⟨by omega,by rw [List.length_map]; omega,?_⟩⟩⟩;have s12:=s1.trans s2;have n1:=ag ht1 (.tup [tx r1,V.str (st [112,97,115,115]),tx r2]);have s3:=s12.trans (n1.trans (ag hg (.lst [V.ref t1])));have hg0:H g=none:=(s12.trans n1).free hg;have ngt:t1≠g:=fun z=>by rw [<- z,upd_same] at hg; cases hg
 refine dE (fun i σ H'=>∃ (u v:Option V) (rs:List Rule) (vs:List V),σ = [some (.ref a),some (nV W),some (.ref p),some (nV g0),some (nV y0),some (nV ps.length),some (.ref g),u,v,none]/\Same H H'/\H' g=some (.lst vs)/\Paired (RuleAt H') rs vs/\rs.length=i+1/\∀ r ∈ rs,GoodR W ps r)
  ⟨none,none,[(r1,passT,r2)],[.ref t1],by rw [List.length_map],s3,upd_same,.cons ⟨t1,rfl,by rw [aA ngt,upd_same]; rfl⟩ .nil,rfl,fun r hr=>by rw [List.mem_singleton.mp hr]; exact goodR o1 l1 (.inl rfl) o2 l2 v2⟩ ?_ ?_
 ·rintro i σ H3 hi ⟨u,v,rs,vs,rfl,s4,e4,pr,hl,hok⟩;walk_at "rd";have hi5:i < 5:=by rw [List.length_map] at hi; omega
  refine ⟨by omega,by omega,by simp; omega,W,ps,rfl,by omega,s4.seq hP,hp,by rw [al]; exact kG (.inr rfl) (.inl rfl),fun r3 H4 s5 l3 o3 v3=>⟨⟨_,s5 _ _ e4⟩,by omega,by omega,by simp; omega,W,ps,rfl,by omega,(s4.trans s5).seq hP,hp,by rw [al]; exact kG (.inl rfl) (.inr rfl),fun r4 H5 s6 l4 o4 v4=>⟨by decide,fun t ht=>?_⟩⟩⟩;have n6:=ag ht (.tup [tx r3,V.str (st [112,97,115,115]),tx r4]);have s7:=(s5.trans s6).trans n6;have e7:=s7 _ _ e4;have ntg:t≠g:=fun z=>by rw [z,upd_same] at e7; cases e7
  refine ⟨vs,e7,by rw [<- pr.length,hl]; exact Nat.lt_of_le_of_lt (show i+1<=100 by omega) (by decide),_,_,rs++[(r3,passT,r4)],_,rfl,aW (s4.trans s7) hg0,upd_same,d6 (bK (fun x us hx=>gE e7 x us (s7 _ _ hx)) pr) ⟨t,rfl,by rw [aA ntg,upd_same]; rfl⟩,by rw [List.length_append,hl]; rfl,fun r hr=>?_⟩;rcases List.mem_append.mp hr with z | z
  ·exact hok r z
  ·rw [List.mem_singleton.mp z]; exact goodR o3 l3 (.inl rfl) o4 l4 v4
 ·rintro σ H3 ⟨u,v,rs,vs,rfl,s4,e4,pr,hl,hok⟩;walk_at "rd";rw [List.length_map] at hl;have hvl:=pr.length;refine ⟨ns,40,vs,s4.seq hS,rfl,by decide,e4,by omega,fun q1 H4 vs1 hq1 s5 pm e5=>⟨by omega,by omega,fun D hD=>?_⟩⟩;obtain ⟨rs1,pm1,pr1⟩:=bM pm (L2.paired_flip pr);have pr2:Paired (RuleAt H4) rs1 vs1:=bK (fun t us h=>s5 _ _ h) (L2.paired_flip pr1);have ok1:∀ r ∈ rs1,GoodR W ps r:=fun r hr=>hok r (pm1.mem_iff.mp hr)
  have hl1:rs1.length=ps.length+1:=by rw [pm1.length_eq,hl,Int.toNat_natCast]
  have s45:=s4.trans s5;refine cj (lo:=0) (n:=ps.length) (h:=fun j=>[sgn (48+drawN ns (50+j) 2)]) hD (by omega) (fun _=>by simp) ?_ ?_
  ·intro i H5 out non hi s6 ho _;walk_at "rd";refine oU (k:=50+i) ((s45.trans s6).seq hS) (by omega) (by decide) (by decide) ?_;have h2:=fj ns (50+i) (m:=2) (by decide);walk_at "rd";refine ⟨48+drawN ns (50+i) 2,?_,ho _ _ rfl (Same.refl _)⟩;rcases (by omega:drawN ns (50+i) 2=0\/drawN ns (50+i) 2=1) with z | z <;> rw [z] <;> rfl
  ·intro H5 s6 e6;walk_at "rd";have s46:=s45.trans s6;rw [ci] at e6;have hq0:H q1=none:=s4.free hq1;have nq:H3 q1=none:=hq1;refine ⟨(List.range ps.length).map fun j=>48+drawN ns (50+j) 2,by rw [List.map_map]; exact SqL.of e6,by simp; omega,W,ps,rfl,by omega,s46.seq hP,hp,?_,fun r5 H6 s7 l5 o5 v5=>?_⟩
   ·rw [al];intro c hc;obtain ⟨j,_,rfl⟩:=List.mem_map.mp hc;have h2:=fj ns (50+j) (m:=2) (by decide);omega
   have s47:=s46.trans s7;have e8:=s7 _ _ (s6 _ _ e5);have pr3:Paired (RuleAt H6) rs1 vs1:=bK (fun t us h=>s7 _ _ (s6 _ _ h)) pr2;refine ⟨fun σ' H'=>σ'[6]? = some (some (.ref q1))/\Same H H'/\∃ rs2,Rules H' q1 rs2/\rs2.length<=7/\∀ r ∈ rs2,GoodR W (if y0=1\/y0=2 then g0::ps else ps) r,?_,?_⟩
   ·refine ite2 (fun g1=>?_) fun g1=>ite2 (fun g2=>?_) fun g2=>?_
    ·have ey:y0=0:=by omega
     subst ey;refine ⟨⟨_,e8⟩,by omega,by omega,by decide,fun t ht=>?_⟩;have n9:=ag ht (.tup [tx r5,V.str (st [100,114,111,112]),V.str (st (List.replicate (W:Int).toNat 45))]);have e9:=n9 _ _ e8;have ntq:t≠q1:=fun z=>by rw [z,upd_same] at e9; cases e9
     refine ⟨vs1,0,rfl,e9,by omega,by rw [<- pr3.length]; omega,rfl,aW (s47.trans n9) hq0,(r5,dropT,List.replicate W 45)::rs1,⟨_,upd_same,.cons ⟨t,rfl,?_⟩ (bK (fun x us hx=>gE e9 x us (n9 _ _ hx)) pr3)⟩,by rw [List.length_cons]; omega,fun r hr=>?_⟩
     ·rw [aA ntq,upd_same,Int.toNat_natCast];rfl
     ·rw [if_neg (by decide)];rcases List.mem_cons.mp hr with rfl | z
      ·exact goodR o5 l5 (.inr rfl) (jx W) (by simp) (kY ps W)
      ·exact ok1 r z
    ·have ey:y0=1\/y0=2:=by omega
     rw [if_pos ey];refine ⟨⟨_,e8⟩,by decide,fun d hd=>?_⟩;have n9:=ag hd (.lst [nV g0]);refine ⟨W,[g0],rfl,by omega,SqL.of upd_same,fun x hx=>by rw [List.mem_singleton.mp hx]; exact hgW,by simp,fun r6 H7 s8 l6 o6 v6=>⟨by decide,fun t ht=>?_⟩⟩;have n10:=ag ht (.tup [tx r5,V.str (st [112,97,115,115]),tx r6]);have s9:=(n9.trans s8).trans n10;have e9:=s9 _ _ e8;have ntq:t≠q1:=fun z=>by rw [z,upd_same] at e9; cases e9
     refine ⟨vs1,0,rfl,e9,by omega,by rw [<- pr3.length]; omega,rfl,aW (s47.trans s9) hq0,(r5,passT,r6)::rs1,⟨_,upd_same,.cons ⟨t,rfl,by rw [aA ntq,upd_same]; rfl⟩ (bK (fun x us hx=>gE e9 x us (s9 _ _ hx)) pr3)⟩,by rw [List.length_cons]; omega,fun r hr=>?_⟩;rcases List.mem_cons.mp hr with rfl | z
     ·exact goodR o5 l5 (.inl rfl) o6 l6 (lh v6 fun x hx=>by rw [List.mem_singleton.mp hx]; exact List.mem_cons_self)
     ·exact ⟨(ok1 r z).1,lh (ok1 r z).2 fun x hx=>List.mem_cons_of_mem _ hx⟩
    ·refine ⟨rfl,s47,rs1,⟨vs1,e8,pr3⟩,by omega,fun r hr=>?_⟩;rw [if_neg (by omega)];exact ok1 r hr
   ·rintro σ' H' ⟨e,sf,rs2,R2,l2',ok2⟩;rw [e];exact q q1 H' rs2 hq0 sf R2 l2' ok2
theorem fw {X:Cx} {l:List Stmt} {t u:TS} (h:PSs X l t) (k:∀ D σ H,u D σ H->t D σ H):PSs X l u:=fun p s σ H D I q=>h p s σ H D I (k _ _ _ q)
noncomputable def off (a b:Addr) (H:Hp):Hp:=fun x=>if x=a\/x=b then none else H x
theorem io {a b:Addr} {H:Hp}:Same (off a b H) H:=fun x o h=>by
 unfold off at h;split at h
 ·cases h
 ·exact h
theorem dq {a b:Addr} {H H':Hp} (s:Same H H'):Same (off a b H) (off a b H'):=fun x o h=>by
 unfold off at h ⊢;split at h
 ·cases h
 ·rw [if_neg (by assumption)]; exact s _ _ h
theorem jz {a b x:Addr} {H:Hp} {o:HO} (h:H x=some o) (ha:x≠a) (hb:x≠b):off a b H x=some o:=by
 unfold off;rw [if_neg (by simp [ha,hb])];exact h
theorem xp {a b:Addr} {H:Hp} {o:HO}:off a b (upd H a o)=off a b H:=by
 funext x;unfold off;split
 ·rfl
 ·rw [aA (by rename_i h; exact fun z=>h (.inl z))]
theorem rH {a b:Addr} {H:Hp} {o:HO}:off a b (upd H b o)=off a b H:=by
 funext x;unfold off;split
 ·rfl
 ·rw [aA (by rename_i h; exact fun z=>h (.inr z))]
theorem rK {a b x:Addr} {H:Hp} (h:H x=none):off a b H x=none:=by
 unfold off;split
 ·rfl
 ·exact h
noncomputable def freeR (W:Nat):Rule:=(List.replicate W 45,passT,List.replicate W 45)
noncomputable def at0 (l:List (List Nat)) (i:Nat):List Nat:=l.getD i []
noncomputable def ringAt (m j:Nat):PairN × PairN:=if j+1 < m then ((j,1),(j+1,0)) else if j+1=m then ((0,2),(j+1,1)) else ((j,0),(j+1,1))
noncomputable def spotN (nm ds:List (List Nat)) (x:PairN):Way:=(at0 nm x.1,at0 ds x.2)
noncomputable def lineN (nm ds:List (List Nat)) (x:PairN × PairN):Line:=(spotN nm ds x.1,spotN nm ds x.2)
noncomputable def plainH (W:Nat) (ds:List (List Nat)):House:=([(at0 ds 0,[freeR W]),(at0 ds 1,[])],[([],at0 ds 1)])
noncomputable def housesN (W:Nat) (nm ds:List (List Nat)) (h0:House) (n:Nat):List Named:=(at0 nm 0,h0)::(List.range n).map fun j=>(at0 nm (j+1),plainH W ds)
noncomputable def linesN (m:Nat) (nm ds:List (List Nat)) (n:Nat):List Line:=lineN nm ds ((m - 1,1),(0,0))::(List.range n).map fun j=>lineN nm ds (ringAt m j)
structure RingH (K:Frag) (G:Hp) (a l d n fr:Addr) (ns:List Int) (ls:List Fld) (ds nm:List (List Nat)) (W:Nat):Prop where
 scr:SqL K G a (ns.map V.int)
 lay:Lay G l ls
 doors:G d=some (.lst (ds.map tx))
 names:G n=some (.lst (nm.map tx))
 free:Rules G fr [freeR W]
 d4:Names 4 ds
 n9:Names 9 nm
 w48:W<=48
theorem RingH.same {K:Frag} {G G':Hp} {a l d n fr:Addr} {ns:List Int} {ls:List Fld} {ds nm:List (List Nat)} {W:Nat} (h:RingH K G a l d n fr ns ls ds nm W) (s:Same G G'):RingH K G' a l d n fr ns ls ds nm W:=
 ⟨s.seq h.scr,h.lay.same s,s _ _ h.doors,s _ _ h.names,h.free.same s,h.d4,h.n9,h.w48⟩
def RingQ (D:Ends) (G:Hp) (W m ah:Nat) (ls:List Fld) (ds nm:List (List Nat)) (h0:House):Prop:=
 ∀ q H' hs lns,G q=none->Same G H'->NetAt H' q (ls,hs,lns)->hs.Perm (housesN W nm ds h0 (m+ah - 1))->lns.Perm (linesN m nm ds (m+ah - 1))->D.rt (.ref q) H'
theorem bH {hp lp p:Addr} {H H':Hp} {o u1 u2:HO} (h1:H hp=some u1) (h2:H lp=some u2) (hn:H p=none) (e:H' p=some o):off hp lp H' p=some o:=jz e (az h1 hn).symm (az h2 hn).symm
theorem bD {l:List (List Nat)} {k:Int} {i:Nat} (e:k=(i:Int)) (h:i < l.length):atI (l.map tx) k=some (tx (at0 l i)):=by
 subst e;refine bo ?_;unfold at0;rw [List.getElem?_map,List.getD_eq_getElem?_getD,List.getElem?_eq_getElem h];rfl
theorem gf {H H':Hp} {x:Named} {v:V} (h:NamedAt H x v) (s:Same H H'):NamedAt H' x v:=by
 obtain ⟨t,q,e,h1,h2⟩:=h;exact ⟨t,q,e,s _ _ h1,h2.same s⟩
def RingInv (W m:Nat) (nm ds:List (List Nat)) (h0:House) (hp lp:Addr) (G:Hp) (σ0:Option V->St) (i:Nat) (σ:St) (H':Hp):Prop:=∃ (u:Option V) (hv lv:List V),σ = σ0 u/\Same G (off hp lp H')/\H' hp=some (.lst hv)/\H' lp=some (.lst lv)/\Paired (NamedAt (off hp lp H')) (housesN W nm ds h0 i) hv/\Paired (LineAt (off hp lp H')) (linesN m nm ds i) lv
theorem iq {K:Frag} {G:Hp} {n d lp:Addr} {nm ds:List (List Nat)} {lv:List V} {k1 k2 k3 k4:Int} (x:PairN × PairN) {R:Hp->Prop} (en:G n=some (.lst (nm.map tx))) (ed:G d=some (.lst (ds.map tx))) (el:G lp=some (.lst lv)) (hl:lv.length < sizeLine)
  (c1:k1=(x.1.1:Int)) (c2:k2=(x.1.2:Int)) (c3:k3=(x.2.1:Int)) (c4:k4=(x.2.2:Int)) (b1:x.1.1 < nm.length) (b2:x.1.2 < ds.length) (b3:x.2.1 < nm.length) (b4:x.2.2 < ds.length)
  (fin:∀ p2 H3,Same G H3->G p2=none->(∀ hp u,G hp=some u->LineAt (off hp lp H3) (lineN nm ds x) (.ref p2))->R (upd H3 lp (.lst (lv++[.ref p2])))):
  (∃ xs_1,G lp=some (.lst xs_1))/\∃ xs v,(SqL K G n xs\/SqT K G n xs)/\atI xs k1=some v/\∃ xs_2 v_1,(SqL K G d xs_2\/SqT K G d xs_2)/\atI xs_2 k2=some v_1/\2<=sizeLine/\∀ p,G p=none ->
   ∃ xs_3 v_2,(SqL K (upd G p (.tup [v,v_1])) n xs_3\/SqT K (upd G p (.tup [v,v_1])) n xs_3)/\atI xs_3 k3=some v_2/\∃ xs_4 v_3,(SqL K (upd G p (.tup [v,v_1])) d xs_4\/SqT K (upd G p (.tup [v,v_1])) d xs_4)/\atI xs_4 k4=some v_3/\2<=sizeLine/\∀ p_1,upd G p (.tup [v,v_1]) p_1=none ->
    2<=sizeLine/\∀ p_2,upd (upd G p (.tup [v,v_1])) p_1 (.tup [v_2,v_3]) p_2=none->∃ xs_5,upd (upd (upd G p (.tup [v,v_1])) p_1 (.tup [v_2,v_3])) p_2 (.tup [.ref p,.ref p_1]) lp=some (.lst xs_5)/\xs_5.length < sizeLine/\R (upd (upd (upd (upd G p (.tup [v,v_1])) p_1 (.tup [v_2,v_3])) p_2 (.tup [.ref p,.ref p_1])) lp (.lst (xs_5++[.ref p_2]))):=by
 refine ⟨⟨_,el⟩,_,_,.inl (SqL.of en),bD c1 b1,_,_,.inl (SqL.of ed),bD c2 b2,by decide,fun p hp=>?_⟩;have s1:=ag hp (.tup [tx (at0 nm x.1.1),tx (at0 ds x.1.2)]);have x1:upd G p (.tup [tx (at0 nm x.1.1),tx (at0 ds x.1.2)]) p=some (.tup [tx (at0 nm x.1.1),tx (at0 ds x.1.2)]):=upd_same;generalize upd G p (.tup [tx (at0 nm x.1.1),tx (at0 ds x.1.2)])=G1 at s1 x1 ⊢;refine ⟨_,_,.inl (SqL.of (s1 _ _ en)),bD c3 b3,_,_,.inl (SqL.of (s1 _ _ ed)),bD c4 b4,by decide,fun p1 hp1=>⟨by decide,?_⟩⟩;have s2:=ag hp1 (.tup [tx (at0 nm x.2.1),tx (at0 ds x.2.2)]);have x2:upd G1 p1 (.tup [tx (at0 nm x.2.1),tx (at0 ds x.2.2)]) p1=some (.tup [tx (at0 nm x.2.1),tx (at0 ds x.2.2)]):=upd_same;generalize upd G1 p1 (.tup [tx (at0 nm x.2.1),tx (at0 ds x.2.2)])=G2 at s2 x2 ⊢;intro p2 hp2;have s3:=ag hp2 (.tup [V.ref p,V.ref p1]);have x3:upd G2 p2 (.tup [V.ref p,V.ref p1]) p2=some (.tup [V.ref p,V.ref p1]):=upd_same;generalize upd G2 p2 (.tup [V.ref p,V.ref p1])=G3 at s3 x3 ⊢;have s12:=s1.trans s2;have s13:=s12.trans s3;refine ⟨lv,s13 _ _ el,hl,fin p2 G3 s13 (s12.free hp2) fun h u eh=>⟨p2,.ref p,.ref p1,rfl,bH eh el (s12.free hp2) x3,⟨p,rfl,bH eh el hp (s3 _ _ (s2 _ _ x1))⟩,⟨p1,rfl,bH eh el (s1.free hp1) (s3 _ _ x2)⟩⟩⟩
noncomputable def mRing13 (K:Frag):TS:=fun D σ H=>∀ C:TS,(∀ (a l d n fr hp lp:Addr) (ns:List Int) (ls:List Fld) (ds nm:List (List Nat)) (W m ah:Nat) (h0:House) (o4 o5 o6 o7 o8 o9 o11 o12:Option V) (v0 v1:V),
  RingH K (off hp lp H) a l d n fr ns ls ds nm W->1<=m->m<=7->ah<=2->hp≠lp->H hp=some (.lst [v0])->H lp=some (.lst [v1])->NamedAt (off hp lp H) (at0 nm 0,h0) v0->LineAt (off hp lp H) (lineN nm ds ((m - 1,1),(0,0))) v1->RingQ D (off hp lp H) W m ah ls ds nm h0 ->
  C D [some (.ref a),some (.ref l),some (.ref d),some (.ref n),o4,o5,o6,o7,o8,o9,some (.ref fr),o11,o12,some (nV m),some (nV ah),some (.ref hp),some (.ref lp),none] H)->C D σ H
theorem rb (T:Top K mg) {f:Addr} {cdv:Value} {A:Around} {outer:List Env} {s:Shared} {H₀:Hp} {E:XK} (hr:Room 3 (A.deeper (PyProof.Rows.envOfC "_law_ring" (defScope aL) s.heap.objs.size f cdv))):
  PSs (cxOf CX0 P w K mg base ["_law_script", "_law_layout", "_law_doors", "_law_names_here", "_law_width_here", "_law_first", "_law_behind", "_law_way", "_law_others", "_law_rules", "_law_free", "_law_ways", "_law_gates", "_law_many", "_law_ahead", "_law_houses", "_law_lines", "_law_h"] "_law_ring" (defScope aL) f cdv A outer s H₀ E).nox ((defBody aL).drop 13) (mRing13 K):=by
 refine fw (af (bd PassesOwn.never rfl (qg rfl T.b7 ae (aw aB (qv 13) (qv 14))) (aj (i:=17) aG.nd rfl lc) (af (bI (bP (qv 15) (aq (aa (ak (ixE K rfl) (qv 3) (qv 17) (fun _ _=>rfl)) (aa (aq (aa (aZ (aa (aq (aa (ak (ixE K rfl) (qv 2) ae (fun _ _=>rfl)) (aa (bO (jL K rfl rfl) rfl T.fG dB (aa (qv 10) ad)) ad))) (aa (aq (aa (ak (ixE K rfl) (qv 2) ae (fun _ _=>rfl)) (aa (aZ ad) ad))) ad))) (aa (aZ (aa (aq (aa (qs []) (aa (ak (ixE K rfl) (qv 2) ae (fun _ _=>rfl)) ad))) ad)) ad))) ad)))))
   (ai (aI (aC oK (qv 17) (qv 13)) (ai (bI (bP (qv 16) (aq (aa (aq (aa (ak (ixE K rfl) (qv 3) (aw gJ (qv 17) ae) (fun _ _=>rfl)) (aa (ak (ixE K rfl) (qv 2) ae (fun _ _=>rfl)) ad))) (aa (aq (aa (ak (ixE K rfl) (qv 3) (qv 17) (fun _ _=>rfl)) (aa (ak (ixE K rfl) (qv 2) ae (fun _ _=>rfl)) ad))) ad)))))) (ai (aI (aC aN (qv 17) (qv 13)) (ai (bI (bP (qv 16) (aq (aa (aq (aa (ak (ixE K rfl) (qv 3) ae (fun _ _=>rfl)) (aa (ak (ixE K rfl) (qv 2) ae (fun _ _=>rfl)) ad))) (aa (aq (aa (ak (ixE K rfl) (qv 3) (qv 17) (fun _ _=>rfl)) (aa (ak (ixE K rfl) (qv 2) ae (fun _ _=>rfl)) ad))) ad)))))) (ai (bI (bP (qv 16) (aq (aa (aq (aa (ak (ixE K rfl) (qv 3) (aw gJ (qv 17) ae) (fun _ _=>rfl)) (aa (ak (ixE K rfl) (qv 2) ae (fun _ _=>rfl)) ad))) (aa (aq (aa (ak (ixE K rfl) (qv 3) (qv 17) (fun _ _=>rfl)) (aa (ak (ixE K rfl) (qv 2) ae (fun _ _=>rfl)) ad))) ad))))))))))))
   (ai (ap (aq (aa (qv 1) (aa (av (aV T) hr.m rfl (aa (qv 0) (aa ae (aa (qv 15) ad)))) (aa (av (aV T) hr.m rfl (aa (qv 0) (aa ae (aa (qv 16) ad)))) ad))))))) fun D σ H h=>h _ fun a l d n fr hp lp ns ls ds nm W m ah h0 o4 o5 o6 o7 o8 o9 o11 o12 v0 v1 R m1 m7 a2 nhl ehp elp hN0 hL0 q=>?_
 walk_at "rd";refine ⟨⟨by omega,by omega⟩,?_⟩;rw [show ((m:Int)+ah - 1).toNat=m+ah - 1 by omega];refine dE (RingInv W m nm ds h0 hp lp (off hp lp H) fun u=>[some (.ref a),some (.ref l),some (.ref d),some (.ref n),o4,o5,o6,o7,o8,o9,some (.ref fr),o11,o12,some (nV m),some (nV ah),some (.ref hp),some (.ref lp),u])
  ⟨none,[v0],[v1],rfl,Same.refl _,ehp,elp,.cons hN0 .nil,.cons hL0 .nil⟩ ?_ ?_
 ·rintro i σ H1 hi ⟨u,hv,lv,rfl,s1,e1,e2,p1,p2⟩;have R1:=R.same s1;have ed:=io _ _ R1.doors;have en:=io _ _ R1.names;obtain ⟨fv,ef,pf⟩:=R1.free;have ef1:=io _ _ ef;walk_at "rd";have l9:=R.n9.len;have l4:=R.d4.len;refine ⟨⟨_,e1⟩,_,_,.inl (SqL.of en),bD (i:=i+1) (by omega) (by omega),_,_,.inl (SqL.of ed),bD (i:=0) rfl (by omega),_,.inl (SqL.of ef1),fun a1 h1=>?_⟩;have k1:=ag h1 (.lst fv);have x1:upd H1 a1 (.lst fv) a1=some (.lst fv):=upd_same;generalize upd H1 a1 (.lst fv)=G1 at k1 x1 ⊢;refine ⟨by decide,fun a2 h2=>?_⟩;have k2:=ag h2 (.tup [tx (at0 ds 0),.ref a1]);have x2:upd G1 a2 (.tup [tx (at0 ds 0),.ref a1]) a2=some (.tup [tx (at0 ds 0),.ref a1]):=upd_same;generalize upd G1 a2 (.tup [tx (at0 ds 0),.ref a1])=G2 at k2 x2 ⊢;have j2:=k1.trans k2;refine ⟨_,_,.inl (SqL.of (j2 _ _ ed)),bD (i:=1) rfl (by omega),by decide,fun a3 h3=>?_⟩;have k3:=ag h3 (.lst []);have x3:upd G2 a3 (.lst []) a3=some (.lst []):=upd_same;generalize upd G2 a3 (.lst [])=G3 at k3 x3 ⊢;refine ⟨by decide,fun a4 h4=>?_⟩;have k4:=ag h4 (.tup [tx (at0 ds 1),.ref a3]);have x4:upd G3 a4 (.tup [tx (at0 ds 1),.ref a3]) a4=some (.tup [tx (at0 ds 1),.ref a3]):=upd_same;generalize upd G3 a4 (.tup [tx (at0 ds 1),.ref a3])=G4 at k4 x4 ⊢;refine ⟨by decide,fun a5 h5=>?_⟩;have k5:=ag h5 (.lst [.ref a2,.ref a4]);have x5:upd G4 a5 (.lst [.ref a2,.ref a4]) a5=some (.lst [.ref a2,.ref a4]):=upd_same;generalize upd G4 a5 (.lst [.ref a2,.ref a4])=G5 at k5 x5 ⊢;have j5:=j2.trans (k3.trans (k4.trans k5));refine ⟨_,_,.inl (SqL.of (j5 _ _ ed)),bD (i:=1) rfl (by omega),by decide,fun a6 h6=>?_⟩;have k6:=ag h6 (.tup [V.str (st []),tx (at0 ds 1)]);have x6:upd G5 a6 (.tup [V.str (st []),tx (at0 ds 1)]) a6=some (.tup [V.str (st []),tx (at0 ds 1)]):=upd_same;generalize upd G5 a6 (.tup [V.str (st []),tx (at0 ds 1)])=G6 at k6 x6 ⊢;refine ⟨by decide,fun a7 h7=>?_⟩;have k7:=ag h7 (.lst [.ref a6]);have x7:upd G6 a7 (.lst [.ref a6]) a7=some (.lst [.ref a6]):=upd_same;generalize upd G6 a7 (.lst [.ref a6])=G7 at k7 x7 ⊢;refine ⟨by decide,fun a8 h8=>?_⟩;have k8:=ag h8 (.tup [.ref a5,.ref a7]);have x8:upd G7 a8 (.tup [.ref a5,.ref a7]) a8=some (.tup [.ref a5,.ref a7]):=upd_same;generalize upd G7 a8 (.tup [.ref a5,.ref a7])=G8 at k8 x8 ⊢;refine ⟨by decide,fun a9 h9=>?_⟩;have k9:=ag h9 (.tup [tx (at0 nm (i+1)),.ref a8]);have x9:upd G8 a9 (.tup [tx (at0 nm (i+1)),.ref a8]) a9=some (.tup [tx (at0 nm (i+1)),.ref a8]):=upd_same;generalize upd G8 a9 (.tup [tx (at0 nm (i+1)),.ref a8])=G9 at k9 x9 ⊢;have j9:=j5.trans (k6.trans (k7.trans (k8.trans k9)));have e9:=j9 _ _ e1;have hvl:=p1.length;have lvl:=p2.length;have hhl:(housesN W nm ds h0 i).length=i+1:=by unfold housesN; simp
  have hll:(linesN m nm ds i).length=i+1:=by unfold linesN; simp
  have sm:∀ z:Nat,z<=20->z < sizeLine:=fun z hz=>Nat.lt_of_le_of_lt hz (by decide)
  have nw:NamedAt (off hp lp G9) (at0 nm (i+1),plainH W ds) (.ref a9):=by
   have t8:=k9;have t7:=k8.trans t8;have t6:=k7.trans t7;have t5:=k6.trans t6;have t4:=k5.trans t5;have t3:=k4.trans t4;have t2:=k3.trans t3;have t1:=k2.trans t2;have r3:=j2.trans k3;have r4:=r3.trans k4;have r6:=j5.trans k6;have r7:=r6.trans k7;have r8:=r7.trans k8;refine ⟨a9,a8,rfl,bH e1 e2 (r8.free h9) x9,a5,a7,bH e1 e2 (r7.free h8) (t8 _ _ x8),⟨_,bH e1 e2 (r4.free h5) (t5 _ _ x5),.cons ⟨a2,a1,rfl,bH e1 e2 (k1.free h2) (t2 _ _ x2),fv,bH e1 e2 h1 (t1 _ _ x1),bK (fun t us h=>dq j9 _ _ h) pf⟩ (.cons ⟨a4,a3,rfl,bH e1 e2 (r3.free h4) (t4 _ _ x4),[],bH e1 e2 (j2.free h3) (t3 _ _ x3),.nil⟩ .nil)⟩,⟨_,bH e1 e2 (r6.free h7) (t7 _ _ x7),.cons ⟨a6,rfl,bH e1 e2 (j5.free h6) (t6 _ _ x6)⟩ .nil⟩⟩
  refine ⟨hv,e9,sm _ (by omega),?_⟩;have oo:off hp lp (upd G9 hp (.lst (hv++[V.ref a9])))=off hp lp G9:=xp;have y1:upd G9 hp (.lst (hv++[V.ref a9])) hp=some (.lst (hv++[V.ref a9])):=upd_same;have y2:upd G9 hp (.lst (hv++[V.ref a9])) lp=some (.lst lv):=by rw [aA nhl.symm]; exact j9 _ _ e2
  have y3:upd G9 hp (.lst (hv++[V.ref a9])) n=some (.lst (nm.map tx)):=io _ _ (by rw [oo]; exact dq j9 _ _ R1.names);have y4:upd G9 hp (.lst (hv++[V.ref a9])) d=some (.lst (ds.map tx)):=io _ _ (by rw [oo]; exact dq j9 _ _ R1.doors);generalize upd G9 hp (.lst (hv++[V.ref a9]))=G10 at oo y1 y2 y3 y4 ⊢;have fin:∀ x,ringAt m i=x->∀ p2 H3,Same G10 H3->G10 p2=none->(∀ hp u,G10 hp=some u->LineAt (off hp lp H3) (lineN nm ds x) (.ref p2))->RingInv W m nm ds h0 hp lp (off hp lp H) (fun u=>[some (.ref a),some (.ref l),some (.ref d),some (.ref n),o4,o5,o6,o7,o8,o9,some (.ref fr),o11,o12,some (nV m),some (nV ah),some (.ref hp),some (.ref lp),u]) (i+1) [some (.ref a),some (.ref l),some (.ref d),some (.ref n),o4,o5,o6,o7,o8,o9,some (.ref fr),o11,o12,some (nV m),some (nV ah),some (.ref hp),some (.ref lp),some (.int (1+(i:Int)))] (upd H3 lp (.lst (lv++[.ref p2]))):=by
   rintro x rfl p2' H3 s3 _ hL;have hL':=hL hp _ y1;have so:Same (off hp lp H1) (off hp lp H3):=(dq j9).trans (by rw [<- oo]; exact dq s3);refine ⟨_,hv++[.ref a9],lv++[.ref p2'],rfl,?_,by rw [aA nhl]; exact s3 _ _ y1,upd_same,?_,?_⟩
   ·rw [rH]; exact s1.trans so
   ·rw [rH];unfold housesN;rw [List.range_succ,List.map_append,<- List.cons_append];exact d6 (L2.Paired.mapP p1 fun _ _ z=>gf z so) (gf nw (by rw [<- oo]; exact dq s3))
   ·rw [rH];unfold linesN;rw [List.range_succ,List.map_append,<- List.cons_append];exact d6 (L2.Paired.mapP p2 fun _ _ z=>ir (fun t us h=>so _ _ h) z) hL'
  refine ite2 (fun g1=>?_) fun g1=>ite2 (fun g2=>?_) fun g2=>?_
  ·exact iq ((i,1),(i+1,0)) (R:=RingInv W m nm ds h0 hp lp (off hp lp H) _ (i+1) _) y3 y4 y2 (sm _ (by omega)) (by dsimp only; omega) rfl (by dsimp only; omega) rfl (by dsimp only; omega) (by dsimp only; omega) (by dsimp only; omega) (by dsimp only; omega) (fin _ (by unfold ringAt; rw [if_pos (by omega)]))
  ·exact iq ((0,2),(i+1,1)) (R:=RingInv W m nm ds h0 hp lp (off hp lp H) _ (i+1) _) y3 y4 y2 (sm _ (by omega)) rfl rfl (by dsimp only; omega) rfl (by dsimp only; omega) (by dsimp only; omega) (by dsimp only; omega) (by dsimp only; omega) (fin _ (by unfold ringAt; rw [if_neg (by omega),if_pos (by omega)]))
  ·exact iq ((i,0),(i+1,1)) (R:=RingInv W m nm ds h0 hp lp (off hp lp H) _ (i+1) _) y3 y4 y2 (sm _ (by omega)) (by dsimp only; omega) rfl (by dsimp only; omega) rfl (by dsimp only; omega) (by dsimp only; omega) (by dsimp only; omega) (by dsimp only; omega) (fin _ (by unfold ringAt; rw [if_neg (by omega),if_neg (by omega)]))
 ·rintro σ H1 ⟨u,hv,lv,rfl,s1,e1,e2,p1,p2⟩;have R1:=R.same s1;walk_at "rd";have sS:=R1.scr;have hvl:=p1.length;have lvl:=p2.length;have hhl:(housesN W nm ds h0 (m+ah - 1)).length=m+ah:=by unfold housesN; simp; omega
  have hll:(linesN m nm ds (m+ah - 1)).length=m+ah:=by unfold linesN; simp; omega
  have sf:Same (off hp lp H1) H1:=io;refine ⟨ns,120,hv,sf.seq sS,rfl,by decide,e1,by omega,fun q1 H2 hv1 hq1 s2 pm1 e3=>⟨ns,130,lv,s2.seq (sf.seq sS),rfl,by decide,s2 _ _ e2,by omega,fun q2 H3 lv1 hq2 s3 pm2 e4=>⟨by decide,fun q3 hq3=>?_⟩⟩⟩;have s13:Same (off hp lp H1) (upd H3 q3 (.tup [V.ref l,V.ref q1,V.ref q2])):=sf.trans (s2.trans (s3.trans (ag hq3 _)));obtain ⟨hs1,pe1,pr1⟩:=bM pm1 (L2.paired_flip p1);obtain ⟨ls1,pe2,pr2⟩:=bM pm2 (L2.paired_flip p2);refine q q3 _ hs1 ls1 (s1.free (rK (s2.free (s3.free hq3)))) (s1.trans s13) ⟨l,q1,q2,upd_same,R1.lay.same s13,⟨hv1,ag hq3 _ _ _ (s3 _ _ e3),L2.Paired.mapP (L2.paired_flip pr1) fun _ _ z=>gf z s13⟩,⟨lv1,ag hq3 _ _ _ e4,L2.Paired.mapP (L2.paired_flip pr2) fun _ _ z=>ir (fun t us h=>s13 _ _ h) z⟩⟩ pe1 pe2
theorem RingQ.mono {D:Ends} {G G':Hp} {W m ah:Nat} {ls:List Fld} {ds nm:List (List Nat)} {h0:House} (h:RingQ D G W m ah ls ds nm h0) (s:Same G G'):RingQ D G' W m ah ls ds nm h0:=
 fun q H' hs lns hq s'=>h q H' hs lns (s.free hq) (s.trans s')
def RingQ2 (D:Ends) (G:Hp) (W:Nat) (ls:List Fld) (ds nm:List (List Nat)) (gs:List Gate) (ws:List Way):Prop:=
 ∀ m ah gs' ws',1<=m->m<=7->ah<=2->gs'.Perm gs->ws'.Perm ws->RingQ D G W m ah ls ds nm (gs',ws')
theorem md {hp lp:Addr} {H H':Hp} (s:Same H H') (h1:H hp=none) (h2:H lp=none):Same H (off hp lp H'):=fun b o e=>jz (s _ _ e) (az e h1) (az e h2)
noncomputable def mRing9 (K:Frag):TS:=fun D σ H=>∀ C:TS,(∀ (a l d n fr gp wp:Addr) (ns:List Int) (ls:List Fld) (ds nm:List (List Nat)) (W:Nat) (gs:List Gate) (ws:List Way) (o4 o5 o6 o7 o8 o9:Option V),
  RingH K H a l d n fr ns ls ds nm W->Gates H gp gs->gs.length<=4->Ways H wp ws->ws.length<=2->RingQ2 D H W ls ds nm gs ws ->
  C D [some (.ref a),some (.ref l),some (.ref d),some (.ref n),o4,o5,o6,o7,o8,o9,some (.ref fr),some (.ref wp),some (.ref gp),none,none,none,none,none] H)->C D σ H
theorem uG (T:Top K mg) {f:Addr} {cdv:Value} {A:Around} {outer:List Env} {s:Shared} {H₀:Hp} {E:XK} (hr:Room 3 (A.deeper (PyProof.Rows.envOfC "_law_ring" (defScope aL) s.heap.objs.size f cdv))):
  PSs (cxOf CX0 P w K mg base ["_law_script", "_law_layout", "_law_doors", "_law_names_here", "_law_width_here", "_law_first", "_law_behind", "_law_way", "_law_others", "_law_rules", "_law_free", "_law_ways", "_law_gates", "_law_many", "_law_ahead", "_law_houses", "_law_lines", "_law_h"] "_law_ring" (defScope aL) f cdv A outer s H₀ E).nox ((defBody aL).drop 9) (mRing9 K):=by
 refine fw (af (am (i:=13) aG.nd rfl lc (aw aB ae (av (ar T) hr.m rfl (aa (qv 0) (aa ae (aa ae ad))))))
   (af (am (i:=14) aG.nd rfl lc (av (ar T) hr.m rfl (aa (qv 0) (aa ae (aa ae ad)))))
   (af (am (i:=15) aG.nd rfl lc (aZ (aa (aq (aa (ak (ixE K rfl) (qv 3) ae (fun _ _=>rfl)) (aa (aq (aa (av (aV T) hr.m rfl (aa (qv 0) (aa ae (aa (qv 12) ad)))) (aa (av (aV T) hr.m rfl (aa (qv 0) (aa ae (aa (qv 11) ad)))) ad))) ad))) ad)))
   (af (am (i:=16) aG.nd rfl lc (aZ (aa (aq (aa (aq (aa (ak (ixE K rfl) (qv 3) (aw gJ (qv 13) ae) (fun _ _=>rfl)) (aa (ak (ixE K rfl) (qv 2) ae (fun _ _=>rfl)) ad))) (aa (aq (aa (ak (ixE K rfl) (qv 3) ae (fun _ _=>rfl)) (aa (ak (ixE K rfl) (qv 2) ae (fun _ _=>rfl)) ad))) ad))) ad)))
   (rb T hr))))) fun D σ H h=>h _ fun a l d n fr gp wp ns ls ds nm W gs ws o4 o5 o6 o7 o8 o9 R hG g4 hW w2 q=>?_
 walk_at "rd";have l9:=R.n9.len;have l4:=R.d4.len;obtain ⟨gv,eg,pg⟩:=hG;obtain ⟨wv,ew,pw⟩:=hW;have gvl:=pg.length;have wvl:=pw.length;refine aO R.scr (by decide) (by decide) (by decide) (by decide) fun r1 hr1=>?_
 walk_at "rd";refine aO R.scr (by decide) (by decide) (by decide) (by decide) fun ah hah=>?_
 refine ⟨_,_,.inl (SqL.of R.names),bD (i:=0) rfl (by omega),ns,110,gv,R.scr,rfl,by decide,eg,by omega,fun g1 H1 gv1 hg1 s1 pm1 e1=>⟨ns,114,wv,s1.seq R.scr,rfl,by decide,s1 _ _ ew,by omega,fun w1 H2 wv1 hw1 s2 pm2 e2=>⟨by decide,fun a1 h1=>?_⟩⟩⟩;have s12:=s1.trans s2;have k1:=ag h1 (.tup [V.ref g1,V.ref w1]);have x1:upd H2 a1 (.tup [V.ref g1,V.ref w1]) a1=some (.tup [V.ref g1,V.ref w1]):=upd_same;generalize upd H2 a1 (.tup [V.ref g1,V.ref w1])=G1 at k1 x1 ⊢;refine ⟨by decide,fun a2 h2=>?_⟩;have k2:=ag h2 (.tup [tx (at0 nm 0),V.ref a1]);have x2:upd G1 a2 (.tup [tx (at0 nm 0),V.ref a1]) a2=some (.tup [tx (at0 nm 0),V.ref a1]):=upd_same;generalize upd G1 a2 (.tup [tx (at0 nm 0),V.ref a1])=G2 at k2 x2 ⊢;refine ⟨by decide,fun hp h3=>?_⟩;have k3:=ag h3 (.lst [V.ref a2]);have x3:upd G2 hp (.lst [V.ref a2]) hp=some (.lst [V.ref a2]):=upd_same;generalize upd G2 hp (.lst [V.ref a2])=G3 at k3 x3 ⊢;have j2:=s12.trans (k1.trans k2);have j3:=j2.trans k3;walk_at "rd";have en:=j3 _ _ R.names;have ed:=j3 _ _ R.doors;rw [show (1+(r1:Int) - 1)=(r1:Int) by omega,show (1+(r1:Int))=((1+r1:Nat):Int) by omega];refine ⟨_,_,.inl (SqL.of en),bD (i:=r1) rfl (by omega),_,_,.inl (SqL.of ed),bD (i:=1) rfl (by omega),by decide,fun a4 h4=>?_⟩;have k4:=ag h4 (.tup [tx (at0 nm r1),tx (at0 ds 1)]);have x4:upd G3 a4 (.tup [tx (at0 nm r1),tx (at0 ds 1)]) a4=some (.tup [tx (at0 nm r1),tx (at0 ds 1)]):=upd_same;generalize upd G3 a4 (.tup [tx (at0 nm r1),tx (at0 ds 1)])=G4 at k4 x4 ⊢;refine ⟨_,_,.inl (SqL.of (k4 _ _ en)),bD (i:=0) rfl (by omega),_,_,.inl (SqL.of (k4 _ _ ed)),bD (i:=0) rfl (by omega),by decide,fun a5 h5=>?_⟩;have k5:=ag h5 (.tup [tx (at0 nm 0),tx (at0 ds 0)]);have x5:upd G4 a5 (.tup [tx (at0 nm 0),tx (at0 ds 0)]) a5=some (.tup [tx (at0 nm 0),tx (at0 ds 0)]):=upd_same;generalize upd G4 a5 (.tup [tx (at0 nm 0),tx (at0 ds 0)])=G5 at k5 x5 ⊢;refine ⟨by decide,fun a6 h6=>?_⟩;have k6:=ag h6 (.tup [V.ref a4,V.ref a5]);have x6:upd G5 a6 (.tup [V.ref a4,V.ref a5]) a6=some (.tup [V.ref a4,V.ref a5]):=upd_same;generalize upd G5 a6 (.tup [V.ref a4,V.ref a5])=G6 at k6 x6 ⊢;refine ⟨by decide,fun lp h7=>?_⟩;have k7:=ag h7 (.lst [V.ref a6]);have x7:upd G6 lp (.lst [V.ref a6]) lp=some (.lst [V.ref a6]):=upd_same;generalize upd G6 lp (.lst [V.ref a6])=G7 at k7 x7 ⊢;have k46:=k4.trans (k5.trans k6);have k36:=k3.trans k46;have k37:=k36.trans k7;have hp2:H hp=none:=j2.free h3;have hl2:H lp=none:=j2.free (k36.free h7);have so:Same H (off hp lp G7):=md (j2.trans k37) hp2 hl2;have so2:Same H2 (off hp lp G7):=md ((k1.trans k2).trans k37) ((k1.trans k2).free h3) ((k1.trans k2).free (k36.free h7));have so3:Same G2 (off hp lp G7):=md k37 h3 (k36.free h7);have nhl:hp≠lp:=fun z=>by rw [<- z] at h7; rw [k46 _ _ x3] at h7; cases h7
 obtain ⟨gs1,pe1,pr1⟩:=bM pm1 (L2.paired_flip pg);obtain ⟨ws1,pe2,pr2⟩:=bM pm2 (L2.paired_flip pw);have hG1:Gates H2 g1 gs1:=⟨gv1,s2 _ _ e1,L2.Paired.mapP (L2.paired_flip pr1) fun _ _ ⟨t,p,e,z1,z2⟩=>⟨t,p,e,s12 _ _ z1,z2.same s12⟩⟩;have hW1:Ways H2 w1 ws1:=⟨wv1,e2,kL (fun t us h=>s12 _ _ h) (L2.paired_flip pr2)⟩;refine fun C hC=>hC a l d n fr hp lp ns ls ds nm W (1+r1) ah (gs1,ws1) o4 o5 o6 o7 o8 o9 _ _ _ _ (R.same so) (by omega) (by omega) (by omega) nhl (k7 _ _ (k46 _ _ x3)) x7 ⟨a2,a1,rfl,so3 _ _ x2,g1,w1,so3 _ _ (k2 _ _ x1),hG1.same so2,hW1.same so2⟩ ?_ ((q (1+r1) ah gs1 ws1 (by omega) (by omega) (by omega) pe1 pe2).mono so)
 rw [show 1+r1 - 1=r1 by omega];have y4:=k6 _ _ (k5 _ _ x4);have y5:=k6 _ _ x5;refine ⟨a6,V.ref a4,V.ref a5,rfl,jz (k7 _ _ x6) (az ((k4.trans k5) _ _ x3) h6).symm (az x6 h7),⟨a4,rfl,jz (k7 _ _ y4) (az x3 h4).symm (az y4 h7)⟩,⟨a5,rfl,jz (k7 _ _ y5) (az (k4 _ _ x3) h5).symm (az y5 h7)⟩⟩
noncomputable def gatesN (ds:List (List Nat)) (W:Nat) (rs:List Rule):List Gate:=[(at0 ds 0,rs),(at0 ds 1,[]),(at0 ds 2,[freeR W]),(at0 ds 3,[freeR W])]
noncomputable def waysN (ds:List (List Nat)) (y:Nat):List Way:=if y=1 then [([48],at0 ds 1),([49],at0 ds 3)] else [([48],at0 ds 1)]
noncomputable def mRing5 (K:Frag):TS:=fun D σ H=>∀ C:TS,(∀ (a l d n rp:Addr) (ns:List Int) (ls:List Fld) (ds nm:List (List Nat)) (W y:Nat) (rs:List Rule) (o5 o6 o8:Option V),
  SqL K H a (ns.map V.int)->Lay H l ls->H d=some (.lst (ds.map tx))->H n=some (.lst (nm.map tx))->Names 4 ds->Names 9 nm->W<=48->Rules H rp rs->RingQ2 D H W ls ds nm (gatesN ds W rs) (waysN ds y) ->
  C D [some (.ref a),some (.ref l),some (.ref d),some (.ref n),some (nV W),o5,o6,some (nV y),o8,some (.ref rp),none,none,none,none,none,none,none,none] H)->C D σ H
theorem RingQ2.mono {D:Ends} {G G':Hp} {W:Nat} {ls:List Fld} {ds nm:List (List Nat)} {gs:List Gate} {ws:List Way} (h:RingQ2 D G W ls ds nm gs ws) (s:Same G G'):RingQ2 D G' W ls ds nm gs ws:=
 fun m ah gs' ws' m1 m7 a2 p1 p2=>(h m ah gs' ws' m1 m7 a2 p1 p2).mono s
theorem uW (T:Top K mg) {f:Addr} {cdv:Value} {A:Around} {outer:List Env} {s:Shared} {H₀:Hp} {E:XK} (hr:Room 3 (A.deeper (PyProof.Rows.envOfC "_law_ring" (defScope aL) s.heap.objs.size f cdv))):
  PSs (cxOf CX0 P w K mg base ["_law_script", "_law_layout", "_law_doors", "_law_names_here", "_law_width_here", "_law_first", "_law_behind", "_law_way", "_law_others", "_law_rules", "_law_free", "_law_ways", "_law_gates", "_law_many", "_law_ahead", "_law_houses", "_law_lines", "_law_h"] "_law_ring" (defScope aL) f cdv A outer s H₀ E).nox ((defBody aL).drop 5) (mRing5 K):=by
 refine fw (af (am (i:=10) aG.nd rfl lc (aZ (aa (aq (aa (aw bj (qs [45]) (qv 4)) (aa (qs [112,97,115,115]) (aa (aw bj (qs [45]) (qv 4)) ad)))) ad)))
   (af (am (i:=11) aG.nd rfl lc (aZ (aa (aq (aa (qs [48]) (aa (ak (ixE K rfl) (qv 2) ae (fun _ _=>rfl)) ad))) ad)))
   (bZ (aI (aC aN (qv 7) ae) (ai (bI (bP (qv 11) (aq (aa (qs [49]) (aa (ak (ixE K rfl) (qv 2) ae (fun _ _=>rfl)) ad)))))) au)
   (af (am (i:=12) aG.nd rfl lc (aZ (aa (aq (aa (ak (ixE K rfl) (qv 2) ae (fun _ _=>rfl)) (aa (qv 9) ad))) (aa (aq (aa (ak (ixE K rfl) (qv 2) ae (fun _ _=>rfl)) (aa (aZ ad) ad))) (aa (aq (aa (ak (ixE K rfl) (qv 2) ae (fun _ _=>rfl)) (aa (qv 10) ad))) (aa (aq (aa (ak (ixE K rfl) (qv 2) ae (fun _ _=>rfl)) (aa (qv 10) ad))) ad))))))
   (uG T hr))))) fun D σ H h=>h _ fun a l d n rp ns ls ds nm W y rs o5 o6 o8 hS hL ed en d4 n9 w48 hR q=>?_
 have l9:=n9.len;have l4:=d4.len;walk_at "rd";rw [Int.toNat_natCast];refine ⟨by omega,by omega,by omega,by omega,by decide,fun a1 h1=>?_⟩;have k1:=ag h1 (.tup [V.str (st (List.replicate W 45)),V.str (st [112,97,115,115]),V.str (st (List.replicate W 45))]);have x1:upd H a1 (.tup [V.str (st (List.replicate W 45)),V.str (st [112,97,115,115]),V.str (st (List.replicate W 45))]) a1=some (.tup [V.str (st (List.replicate W 45)),V.str (st [112,97,115,115]),V.str (st (List.replicate W 45))]):=upd_same;generalize upd H a1 (.tup [V.str (st (List.replicate W 45)),V.str (st [112,97,115,115]),V.str (st (List.replicate W 45))])=G1 at k1 x1 ⊢;refine ⟨by decide,fun fr h2=>?_⟩;have k2:=ag h2 (.lst [V.ref a1]);have x2:upd G1 fr (.lst [V.ref a1]) fr=some (.lst [V.ref a1]):=upd_same;generalize upd G1 fr (.lst [V.ref a1])=G2 at k2 x2 ⊢;have j2:=k1.trans k2;have hF:Rules G2 fr [freeR W]:=⟨_,x2,.cons ⟨a1,rfl,k2 _ _ x1⟩ .nil⟩;refine ⟨_,_,.inl (SqL.of (j2 _ _ ed)),bD (i:=1) rfl (by omega),by decide,fun a3 h3=>?_⟩;have k3:=ag h3 (.tup [V.str (st [48]),tx (at0 ds 1)]);have x3:upd G2 a3 (.tup [V.str (st [48]),tx (at0 ds 1)]) a3=some (.tup [V.str (st [48]),tx (at0 ds 1)]):=upd_same;generalize upd G2 a3 (.tup [V.str (st [48]),tx (at0 ds 1)])=G3 at k3 x3 ⊢;refine ⟨by decide,fun wp h4=>?_⟩;have k4:=ag h4 (.lst [V.ref a3]);have x4:upd G3 wp (.lst [V.ref a3]) wp=some (.lst [V.ref a3]):=upd_same;generalize upd G3 wp (.lst [V.ref a3])=G4 at k4 x4 ⊢;have k34:=k3.trans k4;have j4:=j2.trans k34;have hwp:G2 wp=none:=k3.free h4;refine ⟨fun σ' H'=>σ'=[some (.ref a),some (.ref l),some (.ref d),some (.ref n),some (nV W),o5,o6,some (nV y),o8,some (.ref rp),some (.ref fr),some (.ref wp),none,none,none,none,none,none]/\Same G2 H'/\Ways H' wp (waysN ds y),?_,?_⟩
 ·refine ite2 (fun g1=>?_) fun g1=>?_
  ·have ey:y=1:=by omega
   refine ⟨⟨_,x4⟩,_,_,.inl (SqL.of (j4 _ _ ed)),bD (i:=3) rfl (by omega),by decide,fun a5 h5=>?_⟩;have k5:=ag h5 (.tup [V.str (st [49]),tx (at0 ds 3)]);have x5:upd G4 a5 (.tup [V.str (st [49]),tx (at0 ds 3)]) a5=some (.tup [V.str (st [49]),tx (at0 ds 3)]):=upd_same;generalize upd G4 a5 (.tup [V.str (st [49]),tx (at0 ds 3)])=G5 at k5 x5 ⊢;have e5:=k5 _ _ x4;refine ⟨_,e5,(show 1 < sizeLine by decide),rfl,aW (k34.trans k5) hwp,?_⟩;unfold waysN;rw [if_pos ey];exact ⟨_,upd_same,.cons ⟨a3,rfl,by rw [aA (az x3 h4)]; exact k5 _ _ (k4 _ _ x3)⟩ (.cons ⟨a5,rfl,by rw [aA (az x4 h5).symm]; exact x5⟩ .nil)⟩
  ·refine ⟨rfl,k34,?_⟩;unfold waysN;rw [if_neg (by omega)];exact ⟨_,x4,.cons ⟨a3,rfl,k4 _ _ x3⟩ .nil⟩
 ·rintro σ' H3 ⟨rfl,s3,hW⟩;have j3:=j2.trans s3;walk_at "rd";have ed3:=j3 _ _ ed;refine ⟨_,_,.inl (SqL.of ed3),bD (i:=0) rfl (by omega),by decide,fun b1 f1=>?_⟩;have m1:=ag f1 (.tup [tx (at0 ds 0),V.ref rp]);have y1:upd H3 b1 (.tup [tx (at0 ds 0),V.ref rp]) b1=some (.tup [tx (at0 ds 0),V.ref rp]):=upd_same;generalize upd H3 b1 (.tup [tx (at0 ds 0),V.ref rp])=F1 at m1 y1 ⊢;refine ⟨_,_,.inl (SqL.of (m1 _ _ ed3)),bD (i:=1) rfl (by omega),by decide,fun b2 f2=>?_⟩;have m2:=ag f2 (.lst []);have y2:upd F1 b2 (.lst []) b2=some (.lst []):=upd_same;generalize upd F1 b2 (.lst [])=F2 at m2 y2 ⊢;refine ⟨by decide,fun b3 f3=>?_⟩;have m3:=ag f3 (.tup [tx (at0 ds 1),V.ref b2]);have y3:upd F2 b3 (.tup [tx (at0 ds 1),V.ref b2]) b3=some (.tup [tx (at0 ds 1),V.ref b2]):=upd_same;generalize upd F2 b3 (.tup [tx (at0 ds 1),V.ref b2])=F3 at m3 y3 ⊢;have m13:=m1.trans (m2.trans m3);refine ⟨_,_,.inl (SqL.of (m13 _ _ ed3)),bD (i:=2) rfl (by omega),by decide,fun b4 f4=>?_⟩;have m4:=ag f4 (.tup [tx (at0 ds 2),V.ref fr]);have y4:upd F3 b4 (.tup [tx (at0 ds 2),V.ref fr]) b4=some (.tup [tx (at0 ds 2),V.ref fr]):=upd_same;generalize upd F3 b4 (.tup [tx (at0 ds 2),V.ref fr])=F4 at m4 y4 ⊢;refine ⟨_,_,.inl (SqL.of (m4 _ _ (m13 _ _ ed3))),bD (i:=3) rfl (by omega),by decide,fun b5 f5=>?_⟩;have m5:=ag f5 (.tup [tx (at0 ds 3),V.ref fr]);have y5:upd F4 b5 (.tup [tx (at0 ds 3),V.ref fr]) b5=some (.tup [tx (at0 ds 3),V.ref fr]):=upd_same;generalize upd F4 b5 (.tup [tx (at0 ds 3),V.ref fr])=F5 at m5 y5 ⊢;refine ⟨by decide,fun gp f6=>?_⟩;have m6:=ag f6 (.lst [V.ref b1,V.ref b3,V.ref b4,V.ref b5]);have y6:upd F5 gp (.lst [V.ref b1,V.ref b3,V.ref b4,V.ref b5]) gp=some (.lst [V.ref b1,V.ref b3,V.ref b4,V.ref b5]):=upd_same;generalize upd F5 gp (.lst [V.ref b1,V.ref b3,V.ref b4,V.ref b5])=F6 at m6 y6 ⊢;have m56:=m5.trans m6;have m46:=m4.trans m56;have m36:=m3.trans m46;have m26:=m2.trans m36;have m16:=m1.trans m26;have jf:=j3.trans m16;have sf:=s3.trans m16;have hF6:=hF.same sf;refine fun C hC=>hC a l d n fr gp wp ns ls ds nm W (gatesN ds W rs) (waysN ds y) _ o5 o6 _ o8 _ ⟨jf.seq hS,hL.same jf,jf _ _ ed,jf _ _ en,hF6,d4,n9,w48⟩ ⟨_,y6,.cons ⟨b1,rp,rfl,m26 _ _ y1,hR.same jf⟩ (.cons ⟨b3,b2,rfl,m46 _ _ y3,[],m36 _ _ y2,.nil⟩ (.cons ⟨b4,fr,rfl,m56 _ _ y4,hF6⟩ (.cons ⟨b5,fr,rfl,m6 _ _ y5,hF6⟩ .nil)))⟩ (Nat.le_refl _) (hW.same m16) (by unfold waysN; split <;> simp) (q.mono jf)
theorem i5 {l:List (List Nat)} {i:Nat} (h:i < l.length):at0 l i ∈ l:=by
 unfold at0;rw [List.getD_eq_getElem?_getD,List.getElem?_eq_getElem h];exact List.getElem_mem h
theorem oV {l:List (List Nat)} {i j:Nat} (nd:l.Nodup) (hi:i < l.length) (hj:j < l.length) (e:at0 l i=at0 l j):i=j:=by
 unfold at0 at e;rw [List.getD_eq_getElem?_getD,List.getD_eq_getElem?_getD,List.getElem?_eq_getElem hi,List.getElem?_eq_getElem hj] at e;have e':l[i]=l[j]:=e;rcases Nat.lt_trichotomy i j with z | z | z
 ·exact absurd e' (List.pairwise_iff_getElem.mp nd i j hi hj z)
 ·exact z
 ·exact absurd e'.symm (List.pairwise_iff_getElem.mp nd j i hj hi z)
theorem uV {ls:List Fld} {ds nm:List (List Nat)} {m ah y:Nat} {rs:List Rule} {ps:List Nat} {gs:List Gate} {ws:List Way} {hs:List Named} {lns:List Line} (ok:LayOk ls) (d4:Names 4 ds) (n9:Names 9 nm) (m1:1<=m) (m7:m<=7) (a2:ah<=2) (p5:ps.length<=5) (plt:∀ x ∈ ps,x < widthL ls) (r7:rs.length<=7) (good:∀ r ∈ rs,GoodR (widthL ls) ps r)
  (pg:gs.Perm (gatesN ds (widthL ls) rs)) (pw:ws.Perm (waysN ds y)) (ph:hs.Perm (housesN (widthL ls) nm ds (gs,ws) (m+ah - 1))) (pl:lns.Perm (linesN m nm ds (m+ah - 1))):
  NetW ps (widthL ls) (ls,hs,lns)/\hs.length=m+ah/\(at0 nm (m+ah - 1),at0 ds 0) ∈ spotsOf hs/\∀ x ∈ hs,1<=x.2.1.length:=by
 have l9:=n9.len;have l4:=d4.len;obtain ⟨fa,fb,esp,hab,hb⟩:=ok.to;have eG:spanG ls=(fa,fb):=by unfold spanG; rw [esp]; rfl
 have dj:∀ i j,i < 4->j < 4->at0 ds i=at0 ds j->i=j:=fun i j hi hj e=>oV d4.nd (by omega) (by omega) e
 have nj:∀ i j,i < 9->j < 9->at0 nm i=at0 nm j->i=j:=fun i j hi hj e=>oV n9.nd (by omega) (by omega) e
 have dl:∀ i,i < 4->Low (at0 ds i)/\(at0 ds i).length<=1000:=fun i hi=>⟨d4.low _ (i5 (by omega)),by have:=(d4.short _ (i5 (l:=ds) (i:=i) (by omega))).2; omega⟩
 have nl:∀ i,i < 9->Low (at0 nm i)/\(at0 nm i).length<=1000:=fun i hi=>⟨n9.low _ (i5 (by omega)),by have:=(n9.short _ (i5 (l:=nm) (i:=i) (by omega))).2; omega⟩
 have fok:GoodR (widthL ls) ps (freeR (widthL ls)):=goodR (jx _) (by simp) (.inl rfl) (jx _) (by simp) (kY _ _);have gN:(gs.map (·.1)).Perm [at0 ds 0,at0 ds 1,at0 ds 2,at0 ds 3]:=pg.map _;have g4:gs.length=4:=pg.length_eq;have ggood:∀ g ∈ gs,(∃ i,i < 4/\g.1=at0 ds i)/\g.2.length<=7/\∀ r ∈ g.2,GoodR (widthL ls) ps r:=fun g hg=>by
  have hm:=pg.mem_iff.mp hg;unfold gatesN at hm;simp only [List.mem_cons,List.not_mem_nil,or_false] at hm;rcases hm with rfl | rfl | rfl | rfl
  ·exact ⟨⟨0,by omega,rfl⟩,r7,good⟩
  ·exact ⟨⟨1,by omega,rfl⟩,by simp,fun r hr=>by cases hr⟩
  ·exact ⟨⟨2,by omega,rfl⟩,by simp,fun r hr=>by rw [List.mem_singleton.mp hr]; exact fok⟩
  ·exact ⟨⟨3,by omega,rfl⟩,by simp,fun r hr=>by rw [List.mem_singleton.mp hr]; exact fok⟩
 have pgood:∀ g ∈ (plainH (widthL ls) ds).1,(∃ i,i < 4/\g.1=at0 ds i)/\g.2.length<=7/\∀ r ∈ g.2,GoodR (widthL ls) ps r:=fun g hg=>by
  unfold plainH at hg;simp only [List.mem_cons,List.not_mem_nil,or_false] at hg;rcases hg with rfl | rfl
  ·exact ⟨⟨0,by omega,rfl⟩,by simp,fun r hr=>by rw [List.mem_singleton.mp hr]; exact fok⟩
  ·exact ⟨⟨1,by omega,rfl⟩,by simp,fun r hr=>by cases hr⟩
 have hm:∀ x ∈ hs,∃ j,j < m+ah/\x.1=at0 nm j/\(j=0/\x.2=(gs,ws)\/1<=j/\x.2=plainH (widthL ls) ds):=fun x hx=>by
  have:=ph.mem_iff.mp hx;unfold housesN at this;rcases List.mem_cons.mp this with rfl | z
  ·exact ⟨0,by omega,rfl,.inl ⟨rfl,rfl⟩⟩
  ·obtain ⟨j,hj,rfl⟩:=List.mem_map.mp z;have:=List.mem_range.mp hj;exact ⟨j+1,by omega,rfl,.inr ⟨by omega,rfl⟩⟩
 have mem:∀ j,j < m+ah->(at0 nm j,if j=0 then (gs,ws) else plainH (widthL ls) ds) ∈ hs:=fun j hj=>by
  refine ph.mem_iff.mpr ?_;unfold housesN;by_cases h:j=0
  ·subst h; rw [if_pos rfl]; exact List.mem_cons_self
  ·rw [if_neg h];exact List.mem_cons_of_mem _ (List.mem_map.mpr ⟨j - 1,List.mem_range.mpr (by omega),by rw [show j - 1+1=j by omega]⟩)
 have hl:hs.length=m+ah:=by
  rw [ph.length_eq];unfold housesN;simp;omega
 have hgate:∀ x ∈ hs,∀ g ∈ x.2.1,(∃ i,i < 4/\g.1=at0 ds i)/\g.2.length<=7/\∀ r ∈ g.2,GoodR (widthL ls) ps r:=fun x hx g hg=>by
  obtain ⟨j,_,_,⟨_,e⟩ | ⟨_,e⟩⟩:=hm x hx
  ·rw [e] at hg; exact ggood g hg
  ·rw [e] at hg; exact pgood g hg
 have spot:∀ e:PairN,e.1 < m+ah->(e.2 < 2\/e.1=0/\e.2 < 4)->spotN nm ds e ∈ spotsOf hs:=fun e h1 h2=>by
  unfold spotsOf;refine List.mem_flatMap.mpr ⟨_,mem e.1 h1,?_⟩;have h4:e.2 < 4:=by omega
  by_cases h:e.1=0
  ·rw [if_pos h];have hg:at0 ds e.2 ∈ gs.map (·.1):=gN.mem_iff.mpr (by
    rcases (by omega:e.2=0\/e.2=1\/e.2=2\/e.2=3) with z | z | z | z <;> rw [z] <;> simp)
   obtain ⟨g,hg,eg⟩:=List.mem_map.mp hg;exact List.mem_map.mpr ⟨g,hg,by unfold spotN; rw [<- eg]⟩
  ·rw [if_neg h];unfold plainH spotN;rcases (by omega:e.2=0\/e.2=1) with z | z <;> rw [z] <;> simp
 have ends:(endsOf lns).Perm ((ringE m ah).map (spotN nm ds)):=by
  unfold endsOf;refine (pl.flatMap_right _).trans (List.Perm.of_eq ?_);unfold ringE ringL linesN;rw [List.map_flatMap,List.flatMap_cons,List.flatMap_cons,List.flatMap_map,List.flatMap_map];rfl
 obtain ⟨en,eb⟩:=qB (m:=m) (a:=ah) (by omega) (by omega) m1;refine ⟨⟨⟨ok,?nd,?low,?house,?door,(show hs.length<=100 by omega),?ends,?spots,?l500⟩,rfl,fun x hx g hg r hr=>((hgate x hx g hg).2.2 r hr).2,?s20,p5,plt⟩,hl,spot (m+ah - 1,0) (by dsimp only; omega) (.inl (by dsimp only; omega)),fun x hx=>?g1⟩
 case g1=>
  obtain ⟨j,_,_,⟨_,e⟩ | ⟨_,e⟩⟩:=hm x hx
  ·rw [e]; show 1<=gs.length; omega
  ·rw [e]; show 1<=2; omega
 case nd=>
  show (hs.map (·.1)).Nodup;rw [(ph.map (·.1)).nodup_iff];have e:(housesN (widthL ls) nm ds (gs,ws) (m+ah - 1)).map (·.1)=(List.range (m+ah - 1+1)).map (at0 nm):=by
   unfold housesN;rw [List.range_succ_eq_map,List.map_cons,List.map_cons,List.map_map,List.map_map];rfl
  rw [e];refine jO List.nodup_range fun a ha b hb e=>?_
  have:=List.mem_range.mp ha;have:=List.mem_range.mp hb;exact nj a b (by omega) (by omega) e
 case low=>
  intro x hx;obtain ⟨j,hj,e,_⟩:=hm x hx;rw [e];exact nl j (by omega)
 case house=>
  intro x hx;show HouseOk5 (widthL ls) ((spanG ls).2 - (spanG ls).1) x.2;rw [eG];have hwm:∀ w ∈ ws,∃ c d,w=([c],at0 ds d)/\(c=48\/c=49)/\(d=1\/d=3):=fun w hw=>by
   have hw':=pw.mem_iff.mp hw;unfold waysN at hw';split at hw'
   ·rcases List.mem_cons.mp hw' with e1 | e1
    ·exact ⟨48,1,e1,.inl rfl,.inl rfl⟩
    ·exact ⟨49,3,List.mem_singleton.mp e1,.inr rfl,.inr rfl⟩
   ·exact ⟨48,1,List.mem_singleton.mp hw',.inl rfl,.inl rfl⟩
  have hgx:=hgate x hx;obtain ⟨j,_,_,⟨_,e⟩ | ⟨_,e⟩⟩:=hm x hx
  ·rw [e] at hgx ⊢;refine ⟨?_,by show gs.length<=8; omega,fun g hg r hr=>((hgx g hg).2.2 r hr).1,fun g hg=>by have:=(hgx g hg).2.1; omega,⟨?_,?_,?_,?_⟩,?_⟩
   ·rw [gN.nodup_iff];simp only [List.nodup_cons,List.mem_cons,List.not_mem_nil,or_false,not_or,not_false_eq_true,and_true,List.nodup_nil];refine ⟨⟨fun z=>?_,fun z=>?_,fun z=>?_⟩,⟨fun z=>?_,fun z=>?_⟩,fun z=>?_⟩ <;> have:=dj _ _ (by omega) (by omega) z <;> omega
   ·intro w hw;obtain ⟨c,d,e1,_,_⟩:=hwm w hw;rw [e1];show 1<=fb - fa;omega
   ·intro w hw;obtain ⟨c,d,e1,hc,_⟩:=hwm w hw;rw [e1];intro c' hc';rw [List.mem_singleton.mp hc'];exact hc
   ·intro w hw;obtain ⟨c,d,e1,_,hd⟩:=hwm w hw;rw [e1];show at0 ds d ∈ gs.map (·.1);rcases hd with rfl | rfl
    ·exact gN.mem_iff.mpr (by simp)
    ·exact gN.mem_iff.mpr (by simp)
   ·show (ws.map (·.1)).Nodup;rw [(pw.map (·.1)).nodup_iff];unfold waysN;split <;> simp
   ·show ws.length<=8;rw [pw.length_eq];unfold waysN;split <;> simp
  ·rw [e] at hgx ⊢;refine ⟨?_,by show 2<=8; omega,fun g hg r hr=>((hgx g hg).2.2 r hr).1,fun g hg=>by have:=(hgx g hg).2.1; omega,⟨?_,?_,?_,?_⟩,by show 1<=8; omega⟩
   ·show [at0 ds 0,at0 ds 1].Nodup;simp only [List.nodup_cons,List.mem_cons,List.not_mem_nil,or_false,not_false_eq_true,and_true,List.nodup_nil];intro z;have:=dj _ _ (by omega) (by omega) z;omega
   ·intro w hw; rw [List.mem_singleton.mp hw]; exact Nat.zero_le _
   ·intro w hw; rw [List.mem_singleton.mp hw]; intro c hc; cases hc
   ·intro w hw; rw [List.mem_singleton.mp hw]; unfold plainH; simp
   ·show [([]:List Nat)].Nodup; simp
 case door=>
  intro x hx g hg;obtain ⟨⟨i,hi,e⟩,_⟩:=hgate x hx g hg;rw [e];exact dl i hi
 case ends=>
  show (endsOf lns).Nodup;rw [ends.nodup_iff];refine jO en fun a ha b hb e=>?_
  obtain ⟨a1,a2'⟩:=eb a ha;obtain ⟨b1,b2⟩:=eb b hb;unfold spotN at e;have e1:=nj a.1 b.1 (by omega) (by omega) (congrArg Prod.fst e);have e2:=dj a.2 b.2 (by omega) (by omega) (congrArg Prod.snd e);exact Prod.ext e1 e2
 case spots=>
  intro s hs';obtain ⟨e,he,rfl⟩:=List.mem_map.mp (ends.mem_iff.mp hs');exact spot e (eb e he).1 (eb e he).2
 case l500=>
  show lns.length<=500;rw [pl.length_eq];unfold linesN;simp;omega
 case s20=>
  show (spotsOf hs).length<=20;unfold spotsOf;rw [(ph.flatMap_right _).length_eq];unfold housesN;rw [List.flatMap_cons,List.length_append,List.length_map,List.flatMap_map];have e:∀ n,((List.range n).flatMap fun j=>((plainH (widthL ls) ds).1.map fun g=>(at0 nm (j+1),g.1))).length=n*2:=fun n=>by
   induction n with
   | zero=>rfl
   | succ n ih=>
    rw [List.range_succ,List.flatMap_append,List.length_append,ih];show n*2+2=(n+1)*2;omega
  rw [e (m+ah - 1)];show gs.length+_<=20;omega
theorem rY (ps:List Nat) (n:Nat):∃ qs:List Nat,cutV (ps.map nV) none (some (n:Int))=qs.map nV/\(∀ x ∈ qs,x ∈ ps)/\qs.length<=n:=by
 refine ⟨(ps.drop (HT.sIx (ps.map nV).length 0 none)).take (HT.sIx (ps.map nV).length (ps.map nV).length (some (n:Int)) - HT.sIx (ps.map nV).length 0 none),?_,fun x hx=>List.mem_of_mem_drop (List.mem_of_mem_take hx),?_⟩
 ·unfold cutV;rw [<- List.map_drop,<- List.map_take]
 ·rw [List.length_take,HT.sIx_nat];omega
theorem oZ {P:Nat->Prop}:∀ (vs:List V),(∀ v ∈ vs,∃ x,v=nV x/\P x)->∃ ps:List Nat,vs=ps.map nV/\∀ x ∈ ps,P x
 | [],_=>⟨[],rfl,fun _ h=>by cases h⟩
 | v::vs,h=>by
  obtain ⟨x,rfl,hx⟩:=h v List.mem_cons_self;obtain ⟨ps,rfl,hp⟩:=oZ vs fun u hu=>h u (List.mem_cons_of_mem _ hu)
  exact ⟨x::ps,rfl,fun y hy=>by
   rcases List.mem_cons.mp hy with rfl | z
   ·exact hx
   ·exact hp y z⟩
theorem tN {vs:List V} {L:List Nat} (h:vs.Perm (L.map nV)):∃ ps:List Nat,vs=ps.map nV/\∀ x ∈ ps,x ∈ L:=by
 refine oZ vs fun v hv=>?_
 obtain ⟨x,hx,rfl⟩:=List.mem_map.mp (h.mem_iff.mp hv);exact ⟨x,rfl,hx⟩
theorem nM (n:Nat) (p:Nat->Bool):∃ L:List Nat,((List.range n).flatMap fun i=>if p i=true then [nV i] else [])=L.map nV/\(∀ x ∈ L,x < n)/\L.length<=n:=by
 refine ⟨(List.range n).filter p,?_,fun x hx=>List.mem_range.mp (List.mem_filter.mp hx).1,by have:=List.length_filter_le p (List.range n); simpa using this⟩;generalize List.range n=l
 induction l with
 | nil=>rfl
 | cons x l ih=>
  rw [List.flatMap_cons,ih,List.filter_cons];split <;> rfl
noncomputable def dH (K:Frag):Sp:=fun vs H Q _=>match vs with
 | [.ref a,.ref l,.ref d,.ref n]=>∃ (ns:List Int) (ls:List Fld) (ds nm:List (List Nat)),SqL K H a (ns.map V.int)/\Lay H l ls/\LayOk ls/\H d=some (.lst (ds.map tx))/\H n=some (.lst (nm.map tx))/\Names 4 ds/\Names 9 nm /\
   ∀ q H' (N:Net),H q=none->Same H H'->NetAt H' q N->(∃ ps,NetW ps (widthL ls) N)->N.1=ls->1<=N.2.1.length->N.2.1.length<=9->(at0 nm (N.2.1.length - 1),at0 ds 0) ∈ spotsOf N.2.1->(∀ x ∈ N.2.1,1<=x.2.1.length)->Q (.ref q) H'
 | _=>False
theorem mn (T:Top K mg):Callee P w K mg base 4 "_law_ring" ["_law_script", "_law_layout", "_law_doors", "_law_names_here"] (dH K):=by
 refine T.iL.cal aG (by intro vs H Q E h; unfold dH at h; split at h <;> first | rfl | exact h.elim) (fun _ _ _ _ _ _ us hl=>match us,hl with | [_,_,_,_],_=>rfl) (fun f cdv A outer s H vs Q E hr h=>?_);unfold dH at h;split at h
 case h_2=>exact h.elim
 refine ⟨_,(af (am (i:=4) aG.nd rfl lc (av (fP T) hr.m rfl (aa (qv 1) ad)))
   (af (ig (av (dU T) hr.m rfl (aa (qv 1) ad)) (seqE K rfl rfl (n:=2) (ao (aj (i:=5) aG.nd rfl lc) (ao (aj (i:=6) aG.nd rfl lc) aK))))
   (af (am (i:=7) aG.nd rfl lc (aE (ou rfl) rfl T.pH oD (aa ae (aa (av (ar T) hr.m rfl (aa (qv 0) (aa ae (aa ae ad)))) ad))))
   (af (am (i:=8) aG.nd rfl lc (av (aV T) hr.m rfl (aa (qv 0) (aa ae (aa (bu (nt:=1) (fi:=[5,6]) (N':=["_law_place", "_law_first", "_law_behind"]) rfl (cscope rfl (by decide +kernel)) (cnames (N:=["_law_script", "_law_layout", "_law_doors", "_law_names_here", "_law_width_here", "_law_first", "_law_behind", "_law_way", "_law_others", "_law_rules", "_law_free", "_law_ways", "_law_gates", "_law_many", "_law_ahead", "_law_houses", "_law_lines", "_law_h"]) (sc:=defScope aL) rfl rfl (by decide +kernel)) (ck (by decide)) (bC rfl T.b7 (qv 4)) (fun _ _ _ _ _=>(aj (i:=0) (by show (["_law_place", "_law_first", "_law_behind"]:List Str).Nodup; decide +kernel) rfl lc)) (fun _ _ _ _ _=>(vb (PW.pt (sd (aC oK (qv 0) (qv 1)) (ol (aC wn (qv 0) (qv 2))))))) (fun _ _ _ _ _=>(qv 0))) ad)))))
   (af (am (i:=9) aG.nd rfl lc (av (ie T) hr.m rfl (aa (qv 0) (aa (qv 4) (aa (bp (slE K rfl) (qv 8) cp (bx (aw aB ae (av (ar T) hr.m rfl (aa (qv 0) (aa ae (aa (aw aB ae (bO qI rfl T.pJ oa (aa (ge aN (aw dX (qv 7) ae) ae) ad))) ad))))))) (aa (qv 5) (aa (qv 7) ad)))))))
   (uW T hr)))))),?_⟩
 rename_i a l d n;obtain ⟨ns,ls,ds,nm,hS,hL,ok,ed,en,d4,n9,q⟩:=h;have l3:=ok.len;have w2:=ok.w2;obtain ⟨fa,fb,esp,hab,hb⟩:=ok.to;have eG:spanG ls=(fa,fb):=by unfold spanG; rw [esp]; rfl
 walk_at "rd";refine ⟨ls,hL,by omega,fun H1 s1=>⟨ls,hL.same s1,fun t1 H2 ht1 s2 e2=>?_⟩⟩;have s12:=s1.trans s2;rw [eG] at e2;walk_at "rd";refine ⟨[_,_],.inr (SqT.of e2),rfl,_,[_],rfl,_,[],rfl,rfl,?_⟩;walk_at "rd";refine aO (s12.seq hS) (by decide) (by decide) (by decide) (by decide) fun r1 hr1=>?_
 walk_at "rd";obtain ⟨y,ey,hy⟩:∃ y:Nat,(if (r1:Int) < 3 then (r1:Int) else 3)=(y:Int)/\y<=3:=by
  split
  ·exact ⟨r1,rfl,by omega⟩
  ·exact ⟨3,rfl,by omega⟩
 rw [ey];refine ⟨by omega,by omega,fun D hD=>?_⟩;rw [Int.toNat_natCast];refine cj (lo:=0) (n:=widthL ls) (h:=fun i=>if decide (i < fa\/fb<=i)=true then [nV i] else []) hD (by omega) (fun i=>by split <;> simp) ?_ ?_
 ·intro i H3 out non hi s3 ho hnn;walk_at "rd";refine ite2 (fun g1=>ho _ _ (if_pos (decide_eq_true (.inl (by omega)))) (Same.refl _)) fun g1=>ite2 (fun g2=>ho _ _ (if_pos (decide_eq_true (.inr (by omega)))) (Same.refl _)) fun g2=>hnn _ (if_neg (by simp; omega)) (Same.refl _)
 ·intro H3 s3 e3;walk_at "rd";have s13:=s12.trans s3;obtain ⟨L,eL,hLw,hLl⟩:∃ L:List Nat,((List.range (widthL ls)).flatMap fun i=>if decide (i < fa\/fb<=i)=true then [nV i] else [])=L.map nV/\(∀ x ∈ L,x < widthL ls)/\L.length<=widthL ls:=nM _ _;rw [eL] at e3;refine ⟨ns,60,_,s13.seq hS,rfl,by decide,e3,by rw [List.length_map]; omega,fun q1 H4 vs1 hq1 s4 pm e4=>?_⟩;obtain ⟨ps,rfl,hps⟩:=tN pm;have s14:=s13.trans s4;refine aO (s14.seq hS) (by decide) (by decide) (by split <;> omega) (by split <;> omega) fun r2 hr2=>?_
  walk_at "rd";obtain ⟨qs,eq,hqs,hql⟩:=rY ps (1+r2);refine ⟨_,SqL.of e4,fun q2 hq2=>?_⟩;rw [show (1+(r2:Int))=((1+r2:Nat):Int) by omega,eq];have n5:=ag hq2 (.lst (qs.map nV));have s15:=s14.trans n5;have hlt:∀ x ∈ qs,x < widthL ls:=fun x hx=>hLw x (hps x (hqs x hx))
  have h45:qs.length<=5/\(y=1\/y=2->qs.length<=4):=by
   split at hr2 <;> omega
  refine ⟨ns,widthL ls,fa,y,qs,s15.seq hS,rfl,by omega,SqL.of upd_same,hlt,h45.1,rfl,by omega,rfl,hy,fun rp H5 rs hrp s5 hR hrl good=>?_⟩;have s16:=s15.trans s5;refine fun C hC=>hC a l d n rp ns ls ds nm (widthL ls) y rs _ _ _ (s16.seq hS) (hL.same s16) (s16 _ _ ed) (s16 _ _ en) d4 n9 (by omega) hR fun m ah gs' ws' m1 m7 a2 pg pw q' H' hs lns hq' s6 hN ph pl=>?_
  have hp5:(if y=1\/y=2 then fa::qs else qs).length<=5:=by
   split
   ·rename_i g;have:=h45.2 g;rw [List.length_cons];omega
   ·exact h45.1
  obtain ⟨nw,hl,sp,sg1⟩:=uV ok (y:=y) d4 n9 m1 m7 a2 (ps:=if y=1\/y=2 then fa::qs else qs) hp5 (by
   split
   ·intro x hx;rcases List.mem_cons.mp hx with rfl | z
    ·omega
    ·exact hlt x z
   ·exact hlt) hrl good pg pw ph pl
  have hl':(ls,hs,lns).2.1.length=m+ah:=hl;exact q q' H' (ls,hs,lns) (s16.free hq') (s16.trans s6) hN ⟨_,nw⟩ rfl (by omega) (by omega) (by rw [hl']; exact sp) sg1
theorem pB {H:Hp} {q:Addr} {R:List Step × List V} (h:WalkAt H q R) (hn:R.1.length<=1000) (he:EndOk R.2):Th H 3 (.ref q) (.t [.l (R.1.map fun x=>.t ((stepV x).map D.f)),.t (R.2.map D.f)]):=by
 obtain ⟨p,a,us,e1,e2,e3,e4⟩:=h;have hf:=he.few;refine ki e1 (by simp) (.cons (oP e2 (by rw [<- e3.length]; exact hn) (paired_flip (fun x v z=>?_) e3)) (.cons (nI 1 (gz e4 he.flat (by omega))) .nil));obtain ⟨t,rfl,et⟩:=z;exact gz et rfl (by simp [stepV])
noncomputable def mLaw16 (K:Frag):TS:=fun D σ H=>∀ C:TS,(∀ (a n0:Addr) (N:Net) (ps:List Nat) (W:Nat) (w:Way) (l:List Nat) (o1 o2 o3 o4 o5 o6 o7 o8 o10 o12 o13 o16:Option V),
  NetAt H n0 N->NetW ps W N->w ∈ spotsOf N.2.1->l.length=W->(∀ c ∈ l,c=48\/c=49)->(∀ H',D.rt (.bl true) H') ->
  C D [some (.ref a),o1,o2,o3,o4,o5,o6,o7,o8,some (.ref n0),o10,some (tx l),o12,o13,some (tx w.1),some (tx w.2),o16,none,none] H)->C D σ H
theorem tM (T:Top K mg) {f:Addr} {cdv:Value} {A:Around} {outer:List Env} {s:Shared} {H₀:Hp} {E:XK} (hr:Room 11 (A.deeper (PyProof.Rows.envOfC "law" (defScope eC) s.heap.objs.size f cdv))):
  PSs (cxOf CX0 P w K mg base ["_law_script", "_law_sizes", "_law_layout", "_law_body", "_law_at", "_law_start", "_law_letters", "_law_names_here", "_law_doors", "_law_net", "_law_width_here", "_law_letter", "_law_first", "_law_behind", "_law_house", "_law_door", "_law_own", "_law_due", "_law_handed"] "law" (defScope eC) f cdv A outer s H₀ E).nox ((defBody eC).drop 16) (mLaw16 K):=by
 refine fw (af (am (i:=17) aU.nd rfl lc (av (lF T) hr.m rfl (aa (qv 9) (aa (aq (aa (qv 14) (aa (qv 15) ad))) (aa (qv 11) ad)))))
   (af (am (i:=18) aU.nd rfl lc (av (ml T) hr.m rfl (aa (qv 9) ad)))
   (bZ (aI (ic (br (av (dC T) hr.m rfl (aa (av (iG T).calm hr.m rfl (aa (qv 18) (aa (qv 14) (aa (qv 15) (aa (qv 11) ad))))) (aa (qv 17) ad))))) (ai (ap dt)) au)
   (bZ (aI (ic (br (av (dC T) hr.m rfl (aa (av (ly T).calm hr.m rfl (aa (qv 18) (aa (qv 14) (aa (qv 15) (aa (qv 11) ad))))) (aa (av (ku T) hr.m rfl (aa (ak (ixE K rfl) (qv 17) ae (fun _ _=>rfl)) ad)) ad))))) (ai (ap dt)) au)
   (ai (ap (av (dC T) hr.m rfl (aa (qv 18) (aa (qv 9) ad))))))))) fun D σ H h=>h _ fun a n0 N ps W w l o1 o2 o3 o4 o5 o6 o7 o8 o10 o12 o13 o16 hN nw hw hl hb q=>?_
 have g1:=py nw hw hl hb;have th0:=vV hN nw.ok;walk_at "rd";refine ⟨by decide,fun p hp=>?_⟩;have s1:=ag hp (.tup [tx w.1,tx w.2]);have e1:upd H p (.tup [tx w.1,tx w.2]) p=some (.tup [tx w.1,tx w.2]):=upd_same;generalize upd H p (.tup [tx w.1,tx w.2])=H1 at s1 e1 ⊢;refine ⟨N,ps,W,w,hN.same s1,nw,e1,hw,by simp only [al]; exact hl,by simp only [al]; exact hb,fun q1 H2 hq1 s2 hWk=>?_⟩;simp only [al] at hWk;have s12:=s1.trans s2;refine ⟨8,netD N,by decide,bG s12 8 th0,fun c1 H3 s3 tc1=>?_⟩;have tc1':=oM 8 tc1;obtain ⟨cq1,rfl,hC1⟩:=rD tc1';have s13:=s12.trans s3;have g700:=g1.2;refine ⟨fun σ' H'=>σ'=[some (.ref a),o1,o2,o3,o4,o5,o6,o7,o8,some (.ref n0),o10,some (tx l),o12,o13,some (tx w.1),some (tx w.2),o16,some (.ref q1),some (.ref cq1)]/\Same H3 H',?_,?_⟩
 ·refine ⟨N,ps,W,hC1,nw,by simp only [al]; exact hw,by simp only [al]; exact hl,by simp only [al]; exact hb,fun q2 H4 hq2 s4 hB=>?_⟩;simp only [al] at hB;refine ⟨3,_,by decide,pB hB (by omega) g1.1,bG (s3.trans s4) 3 (pB hWk (by omega) g1.1),fun H5 s5=>?_⟩;walk_at "rd";exact s4.trans s5
 ·rintro σ' H4 ⟨rfl,s4⟩;walk_at "rd";have f1:=qo g1.1;obtain ⟨p',a',us,ew1,ew2,ew3,ew4⟩:=hWk;refine ⟨fun σ' H'=>σ'=[some (.ref a),o1,o2,o3,o4,o5,o6,o7,o8,some (.ref n0),o10,some (tx l),o12,o13,some (tx w.1),some (tx w.2),o16,some (.ref q1),some (.ref cq1)]/\Same H3 H',?_,?_⟩
  ·refine ⟨N,ps,W,hC1.same s4,nw,by simp only [al]; exact hw,by simp only [al]; exact hl,by simp only [al]; exact hb,fun q2 H5 s5 e5=>?_⟩;simp only [al] at e5;have s35:=s3.trans (s4.trans s5);walk_at "rd";refine ⟨_,_,.inr (SqT.of (s35 _ _ ew1)),rfl,_,s35 _ _ ew4,g1.1,fun q3 H6 s6 e6=>?_⟩;refine ⟨2,_,by decide,nI 1 (gz (s6 _ _ e5) f1.1 (by omega)),nI 1 (gz e6 f1.1 (by omega)),fun H7 s7=>?_⟩;walk_at "rd";exact s4.trans (s5.trans (s6.trans s7))
  ·rintro σ' H5 ⟨rfl,s5⟩;walk_at "rd";exact ⟨8,netD N,by decide,bG s5 8 tc1',bG (s13.trans s5) 8 th0,fun HB _=>q HB⟩
structure RingW (ls:List Fld) (ds nm:List (List Nat)) (N:Net):Prop where
 lay:LayOk ls
 d4:Names 4 ds
 n9:Names 9 nm
 one:N.1=ls
 l1:1<=N.2.1.length
 l9:N.2.1.length<=9
 g1:∀ x ∈ N.2.1,1<=x.2.1.length
 spot:(at0 nm (N.2.1.length - 1),at0 ds 0) ∈ spotsOf N.2.1
noncomputable def mLaw10 (K:Frag):TS:=fun D σ H=>∀ C:TS,(∀ (a l d n n0:Addr) (ns:List Int) (ls:List Fld) (ds nm:List (List Nat)) (N:Net) (ps:List Nat) (o1 o3 o4 o5 o6:Option V),
  SqL K H a (ns.map V.int)->Lay H l ls->H d=some (.lst (ds.map tx))->H n=some (.lst (nm.map tx))->NetAt H n0 N->NetW ps (widthL ls) N->RingW ls ds nm N->(∀ H',D.rt (.bl true) H') ->
  C D [some (.ref a),o1,some (.ref l),o3,o4,o5,o6,some (.ref n),some (.ref d),some (.ref n0),none,none,none,none,none,none,none,none,none] H)->C D σ H
theorem tX (T:Top K mg) {f:Addr} {cdv:Value} {A:Around} {outer:List Env} {s:Shared} {H₀:Hp} {E:XK} (hr:Room 11 (A.deeper (PyProof.Rows.envOfC "law" (defScope eC) s.heap.objs.size f cdv))):
  PSs (cxOf CX0 P w K mg base ["_law_script", "_law_sizes", "_law_layout", "_law_body", "_law_at", "_law_start", "_law_letters", "_law_names_here", "_law_doors", "_law_net", "_law_width_here", "_law_letter", "_law_first", "_law_behind", "_law_house", "_law_door", "_law_own", "_law_due", "_law_handed"] "law" (defScope eC) f cdv A outer s H₀ E).nox ((defBody eC).drop 10) (mLaw10 K):=by
 refine fw (af (am (i:=10) aU.nd rfl lc (av (fP T) hr.m rfl (aa (qv 2) ad)))
   (af (am (i:=11) aU.nd rfl lc (joinE K rfl (bu (nt:=1) (fi:=[0]) (N':=["_law_j", "_law_script"]) rfl (cscope rfl (by decide +kernel)) (cnames (N:=["_law_script", "_law_sizes", "_law_layout", "_law_body", "_law_at", "_law_start", "_law_letters", "_law_names_here", "_law_doors", "_law_net", "_law_width_here", "_law_letter", "_law_first", "_law_behind", "_law_house", "_law_door", "_law_own", "_law_due", "_law_handed"]) (sc:=defScope eC) rfl rfl (by decide +kernel)) (ck (by decide)) (bC rfl T.b7 (qv 10)) (fun _ _ _ _ _=>(aj (i:=0) (by show (["_law_j", "_law_script"]:List Str).Nodup; decide +kernel) rfl lc)) (fun _ _ _ _ _=>bw) (fun _ _ _ _ _=>(ak (ixE K rfl) (qs [48,49]) (av (ar T) hr.m rfl (aa (qv 1) (aa (aw aB ae (qv 0)) (aa ae ad)))) (fun _ _=>rfl))))))
   (bZ (aI (aC mw (av (ar T) hr.m rfl (aa (qv 0) (aa ae (aa ae ad)))) ae) (af (ig (av (dU T) hr.m rfl (aa (qv 2) ad)) (seqE K rfl rfl (n:=2) (ao (aj (i:=12) aU.nd rfl lc) (ao (aj (i:=13) aU.nd rfl lc) aK))))
   (ai (am (i:=11) aU.nd rfl lc (aw aB (aw aB (bp (slE K rfl) (qv 11) cp (bx (qv 12))) (aw bj (qs [48]) (aw gJ (qv 13) (qv 12)))) (bp (slE K rfl) (qv 11) (bx (qv 13)) cp))))) au)
   (af (am (i:=14) aU.nd rfl lc (ak (ixE K rfl) (qv 7) (aw gJ (aE (lenE K rfl) rfl T.bF be (aa (ak (ixE K rfl) (qv 9) ae (fun _ _=>rfl)) ad)) ae) (fun _ _=>rfl)))
   (af (am (i:=15) aU.nd rfl lc (ak (ixE K rfl) (qv 8) ae (fun _ _=>rfl)))
   (bZ (aI (aC aN (av (ar T) hr.m rfl (aa (qv 0) (aa ae (aa ae ad)))) ae) (af (ig (ak (ixE K rfl) (ak (ixE K rfl) (qv 9) ae (fun _ _=>rfl)) (av (ar T) hr.m rfl (aa (qv 0) (aa ae (aa (aE (lenE K rfl) rfl T.bF be (aa (ak (ixE K rfl) (qv 9) ae (fun _ _=>rfl)) ad)) ad)))) (fun _ _=>rfl)) (seqE K rfl rfl (n:=2) (ao (aj (i:=14) aU.nd rfl lc) (ao (aj (i:=16) aU.nd rfl lc) aK))))
   (ai (am (i:=15) aU.nd rfl lc (ak (ixE K rfl) (ak (ixE K rfl) (ak (ixE K rfl) (qv 16) ae (fun _ _=>rfl)) (av (ar T) hr.m rfl (aa (qv 0) (aa ae (aa (aE (lenE K rfl) rfl T.bF be (aa (ak (ixE K rfl) (qv 16) ae (fun _ _=>rfl)) ad)) ad)))) (fun _ _=>rfl)) ae (fun _ _=>rfl))))) au)
   (tM T hr))))))) fun D σ H h=>h _ fun a l d n n0 ns ls ds nm N ps o1 o3 o4 o5 o6 hS hL ed en hN nw R q=>?_
 have w2:=R.lay.w2;have l3:=R.lay.len;have l4:=R.d4.len;have l9:=R.n9.len;have c9:=R.l9;have c1:=R.l1;walk_at "rd";refine ⟨ls,hL,by omega,fun H1 s1=>?_⟩;walk_at "rd";refine ⟨by omega,by omega,fun D1 hD1=>?_⟩;rw [Int.toNat_natCast];refine cj (lo:=0) (n:=widthL ls) (h:=fun j=>[sgn (48+drawN ns (140+j) 2)]) hD1 (by omega) (fun _=>by simp) ?_ ?_
 ·intro i H5 out non hi s6 ho _;walk_at "rd";refine oU (k:=140+i) ((s1.trans s6).seq hS) (by omega) (by decide) (by decide) ?_;have h2:=fj ns (140+i) (m:=2) (by decide);walk_at "rd";refine ⟨48+drawN ns (140+i) 2,?_,ho _ _ rfl (Same.refl _)⟩;rcases (by omega:drawN ns (140+i) 2=0\/drawN ns (140+i) 2=1) with z | z <;> rw [z] <;> rfl
 ·intro H2 s2 e2;have s12:=s1.trans s2;rw [ci] at e2;have hb0:∀ c ∈ (List.range (widthL ls)).map (fun j=>48+drawN ns (140+j) 2),c=48\/c=49:=fun c hc=>by
   obtain ⟨j,_,rfl⟩:=List.mem_map.mp hc;have h2:=fj ns (140+j) (m:=2) (by decide);omega
  have hl0:((List.range (widthL ls)).map (fun j=>48+drawN ns (140+j) 2)).length=widthL ls:=by simp
  walk_at "rd";refine ⟨(List.range (widthL ls)).map fun j=>48+drawN ns (140+j) 2,by rw [List.map_map]; exact SqL.of e2,by omega,?_⟩;generalize (List.range (widthL ls)).map (fun j=>48+drawN ns (140+j) 2)=l0 at hb0 hl0 ⊢;refine ⟨fun σ' H'=>∃ (l1:List Nat) (o12 o13:Option V),σ'=[some (.ref a),o1,some (.ref l),o3,o4,o5,o6,some (.ref n),some (.ref d),some (.ref n0),some (nV (widthL ls)),some (tx l1),o12,o13,none,none,none,none,none]/\Same H H'/\l1.length=widthL ls/\∀ c ∈ l1,c=48\/c=49,?_,?_⟩
  ·refine aO (s12.seq hS) (by decide) (by decide) (by decide) (by decide) fun r1 hr1=>?_
   walk_at "rd";refine ite2 (fun g=>?_) fun g=>⟨l0,none,none,rfl,s12,hl0,hb0⟩
   obtain ⟨fa,fb,esp,hab,hbw⟩:=R.lay.to;have eG:spanG ls=(fa,fb):=by unfold spanG; rw [esp]; rfl
   refine ⟨ls,hL.same s12,fun t1 H3 ht1 s3 e3=>?_⟩;rw [eG] at e3;walk_at "rd";refine ⟨[_,_],.inr (SqT.of e3),rfl,_,[_],rfl,_,[],rfl,rfl,?_⟩;walk_at "rd";have el:(List.take fa l0++List.replicate (fb - fa) 48++List.drop fb l0).length=widthL ls:=by
    rw [List.length_append,List.length_append,List.length_take,List.length_replicate,List.length_drop];omega
   have e4:(List.take fa l0++List.replicate (fb - fa) 48).length<=1000:=by
    rw [List.length_append,List.length_take,List.length_replicate];omega
   have e5:(List.drop fb l0).length<=1000:=by rw [List.length_drop]; omega
   have e6:(List.take fa l0).length+(List.replicate (fb - fa) 48).length<=100000:=by
    rw [List.length_take,List.length_replicate];omega
   rw [Int.toNat_natCast,Int.toNat_natCast,show ((fb:Int) - fa).toNat=fb - fa by omega];refine ⟨by omega,by omega,by omega,by omega,by omega,e6,by omega,by omega,by omega,by omega,_,_,_,rfl,s12.trans s3,el,fun c hc=>?_⟩;rcases List.mem_append.mp hc with z | z
   ·rcases List.mem_append.mp z with z | z
    ·exact hb0 c (List.mem_of_mem_take z)
    ·exact .inl (List.eq_of_mem_replicate z)
   ·exact hb0 c (List.mem_of_mem_drop z)
  ·rintro σ' H3 ⟨l1,o12,o13,rfl,s3,hl1,hb1⟩;walk_at "rd";obtain ⟨pa,pb,pc,eN,hLa,⟨hv,ehv,phv⟩,hLn⟩:=hN.same s3;have hvl:=phv.length;refine ⟨_,_,.inr (SqT.of eN),rfl,?_⟩;walk_at "rd";refine ⟨_,.inl (SqL.of ehv),?_⟩;walk_at "rd";refine ⟨_,_,.inl (SqL.of (s3 _ _ en)),bD (i:=N.2.1.length - 1) (by omega) (by omega),_,_,.inl (SqL.of (s3 _ _ ed)),bD (i:=0) rfl (by omega),?_⟩;refine ⟨fun σ' H'=>∃ (w:Way) (o16:Option V),σ'=[some (.ref a),o1,some (.ref l),o3,o4,o5,o6,some (.ref n),some (.ref d),some (.ref n0),some (nV (widthL ls)),some (tx l1),o12,o13,some (tx w.1),some (tx w.2),o16,none,none]/\Same H H'/\w ∈ spotsOf N.2.1,?_,?_⟩
   ·refine aO (s3.seq hS) (by decide) (by decide) (by decide) (by decide) fun r1 hr1=>?_
    walk_at "rd";refine ite2 (fun g=>?_) fun g=>⟨(at0 nm (N.2.1.length - 1),at0 ds 0),none,rfl,s3,R.spot⟩
    refine ⟨_,_,.inr (SqT.of eN),rfl,_,_,.inr (SqT.of eN),rfl,_,.inl (SqL.of ehv),?_⟩;refine aO (s3.seq hS) (by decide) (by decide) (by omega) (by omega) fun r2 hr2=>?_
    walk_at "rd";have hr2':r2 < N.2.1.length:=by omega
    obtain ⟨v,hv1,t2,hq,rfl,et2,hHo⟩:=aD phv (List.getElem?_eq_getElem hr2');have hmx:=List.getElem_mem hr2';generalize N.2.1[r2]=x at hmx et2 hHo;obtain ⟨ga,wa,eh,⟨gv,eg,pg⟩,hWx⟩:=hHo;have gvl:=pg.length;have g1:=R.g1 x hmx;have g8:=(nw.ok.house x hmx).g3;refine ⟨_,_,.inl (SqL.of ehv),bo hv1,?_⟩;walk_at "rd";refine ⟨[_,_],.inr (SqT.of et2),rfl,_,[_],rfl,_,[],rfl,rfl,?_⟩;walk_at "rd";refine ⟨_,_,.inr (SqT.of eh),rfl,_,_,.inr (SqT.of eh),rfl,_,.inl (SqL.of eg),?_⟩;refine aO (s3.seq hS) (by decide) (by decide) (by omega) (by omega) fun r3 hr3=>?_
    have hr3':r3 < x.2.1.length:=by omega
    obtain ⟨v2,hv2,t3,rp,rfl,et3,_⟩:=aD pg (List.getElem?_eq_getElem hr3');walk_at "rd";refine ⟨_,_,.inl (SqL.of eg),bo hv2,_,_,.inr (SqT.of et3),rfl,?_⟩;exact ⟨(x.1,x.2.1[r3].1),_,rfl,s3,by unfold spotsOf; exact List.mem_flatMap.mpr ⟨x,hmx,List.mem_map.mpr ⟨_,List.getElem_mem hr3',rfl⟩⟩⟩
   ·rintro σ' H4 ⟨w,o16,rfl,s4,hw⟩;exact fun C hC=>hC a n0 N ps (widthL ls) w l1 o1 _ o3 o4 o5 o6 _ _ _ o12 o13 o16 (hN.same s4) nw hw hl1 hb1 q
theorem names9 {m p:Nat} {b:List Nat} (hb:Low b) (hl:b.length<=7):Names 9 ((List.range 9).map fun j=>b.take p++[97+(m+7*j) % 26]++b.drop p) where
 len:=by simp
 nd:=ix _ fun i j hi hj e=>by
  have e1:=List.append_cancel_right e;have e2:=List.append_cancel_left e1;have e3:97+(m+7*i) % 26=97+(m+7*j) % 26:=by simpa using e2
  omega
 low:=fun l hl=>by
  obtain ⟨j,_,rfl⟩:=List.mem_map.mp hl;intro d hd;rcases List.mem_append.mp hd with hd | hd
  ·rcases List.mem_append.mp hd with hd | hd
   ·exact hb d (List.mem_of_mem_take hd)
   ·rw [List.mem_singleton.mp hd];have:=Nat.mod_lt (m+7*j) (show 26 > 0 by decide);exact ⟨by omega,by omega⟩
  ·exact hb d (List.mem_of_mem_drop hd)
 short:=fun l hl=>by
  obtain ⟨j,_,rfl⟩:=List.mem_map.mp hl;simp;omega
 kind:=.inr ⟨b.take p,b.drop p,fun l hl=>by
  obtain ⟨j,hj,rfl⟩:=List.mem_map.mp hl;exact ⟨_,rfl⟩⟩
theorem rk {l m:List Nat} (h:l.Perm m):l.sum=m.sum:=by
 induction h with
 | nil=>rfl
 | cons x _ ih=>rw [List.sum_cons,List.sum_cons,ih]
 | swap x y l=>rw [List.sum_cons,List.sum_cons,List.sum_cons,List.sum_cons]; omega
 | trans _ _ a b=>exact a.trans b
theorem sC {ls:List Fld} {z0 z1 z2:Nat} (pe:ls.Perm [([99,111,117,110,116],z0),(toT,z1),([114,101,115,116],z2)]) (b0:5<=z0) (b1:z0<=24) (b2:1<=z1) (b3:z1<=4) (b4:1<=z2) (b5:z2<=19):LayOk ls:=by
 have hw:widthL ls=z0+z1+z2:=by
  unfold widthL;rw [rk (pe.map (·.2))];simp;omega
 have hm:∀ x ∈ ls,x=([99,111,117,110,116],z0)\/x=(toT,z1)\/x=([114,101,115,116],z2):=fun x hx=>by
  have:=pe.mem_iff.mp hx;simpa using this
 have nd:(ls.map (·.1)).Nodup:=by
  rw [(pe.map (·.1)).nodup_iff];show [[99,111,117,110,116],toT,[114,101,115,116]].Nodup;decide
 refine ⟨?_,by omega,by omega,by rw [pe.length_eq]; simp,fun x hx=>?_,nd,fun x hx=>?_⟩
 ·have hx:(toT,z1) ∈ ls:=pe.mem_iff.mpr (by simp);obtain ⟨u,v,rfl⟩:=List.append_of_mem hx;have e:=b8 u ((toT,z1)::v) toT 0 (fun y hy z=>by
   rw [List.map_append,List.map_cons] at nd;have:=(List.nodup_append.mp nd).2.2 y.1 (List.mem_map.mpr ⟨y,hy,rfl⟩) toT List.mem_cons_self;exact this z)
  refine ⟨widthL u,widthL u+z1,?_,by omega,?_⟩
  ·rw [e];unfold spanF;rw [if_pos rfl];simp
  ·unfold widthL;rw [List.map_append,List.sum_append,List.map_cons,List.sum_cons];show (u.map (·.2)).sum+z1<=(u.map (·.2)).sum+(z1+_);omega
 ·rcases hm x hx with rfl | rfl | rfl <;> dsimp only <;> omega
 ·rcases hm x hx with rfl | rfl | rfl <;> exact ⟨by intro c hc; simp [toT] at hc; omega,by simp [toT],by simp [toT]⟩
noncomputable def ij (K:Frag):Sp:=fun vs H Q _=>match vs with
 | [.ref a]=>∃ ns:List Int,SqL K H a (ns.map V.int)/\ns.length<=63/\∀ H',Q (.bl true) H'
 | _=>False
theorem vN (T:Top K mg) {f:Addr} {fd:FuncData} (F:Fun K "law" "law" eC f fd):FnOk P w K mg base CX0 12 f fd ["_law_script"] (ij K):=by
 refine F.ok aU (by intro vs H Q E h; unfold ij at h; split at h <;> first | rfl | exact h.elim) (fun cdv A outer s H vs Q E hr h=>?_);unfold ij at h;split at h
 case h_2=>exact h.elim
 refine ⟨_,(af (am (i:=1) aU.nd rfl lc (aZ (aa (aw aB ae (av (ar T) hr.m rfl (aa (qv 0) (aa ae (aa ae ad))))) (aa (aw aB ae (av (ar T) hr.m rfl (aa (qv 0) (aa ae (aa ae ad))))) (aa (aw aB ae (av (ar T) hr.m rfl (aa (qv 0) (aa ae (aa ae ad))))) ad)))))
   (bZ (aI (aC aN (av (ar T) hr.m rfl (aa (qv 0) (aa ae (aa ae ad)))) ae) (ai (am (i:=1) aU.nd rfl lc (aZ (aa ae (aa ae (aa ae ad)))))) au)
   (af (am (i:=2) aU.nd rfl lc (av (aV T) hr.m rfl (aa (qv 0) (aa ae (aa (aZ (aa (aq (aa (qs [99,111,117,110,116]) (aa (ak (ixE K rfl) (qv 1) ae (fun _ _=>rfl)) ad))) (aa (aq (aa (qs [116,111]) (aa (ak (ixE K rfl) (qv 1) ae (fun _ _=>rfl)) ad))) (aa (aq (aa (qs [114,101,115,116]) (aa (ak (ixE K rfl) (qv 1) ae (fun _ _=>rfl)) ad))) ad)))) ad)))))
   (af (am (i:=3) aU.nd rfl lc (bp (slE K rfl) (qs [104,97,114,98,111,117,114]) cp (bx (av (ar T) hr.m rfl (aa (qv 0) (aa ae (aa ae ad)))))))
   (af (am (i:=4) aU.nd rfl lc (av (ar T) hr.m rfl (aa (qv 0) (aa ae (aa (aw aB (aE (lenE K rfl) rfl T.bF be (aa (qv 3) ad)) ae) ad)))))
   (af (am (i:=5) aU.nd rfl lc (av (ar T) hr.m rfl (aa (qv 0) (aa ae (aa ae ad)))))
   (af (am (i:=6) aU.nd rfl lc (qs [97,98,99,100,101,102,103,104,105,106,107,108,109,110,111,112,113,114,115,116,117,118,119,120,121,122]))
   (af (uj (i:=7) (nt:=1) (fi:=[3,6,4,5]) (N':=["_law_h", "_law_body", "_law_letters", "_law_at", "_law_start"]) aU.nd rfl lc rfl (cscope rfl (by decide +kernel)) (cnames (N:=["_law_script", "_law_sizes", "_law_layout", "_law_body", "_law_at", "_law_start", "_law_letters", "_law_names_here", "_law_doors", "_law_net", "_law_width_here", "_law_letter", "_law_first", "_law_behind", "_law_house", "_law_door", "_law_own", "_law_due", "_law_handed"]) (sc:=defScope eC) rfl rfl (by decide +kernel)) (ck (by decide)) (bC rfl T.b7 ae) (fun _ _ _ _ _=>(aj (i:=0) (by show (["_law_h", "_law_body", "_law_letters", "_law_at", "_law_start"]:List Str).Nodup; decide +kernel) rfl lc)) (fun _ _ _ _ _=>bw) (fun _ _ _ _ _=>(aw aB (aw aB (bp (slE K rfl) (qv 1) cp (bx (qv 3))) (ak (ixE K rfl) (qv 2) (aw dX (aw aB (qv 4) (aw bj ae (qv 0))) ae) (fun _ _=>rfl))) (bp (slE K rfl) (qv 1) (bx (qv 3)) cp))))
   (af (am (i:=8) aU.nd rfl lc (av (km T) hr.m rfl (aa (qv 0) (aa ae (aa ae ad)))))
   (af (am (i:=9) aU.nd rfl lc (av (mn T) hr.m rfl (aa (qv 0) (aa (qv 2) (aa (qv 8) (aa (qv 7) ad))))))
   (tX T hr))))))))))),?_⟩
 rename_i a;obtain ⟨ns,hS,_,q⟩:=h;walk_at "rd";refine aO hS (by decide) (by decide) (by decide) (by decide) fun r0 hr0=>?_
 walk_at "rd";refine aO hS (by decide) (by decide) (by decide) (by decide) fun r1 hr1=>?_
 walk_at "rd";refine aO hS (by decide) (by decide) (by decide) (by decide) fun r2 hr2=>?_
 walk_at "rd";refine ⟨by decide,fun p0 hp0=>?_⟩;have s0:=ag hp0 (.lst [V.int (5+(r0:Int)),V.int (1+(r1:Int)),V.int (1+(r2:Int))]);have e0:upd H p0 (.lst [V.int (5+(r0:Int)),V.int (1+(r1:Int)),V.int (1+(r2:Int))]) p0=some (.lst [V.int (5+(r0:Int)),V.int (1+(r1:Int)),V.int (1+(r2:Int))]):=upd_same;generalize upd H p0 (.lst [V.int (5+(r0:Int)),V.int (1+(r1:Int)),V.int (1+(r2:Int))])=H0 at s0 e0 ⊢;refine ⟨fun σ' H'=>∃ (p:Addr) (z0 z1 z2:Nat),σ'=[some (.ref a),some (.ref p),none,none,none,none,none,none,none,none,none,none,none,none,none,none,none,none,none]/\Same H H'/\H' p=some (.lst [nV z0,nV z1,nV z2])/\5<=z0/\z0<=24/\1<=z1/\z1<=4/\1<=z2/\z2<=19,?_,?_⟩
 ·refine aO (s0.seq hS) (by decide) (by decide) (by decide) (by decide) fun r3 hr3=>?_
  walk_at "rd";refine ite2 (fun g=>⟨by decide,fun p1 hp1=>⟨p1,5,1,1,rfl,s0.trans (ag hp1 _),upd_same,by omega,by omega,by omega,by omega,by omega,by omega⟩⟩) fun g=>⟨p0,5+r0,1+r1,1+r2,rfl,s0,?_,by omega,by omega,by omega,by omega,by omega,by omega⟩
  rw [e0];rfl
 ·rintro σ' H1 ⟨p,z0,z1,z2,rfl,s1,e1,b0,b1,b2,b3,b4,b5⟩;walk_at "rd";refine ⟨_,_,.inl (SqL.of e1),rfl,by decide,fun a1 h1=>?_⟩;have k1:=ag h1 (.tup [V.str (st [99,111,117,110,116]),nV z0]);have x1:upd H1 a1 (.tup [V.str (st [99,111,117,110,116]),nV z0]) a1=some (.tup [V.str (st [99,111,117,110,116]),nV z0]):=upd_same;generalize upd H1 a1 (.tup [V.str (st [99,111,117,110,116]),nV z0])=G1 at k1 x1 ⊢;refine ⟨_,_,.inl (SqL.of (k1 _ _ e1)),rfl,by decide,fun a2 h2=>?_⟩;have k2:=ag h2 (.tup [V.str (st [116,111]),nV z1]);have x2:upd G1 a2 (.tup [V.str (st [116,111]),nV z1]) a2=some (.tup [V.str (st [116,111]),nV z1]):=upd_same;generalize upd G1 a2 (.tup [V.str (st [116,111]),nV z1])=G2 at k2 x2 ⊢;refine ⟨_,_,.inl (SqL.of (k2 _ _ (k1 _ _ e1))),rfl,by decide,fun a3 h3=>?_⟩;have k3:=ag h3 (.tup [V.str (st [114,101,115,116]),nV z2]);have x3:upd G2 a3 (.tup [V.str (st [114,101,115,116]),nV z2]) a3=some (.tup [V.str (st [114,101,115,116]),nV z2]):=upd_same;generalize upd G2 a3 (.tup [V.str (st [114,101,115,116]),nV z2])=G3 at k3 x3 ⊢;refine ⟨by decide,fun a4 h4=>?_⟩;have k4:=ag h4 (.lst [V.ref a1,V.ref a2,V.ref a3]);have x4:upd G3 a4 (.lst [V.ref a1,V.ref a2,V.ref a3]) a4=some (.lst [V.ref a1,V.ref a2,V.ref a3]):=upd_same;generalize upd G3 a4 (.lst [V.ref a1,V.ref a2,V.ref a3])=G4 at k4 x4 ⊢;have j4:=s1.trans (k1.trans (k2.trans (k3.trans k4)));have pf:Paired (FldAt G4) [([99,111,117,110,116],z0),(toT,z1),([114,101,115,116],z2)] [V.ref a1,V.ref a2,V.ref a3]:=.cons ⟨a1,rfl,k4 _ _ (k3 _ _ (k2 _ _ x1))⟩ (.cons ⟨a2,rfl,k4 _ _ (k3 _ _ x2)⟩ (.cons ⟨a3,rfl,k4 _ _ x3⟩ .nil));refine ⟨ns,4,_,j4.seq hS,rfl,by decide,x4,by simp,fun lp H2 lv hlp s2 pm e2=>?_⟩;obtain ⟨ls,pe,pr⟩:=bM pm (L2.paired_flip pf);have hL:Lay H2 lp ls:=⟨lv,e2,kE (fun t us h=>s2 _ _ h) (L2.paired_flip pr)⟩;have ok:=sC pe b0 b1 b2 b3 b4 b5;have j5:=j4.trans s2;walk_at "rd";refine aO (j5.seq hS) (by decide) (by decide) (by decide) (by decide) fun r4 hr4=>?_
  walk_at "rd";rw [Int.toNat_natCast];have hbl:Low ([104,97,114,98,111,117,114].take r4):=fun c hc=>by
   have:=List.mem_of_mem_take hc;simp at this;omega
  have hbn:([104,97,114,98,111,117,114].take r4).length<=7:=by
   have:=List.length_take_le r4 [104,97,114,98,111,117,114];rw [List.length_take];simp;omega
  refine ⟨by omega,by omega,by omega,?_⟩;generalize [104,97,114,98,111,117,114].take r4=b at hbl hbn ⊢;refine aO (j5.seq hS) (by decide) (by decide) (by omega) (by omega) fun r5 hr5=>?_
  refine aO (j5.seq hS) (by decide) (by decide) (by decide) (by decide) fun r6 hr6=>?_
  intro D hD;refine cj (lo:=0) (n:=9) (h:=fun j=>[tx (b.take r5++[97+(r6+7*j) % 26]++b.drop r5)]) hD (by omega) (fun _=>by simp) ?_ ?_
  ·intro i H3 out non hi s3 ho _;walk_at "rd";have hm:=Nat.mod_lt (r6+7*i) (show 26 > 0 by decide);have hl1:=List.length_take_le r5 b;have hl2:(b.drop r5).length<=b.length:=by rw [List.length_drop]; omega
   have e26:((r6:Int)+7*(i:Int)) % 26=(((r6+7*i) % 26:Nat):Int):=by omega
   rw [Int.toNat_natCast,e26];refine ⟨by omega,by omega,by omega,.inl ⟨by decide,by decide⟩,_,bo (lS hm),by omega,by omega,by omega,by omega,?_,ho _ _ rfl (Same.refl _)⟩;rw [List.length_append,List.length_singleton];omega
  ·intro H3 s3 e3;have ef:(List.range 9).flatMap (fun j=>[tx (b.take r5++[97+(r6+7*j) % 26]++b.drop r5)])=((List.range 9).map fun j=>b.take r5++[97+(r6+7*j) % 26]++b.drop r5).map tx:=by
    rw [List.map_map];exact ci _ _
   rw [ef] at e3;have n9:=names9 (m:=r6) (p:=r5) hbl hbn;generalize ((List.range 9).map fun j=>b.take r5++[97+(r6+7*j) % 26]++b.drop r5)=nm at e3 n9;have j6:=j5.trans s3;refine ⟨ns,22,4,j6.seq hS,rfl,by decide,rfl,by decide,fun dp H4 ds hdp s4 e4 d4=>?_⟩;have j7:=j6.trans s4;have s34:=s3.trans s4;refine ⟨ns,ls,ds,nm,j7.seq hS,hL.same s34,ok,e4,s4 _ _ e3,d4,n9,fun n0 H5 N hn0 s5 hN ⟨ps,nw⟩ e1 g1 g9 sp gg=>?_⟩;have j8:=j7.trans s5;exact fun C hC=>hC a lp dp D n0 ns ls ds nm N ps _ _ _ _ _ (j8.seq hS) (hL.same (s34.trans s5)) (s5 _ _ e4) (s5 _ _ (s4 _ _ e3)) hN nw ⟨ok,d4,n9,e1,g1,g9,gg,sp⟩ q
end
def DefI (K:Frag) (x:Str) (t:Stmt):Prop:=∃ (f:Addr) (od an:Option Addr) (sl:Array (Option Value)) (oc kV dc pm cd ct:Value),nsIn K mainGlobals x=some (some (.ref f))/\K.lookup f=some ⟨oc,od,.func (fnOf x x (defArgs t) (defBody t) (defScope t) .none kV dc pm an cd ct),sl⟩/\codeIn K cd x=true/\keepIn K (.ref f)=true
theorem DefI.of {K:Frag} {x:Str} {t:Stmt} {f:Addr} {od an:Option Addr} {sl:Array (Option Value)} {oc kV dc pm cd ct:Value} (a:nsIn K mainGlobals x=some (some (.ref f))) (l:K.lookup f=some ⟨oc,od,.func (fnOf x x (defArgs t) (defBody t) (defScope t) .none kV dc pm an cd ct),sl⟩) (c:codeIn K cd x=true) (k:keepIn K (.ref f)=true):DefI K x t:=⟨f,od,an,sl,oc,kV,dc,pm,cd,ct,a,l,c,k⟩
theorem DefI.fn {K:Frag} {h:Heap} {mg:Str->Option Value} {x:Str} {t:Stmt} (d:DefI K x t) (X:K.In h) (G:h.Ns mainGlobals mg):Fn K mg x t:=by
 obtain ⟨f,od,an,sl,oc,kV,dc,pm,cd,ct,a,l,c,k⟩:=d;exact ⟨_,_,wu (st:=t) l c k,mg_of X G a⟩
def ExcI (K:Frag) (x:Str) (C:Addr):Prop:=nsIn K mainGlobals x=some (some (.ref C))/\PySem.W.excIn K C bmV "ValueError.__new__" = true/\PySem.W.typeIn K (.ref C)=some (.type "type")/\PySem.W.mroIn K C (.type "BaseException")=some true/\findIn K (.ref C) "__getattribute__" = some (some (.builtin "BaseException.__getattribute__"))/\findIn K (.ref C) "__getattr__" = some none/\findIn K (.ref C) "__class__" = some (some (.builtin "object.__class__"))/\PySem.W.mroIn K C (.type "object")=some true
theorem ExcI.xn {K:Frag} {h:Heap} {mg:Str->Option Value} {x:Str} {C:Addr} (e:ExcI K x C) (X:K.In h) (G:h.Ns mainGlobals mg) (sgt:PySem.W.specialIn K (.builtin "object.__class__") "__get__" = some (some (.builtin "getset_descriptor.__get__"))) (stk:PySem.W.takesIn K (.builtin "object.__class__")=some true):Xn K mg x:=
 wW X G e.1 e.2.1 e.2.2.1 e.2.2.2.1 e.2.2.2.2.1 e.2.2.2.2.2.1 e.2.2.2.2.2.2.1 e.2.2.2.2.2.2.2 sgt stk
theorem all_mk {K:Frag} {h:Heap} {mg:Str->Option Value} (X:K.In h) (G:h.Ns mainGlobals mg)
  (a0:DefI K "is_letter" eQ)
  (a1:DefI K "is_text_of" dP)
  (a2:DefI K "row_holds" fe)
  (a3:DefI K "row_within" dv)
  (a4:DefI K "row_written" cu)
  (a5:DefI K "layout_width" bR)
  (a6:DefI K "field_span" d0)
  (a7:DefI K "field_part" dw)
  (a8:DefI K "rule_first" d7)
  (a9:DefI K "is_dropped" dO)
  (a10:DefI K "way_found" fk)
  (a11:DefI K "gate_rules" dM)
  (a12:DefI K "house_does" dL)
  (a13:DefI K "sent_by" iz)
  (a14:DefI K "check_spot" dW)
  (a15:DefI K "house_named" cS)
  (a16:DefI K "line_ends" ft)
  (a17:DefI K "net_walk" gm)
  (a18:DefI K "end_by" ju)
  (a19:DefI K "ring_end" dZ)
  (a20:DefI K "net_fared" fc)
  (a21:DefI K "fared_by" gj)
  (a22:DefI K "_law_draw" eS)
  (a23:DefI K "_law_names" bX)
  (a24:DefI K "_law_width" cB)
  (a25:DefI K "_law_span" eX)
  (a26:DefI K "_law_turned" dm)
  (a27:DefI K "_law_row_at" de)
  (a28:DefI K "_law_counting" bJ)
  (a29:DefI K "_law_ring" aL)
  (a30:DefI K "_law_lies" eW)
  (a31:DefI K "_law_written" bY)
  (a32:DefI K "_law_goes" eO)
  (a33:DefI K "_law_does" eU)
  (a34:DefI K "_law_house_of" cA)
  (a35:DefI K "_law_beyond" cY)
  (a36:DefI K "_law_walk" cQ)
  (a37:DefI K "_law_same" cN)
  (a38:DefI K "_law_copy" cw)
  (a39:DefI K "_law_fared" dN)
  (a40:DefI K "law" eC)
  (eA:nsIn K mainGlobals "isinstance" = some none)
  (sX:nsIn K mainGlobals "str" = some none)
  (sQ:nsIn K mainGlobals "len" = some none)
  (sO:nsIn K mainGlobals "zip" = some none)
  (sV:nsIn K mainGlobals "sum" = some none)
  (fF:nsIn K mainGlobals "enumerate" = some none)
  (oR:nsIn K mainGlobals "dict" = some none)
  (oT:nsIn K mainGlobals "list" = some none)
  (sT:nsIn K mainGlobals "min" = some none)
  (my:nsIn K mainGlobals "range" = some none)
  (sW:nsIn K mainGlobals "int" = some none)
  (mx:nsIn K mainGlobals "tuple" = some none)
  (sN:nsIn K mainGlobals "all" = some none)
  (oS:nsIn K mainGlobals "bool" = some none)
  {qT:Addr} (iC:ExcI K "NoField" qT)
  {sY:Addr} (jQ:ExcI K "NoDoor" sY)
  {qU:Addr} (iD:ExcI K "NoHouse" qU)
  {sU:Addr} (jT:ExcI K "Misfit" sU)
  (sgt:PySem.W.specialIn K (.builtin "object.__class__") "__get__" = some (some (.builtin "getset_descriptor.__get__"))) (stk:PySem.W.takesIn K (.builtin "object.__class__")=some true)
  : Top K mg where
 iN:=a0.fn X G
 gU:=a1.fn X G
 iQ:=a2.fn X G
 gS:=a3.fn X G
 fZ:=a4.fn X G
 fI:=a5.fn X G
 gW:=a6.fn X G
 gR:=a7.fn X G
 gL:=a8.fn X G
 gT:=a9.fn X G
 iS:=a10.fn X G
 gP:=a11.fn X G
 gQ:=a12.fn X G
 lw:=a13.fn X G
 gZ:=a14.fn X G
 fX:=a15.fn X G
 iM:=a16.fn X G
 jU:=a17.fn X G
 nK:=a18.fn X G
 jR:=a19.fn X G
 iJ:=a20.fn X G
 jY:=a21.fn X G
 iO:=a22.fn X G
 gY:=a23.fn X G
 gX:=a24.fn X G
 iP:=a25.fn X G
 fW:=a26.fn X G
 gb:=a27.fn X G
 eJ:=a28.fn X G
 iL:=a29.fn X G
 iK:=a30.fn X G
 fH:=a31.fn X G
 iR:=a32.fn X G
 iU:=a33.fn X G
 eI:=a34.fn X G
 fY:=a35.fn X G
 iT:=a36.fn X G
 fB:=a37.fn X G
 fJ:=a38.fn X G
 gM:=a39.fn X G
 vn:=a40.fn X G
 aH:=PySem.W.mg_none_of X G eA
 pI:=PySem.W.mg_none_of X G sX
 bF:=PySem.W.mg_none_of X G sQ
 jX:=PySem.W.mg_none_of X G sO
 sR:=PySem.W.mg_none_of X G sV
 fE:=PySem.W.mg_none_of X G fF
 sP:=PySem.W.mg_none_of X G oR
 fG:=PySem.W.mg_none_of X G oT
 pH:=PySem.W.mg_none_of X G sT
 b7:=PySem.W.mg_none_of X G my
 pJ:=PySem.W.mg_none_of X G sW
 gO:=PySem.W.mg_none_of X G mx
 vo:=PySem.W.mg_none_of X G sN
 jW:=PySem.W.mg_none_of X G oS
 iE:=iC.xn X G sgt stk
 jV:=jQ.xn X G sgt stk
 iB:=iD.xn X G sgt stk
 jS:=jT.xn X G sgt stk
theorem law_bind {P:Program} {w:World} {K:Frag} {mg:Str->Option Value} (T:Top K mg):∃ f fd,(∀ base:Heap,FnOk P w K mg base CX0 12 f fd ["_law_script"] (ij K))/\(∀ (s:Shared) (u:Value),BindsTo s fd ⟨[u],[]⟩ [("_law_script",u)])/\mg "law" = some (.ref f):=by
 obtain ⟨f,fd,F,m⟩:=T.vn;refine ⟨f,fd,fun base=>vN T F,?_,m⟩;obtain ⟨oc,od,kV,doc,pm,an,cdv,ct,osl,rfl,lk,hcd⟩:=F.ex;exact fun s u=>.of_eq rfl
theorem walk {l:PySem.W.OpenLaw} {q:Program} {loose:List Str} {XP:(Str->Option Value)->Heap->Prop} {α:Type} {Yf:Shared->α} {Ya:World->α} {d:DefRec} {K:Params->Frag} (hn:l.most=some 63) (hdf:d.params.defaults=[])
  (hY:∀ (w:World) (s:Shared),Yf s=Ya w->(K w.params).In s.heap/\0 < s.toks)
  (F:∀ (w:World) (mg:Str->Option Value) (fa:Addr) (h:Heap),(K w.params).In h->h.Ns mainGlobals mg->mg d.name=some (.ref fa) ->
   ∃ fd:FuncData,(∀ (s:Shared) (u:Value),BindsTo s fd ⟨[u],[]⟩ [("_law_script",u)])/\∀ base:Heap,(K w.params).In base->base.Ns mainGlobals mg->FnOk l.prog w (K w.params) mg base CX0 12 fa fd ["_law_script"] (ij (K w.params))):
  PySem.W.WalkX q loose XP Yf Ya l.row.toRowW d [] (fun f vs=>PySem.call f vs):=
 L2.walk_ofX (n:=63) (k:=12) (x := "_law_script") (CX:=fun _=>CX0) (sp:=fun w=>ij (K w.params)) hn (by decide) hdf ⟨rfl,by decide,by decide,rfl⟩ hY F (fun _ _ a ns hl _ hS=>⟨ns,hS,hl,fun _=>rfl⟩) fun _ _ _ _ _ z=>z
end Law
open PySem PySem.W PyProof.Rows
local macro_rules | `(tactic| walk_at "df")=>`(tactic| (refine' Law.DefI.of ?a ?l ?c ?k; (case a=>k_is); (case l=>k_is); (case c=>k_is); (case k=>k_is)))
local macro_rules | `(tactic| walk_at "ec")=>`(tactic| (refine' ⟨?n,?q,?t,?b,?g,?h,?a,?o⟩; (case n=>k_is); (case q=>k_exc); (case t=>k_is); (case b=>k_is); (case g=>k_is); (case h=>k_is); (case a=>k_is); (case o=>k_is)))
set_option maxRecDepth 100000 in
set_option maxHeartbeats 0 in
theorem PySem.Challenge.cw_throng_k39_long_walks_and_rings_holds : PySem.Challenge.rw_throng_k39_long_walks_and_rings.Holds := by
 w_on; o_law; z_head; (case hw=>w_witness2)
 k_fill
 refine Law.walk (l:=PySem.Challenge.rw_throng_k39_long_walks_and_rings) rfl rfl (fun w s Y=>L2.z_pos Y (fun _=>rfl) (by decide)) ?F
 case F=>
  intro w mg fa h KX G hmg;have T:Law.Top (L2.KOf KX) mg:=by
   dsimp only [L2.KOf];refine' Law.all_mk KX G ?a0 ?a1 ?a2 ?a3 ?a4 ?a5 ?a6 ?a7 ?a8 ?a9 ?a10 ?a11 ?a12 ?a13 ?a14 ?a15 ?a16 ?a17 ?a18 ?a19 ?a20 ?a21 ?a22 ?a23 ?a24 ?a25 ?a26 ?a27 ?a28 ?a29 ?a30 ?a31 ?a32 ?a33 ?a34 ?a35 ?a36 ?a37 ?a38 ?a39 ?a40 ?eA ?sX ?sQ ?sO ?sV ?fF ?oR ?oT ?sT ?my ?sW ?mx ?sN ?oS ?iC ?jQ ?iD ?jT ?sgt ?stk
   (case a0 | a1 | a2 | a3 | a4 | a5 | a6 | a7 | a8 | a9 | a10 | a11 | a12 | a13 | a14 | a15 | a16 | a17 | a18 | a19 | a20 | a21 | a22 | a23 | a24 | a25 | a26 | a27 | a28 | a29 | a30 | a31 | a32 | a33 | a34 | a35 | a36 | a37 | a38 | a39 | a40=>walk_at "df")
   (case eA | sX | sQ | sO | sV | fF | oR | oT | sT | my | sW | mx | sN | oS=>k_is)
   (case iC | jQ | iD | jT=>walk_at "ec")
   (case sgt=>k_is); (case stk=>k_is)
  obtain ⟨f,fd,F,b,m⟩:=Law.law_bind (P:=PySem.Challenge.pw_throng_k39_long_walks_and_rings) (w:=w) T;have e0:=hmg.symm.trans m;cases e0;exact ⟨fd,b,fun base _ _=>F base⟩
#print axioms PySem.Challenge.cw_throng_k39_long_walks_and_rings_holds
