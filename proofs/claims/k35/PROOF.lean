import PyProof.Rows.All
import Wide.All
import OpenK.AllK
import Wide.FinOn
import Lean
import PyProof.EqAt
import PyProof.EqKinds
import PyProof.TupleCall
import KE.KLam
import KE.KSortKey
import KE.KSorted
import PySem.Challenge.RW_throng_k35_nets_let_by
namespace PySem.W.Fast
def tw1363188044628083840:=0
def tw9288918989260820640:=0
def tw17244965254695037152:=0
def tw13551333863285914080:=0
def tw9250341478294567392:=0
def tw6844824040619782656:=0
def tw1240074216321608320:=0
def tw18248141981572620992:=0
def tw783158781868014272:=0
def tw14947082335565388544:=0
def tw13369712325122498464:=0
def tw8258658930013993057:=0
def tw11738052733370575009:=0
def tw14997281543341171873:=0
def tw13013682907908847809:=0
def tw7484981741725471969:=0
def tw14943813755968725377:=0
def tw1249692304622799233:=0
def tw13800528021009268193:=0
def tw14589516945618523649:=0
def tw8494198746829548033:=0
def tw14786008227988683329:=0
def tw7170262534497107649:=0
def tw18282216316366279521:=0
def tw14842305286527519617:=0
def tw16974294466978623554:=0
def tw10668122037718438146:=0
def tw15518947244289387906:=0
def tw17950578237358905762:=0
def tw6194048619057288834:=0
def tw5971519834752891586:=0
def tw17117793548945909538:=0
def tw6403089940225797986:=0
def tw2372336729174292579:=0
def tw6477092828504042915:=0
def tw851103495726190147:=0
def tw6724899794003823267:=0
def tw6539087836821224099:=0
def tw5470663306872716003:=0
def tw12584631628097890019:=0
def tw10570231854037688099:=0
def tw3202959297371982627:=0
def tw12103248556340103971:=0
def tw2611899181109326691:=0
def tw5866057084055363716:=0
def tw2269860016174575748:=0
def tw73859157943731364:=0
def tw8509908157752658244:=0
def tw17056708063891260004:=0
def tw8350630707808535140:=0
def tw15656413505547822724:=0
def tw8042574501184609220:=0
def tw14554989846591125509:=0
def tw57232643641706533:=0
def tw895845852810794085:=0
def tw14994192895601997925:=0
def tw9089279177684014245:=0
def tw15500824566012913829:=0
def tw12770961125835538597:=0
def tw3316643380792858821:=0
def tw13334294301423700197:=0
def tw15161347501750230405:=0
def tw12170303155914114501:=0
def tw16087993306702551749:=0
def tw4357202054098495301:=0
def tw18363690104063987525:=0
def tw14797727427965224805:=0
def tw14389551708508638085:=0
def tw16954594846339973029:=0
def tw15890347039916363717:=0
def tw6994174267384127461:=0
def tw12124432223233416165:=0
def tw9208941194123945990:=0
def tw11795072774910062630:=0
def tw6579851328566192454:=0
def tw17320913250910658918:=0
def tw6370008883364788710:=0
def tw29428294948351558:=0
def tw11222789788666431078:=0
def tw3105407232711470918:=0
def tw13522243107335761927:=0
def tw4000945981961020551:=0
def tw17582745764957368647:=0
def tw11678585483950418407:=0
def tw13715131392905298599:=0
def tw10476645886934617863:=0
def tw10210287371342776263:=0
def tw1969346741892084679:=0
def tw10216821211767158792:=0
def tw7663140821454793864:=0
def tw3052568223791364232:=0
def tw10560967919582066856:=0
def tw9494803964540858568:=0
def tw989308552228661448:=0
def tw11832770994022736104:=0
def tw6084448595723195912:=0
def tw17425667185533328968:=0
def tw14641620183306345064:=0
def tw12400941092053057160:=0
def tw17851194207790762696:=0
def tw4495259292754510664:=0
def tw2217715762693422952:=0
def tw15454238948187831240:=0
def tw8049557659701977193:=0
def tw392023064176376969:=0
def tw11181543568355128521:=0
def tw3085449592650185929:=0
def tw779299610145171881:=0
def tw14225301218065153577:=0
def tw8127128699549607529:=0
def tw11993351606457980521:=0
def tw14889408869643506537:=0
def tw1719672976985108522:=0
def tw771040868477313130:=0
def tw1149085187588469066:=0
def tw12241628070996436362:=0
def tw16125095102042867114:=0
def tw7224436625425536426:=0
def tw8131424938132618698:=0
def tw3028499236572121674:=0
def tw1074556107531719338:=0
def tw15736526005660049066:=0
def tw1551054424053405482:=0
def tw4235899429670769546:=0
def tw6537153424869295211:=0
def tw1017695385324489227:=0
def tw8128694749905850923:=0
def tw7091168917535549995:=0
def tw6725462980486336299:=0
def tw622331885424909099:=0
def tw4057532656653258603:=0
def tw4744696472374340587:=0
def tw10589309649970549964:=0
def tw17561871969126310124:=0
def tw189833380257949932:=0
def tw4566116465721832940:=0
def tw7902895694583760460:=0
def tw7080002457505613452:=0
def tw7276815467558514668:=0
def tw7771292606562951373:=0
def tw18383033209924399469:=0
def tw10803823488764868973:=0
def tw1945402768671907277:=0
def tw4724292735667862093:=0
def tw10639114067909149325:=0
def tw11770981898410141485:=0
def tw2942839095937730381:=0
def tw5272952200694524781:=0
def tw870357885714058125:=0
def tw8482826894521170030:=0
def tw16984766201383708878:=0
def tw17480525252250200526:=0
def tw13964170599395796526:=0
def tw4472276523171098286:=0
def tw6952356930776915758:=0
def tw2243794434390417294:=0
def tw6408824976623961998:=0
def tw12997152810432454574:=0
def tw7996991379026224110:=0
def tw10884649777190587374:=0
def tw16166936990933436463:=0
def tw16462346305387292751:=0
def tw10355140636118886511:=0
def tw17443844725559743663:=0
def tw4344379041207027951:=0
def tw16266632237599633743:=0
def tw1980546919124828591:=0
def tw9420653786104155663:=0
def tw5872295591308968591:=0
def tw123191748802725551:=0
def tw17711091936882868943:=0
def tw818439560287131439:=0
def tw1659902379710577455:=0
def tw2494435612146218831:=0
def tw10424849810783554415:=0
def tw4385663351673379759:=0
def tw13332916155935502287:=0
def tw8448186252553338831:=0
def tw12827036316760118288:=0
def tw13216949956696072240:=0
def tw2063414761060452592:=0
def tw9476462406130978064:=0
def tw14937918511495135568:=0
def tw3067120415459772848:=0
def tw6074072261700321808:=0
def tw4856374349742134992:=0
def tw6457911280064692080:=0
def tw4377545395858605008:=0
def tw444462103100707824:=0
def tw14722814919167938577:=0
def tw10923593859086926033:=0
def tw16180600009165072625:=0
def tw16232730333314422033:=0
def tw6655605257575064849:=0
def tw4498290670275600881:=0
def tw13580827001141176817:=0
def tw5094185851403359793:=0
def tw8750482215105237681:=0
def tw11763897932343098033:=0
def tw4669834561975866097:=0
def tw14148667010380303217:=0
def tw14498454064888277905:=0
def tw7851414493332962257:=0
def tw1344250170615069938:=0
def tw2363651194011197746:=0
def tw7099330074858463538:=0
def tw1758691994819797330:=0
def tw5462558982169106162:=0
def tw3001350651151401714:=0
def tw17444000039525791730:=0
def tw9127579312022296883:=0
def tw12153402550781119859:=0
def tw18087290955165380979:=0
def tw9962432080047295091:=0
def tw13358336962207271731:=0
def tw16773089146155278163:=0
def tw1430332831003095124:=0
def tw1135533870363274388:=0
def tw13810310944083565748:=0
def tw6589641547663918356:=0
def tw659318396967311636:=0
def tw2395203764151505204:=0
def tw13116604587706129844:=0
def tw10952607752202333716:=0
def tw6186436965554800212:=0
def tw997863770913119956:=0
def tw437034147556377300:=0
def tw15113251966297296596:=0
def tw7349831201796201236:=0
def tw15550088478798308148:=0
def tw17268335079703803796:=0
def tw14100946620605164468:=0
def tw8099509093018363860:=0
def tw10811713834152877077:=0
def tw18327944643168047157:=0
def tw6546037733739291733:=0
def tw4926880719798103125:=0
def tw16191058583928021173:=0
def tw14597060827057846453:=0
def tw4860128721799609621:=0
def tw12611729171610317109:=0
def tw2570964534689872245:=0
def tw7781089805861945045:=0
def tw6689804204752865045:=0
def tw11296231916895829110:=0
def tw13168639694981949558:=0
def tw11590544661472520598:=0
def tw11244838214885979542:=0
def tw16007762179436327350:=0
def tw9038664189092125206:=0
def tw13704410148634682070:=0
def tw4364095698968634102:=0
def tw14455028815957783446:=0
def tw17420875668969870359:=0
def tw12540337211846337751:=0
def tw622675935573568023:=0
def tw10584032373012546199:=0
def tw2237570332679333591:=0
def tw5303190596688554711:=0
def tw6479396794534553431:=0
def tw6473336981437363095:=0
def tw12772815787770687576:=0
def tw18423015482567499864:=0
def tw2187626041737487736:=0
def tw14411689517323762072:=0
def tw15696638744228553112:=0
def tw6841473823494565336:=0
def tw16246002113512144344:=0
def tw15735323601385062008:=0
def tw448491141585092280:=0
def tw17443278703182266040:=0
def tw15008367561835909944:=0
def tw14575817656878393144:=0
def tw15269515775992873880:=0
def tw1261638055909328792:=0
def tw4993230707601331160:=0
def tw3072945443595518009:=0
def tw259651665123076153:=0
def tw3827757792056643705:=0
def tw10069462826557564025:=0
def tw17794649176376078617:=0
def tw9341802467451816249:=0
def tw7492485048363277849:=0
def tw1258407823305855577:=0
def tw3657687941317810777:=0
def tw17915022133432912537:=0
def tw16948873608361252697:=0
def tw17291449526405548921:=0
def tw18073230575352120217:=0
def tw7287892257077781401:=0
def tw12043664008624725977:=0
def tw1150319336603379673:=0
def tw17862353466782676058:=0
def tw547978312763118906:=0
def tw15432916415303863770:=0
def tw12206885808627909114:=0
def tw403299761146349050:=0
def tw8375677366638161434:=0
def tw8247131255468701306:=0
def tw6315511694001635994:=0
def tw5387576316089856666:=0
def tw7630717480284455642:=0
def tw10944665216771870490:=0
def tw2892219289908102970:=0
def tw13318237730027598682:=0
def tw9596179041647275994:=0
def tw3377735484932369402:=0
def tw17888919671527022683:=0
def tw12811184745653171387:=0
def tw588168016258549979:=0
def tw6586380460003399131:=0
def tw16624494224322548187:=0
def tw2824732516783679963:=0
def tw5610101770043215483:=0
def tw3274116209846932091:=0
def tw826829807328890587:=0
def tw2254551337489245947:=0
def tw6974771950302557979:=0
def tw12266069811040775995:=0
def tw7908240885467602811:=0
def tw8595664578528337787:=0
def tw14886154607720711067:=0
def tw15173428345747391740:=0
def tw17885978395841108284:=0
def tw3055093833858351516:=0
def tw12409652061924918684:=0
def tw1850560485339991516:=0
def tw12296178397187382812:=0
def tw13877250897572186748:=0
def tw16062395694656567964:=0
def tw17683258660973459228:=0
def tw1743431581008007964:=0
def tw3031413163591014236:=0
def tw8186856019830540284:=0
def tw13046855708656208989:=0
def tw3126674665237252221:=0
def tw5513237493918036253:=0
def tw6354825133557227837:=0
def tw7163547933168866685:=0
def tw3125450356658700701:=0
def tw10743750791860702717:=0
def tw17028337359147326141:=0
def tw7799129147643053789:=0
def tw12629636039247308637:=0
def tw1550071437631954813:=0
def tw11723800352586967037:=0
def tw11729350876565846046:=0
def tw17785090229597010974:=0
def tw11404109759601025278:=0
def tw2218347065043327486:=0
def tw2902130944817354270:=0
def tw15922921149942101534:=0
def tw10501814596996337214:=0
def tw11286419231797651198:=0
def tw11267209345391079230:=0
def tw11887298150655244094:=0
def tw8247282310011804574:=0
def tw2654316836495038430:=0
def tw4739734105388857310:=0
def tw10819062772816471167:=0
def tw11893548146708419807:=0
def tw16516986622275872031:=0
def tw5506640176920961343:=0
def tw10807027237953654079:=0
def tw13655589335858454847:=0
def tw5822003646514570847:=0
def tw81143157492219615:=0
def tw2276869570677292799:=0
def tw4886078503889175391:=0
def tw658599208614338463:=0
def tw17301331176291913528:=0
end PySem.W.Fast
open PySem.W (Frag nsIn keepIn fnOf codeIn mg_of findIn)
set_option compiler.extract_closed false
set_option Elab.async false
set_option linter.all false
set_option maxRecDepth 100000
namespace L2
open PySem PySem.Spec PyProof.Rows
noncomputable abbrev Key:=Sum Int Str
noncomputable def keyIs:Key -> Value -> Bool
 | .inl k,v=>Value.isInt k v
 | .inr x,v=>Value.isStrOf x v
noncomputable def keyH (w:World):Key -> Int
 | .inl k=>hashInt k
 | .inr x=>hashStr w x
theorem keyIs_shape:∀ {k:Key} {v:Value},keyIs k v = true -> (∃ i t,k = Sum.inl i /\ v = Value.int i t) \/ (∃ x t,k = Sum.inr x /\ v = Value.str x t)
 | .inl i,v,h=>by
  obtain ⟨t,e⟩:=Value.isInt_shape (k:=i) (v:=v) h
  exact .inl ⟨i,t,rfl,e⟩
 | .inr x,v,h=>by
  obtain ⟨t,e⟩:=Value.isStrOf_shape (x:=x) (v:=v) h
  exact .inr ⟨x,t,rfl,e⟩
theorem key_ll (a b:Int):decide ((Sum.inl a:Key) = Sum.inl b) = (a == b):=by
 by_cases e:a = b
 ·subst e; simp
 ·have h:¬ (Sum.inl a:Key) = Sum.inl b:=fun q=>e (Sum.inl.inj q)
  rw [decide_eq_false h]
  exact (beq_eq_false_iff_ne.mpr e).symm
theorem key_rr (a b:Str):decide ((Sum.inr a:Key) = Sum.inr b) = decide (a = b):=by
 by_cases e:a = b
 ·subst e; simp
 ·have h:¬ (Sum.inr a:Key) = Sum.inr b:=fun q=>e (Sum.inr.inj q)
  rw [decide_eq_false h,decide_eq_false e]
theorem key_lr (a:Int) (b:Str):decide ((Sum.inl a:Key) = Sum.inr b) = false:=decide_eq_false (fun q=>nomatch q)
theorem key_rl (a:Str) (b:Int):decide ((Sum.inr a:Key) = Sum.inl b) = false:=decide_eq_false (fun q=>nomatch q)
noncomputable def mixKind (prog:Program) (w:World):PySem.KeyKind prog w Key where
 is:=keyIs
 hash:=keyH w
 inj:=fun v a b ha hb=>by
  rcases keyIs_shape ha with ⟨i,t,rfl,rfl⟩ | ⟨x,t,rfl,rfl⟩
  ·rcases keyIs_shape hb with ⟨j,u,rfl,e⟩ | ⟨y,u,rfl,e⟩
   ·injection e with e1 _; rw [e1]
   ·exact nomatch e
  ·rcases keyIs_shape hb with ⟨j,u,rfl,e⟩ | ⟨y,u,rfl,e⟩
   ·exact nomatch e
   ·injection e with e1 _; rw [e1]
 byValue:=fun k v h=>by
  rcases keyIs_shape h with ⟨i,t,rfl,rfl⟩ | ⟨x,t,rfl,rfl⟩ <;> rfl
 pyHash:=fun hv h=>by
  rcases keyIs_shape hv with ⟨i,t,rfl,rfl⟩ | ⟨x,t,rfl,rfl⟩
  ·exact wpAny_pyHash_int h
  ·exact wpAny_pyHash_str h
 eqBool:=fun hu hv h=>by
  rcases keyIs_shape hu with ⟨i,t,rfl,rfl⟩ | ⟨x,t,rfl,rfl⟩
  ·rcases keyIs_shape hv with ⟨j,u,rfl,rfl⟩ | ⟨y,u,rfl,rfl⟩
   ·rw [key_ll] at h; exact wpAny_eqBool_int h
   ·rw [key_lr] at h; exact SeqAt.EqAt.int_str i t y u _ _ _ _ h
  ·rcases keyIs_shape hv with ⟨j,u,rfl,rfl⟩ | ⟨y,u,rfl,rfl⟩
   ·rw [key_rl] at h; exact SeqAt.EqAt.str_int x t j u _ _ _ _ h
   ·rw [key_rr] at h; exact wpAny_eqBool_str h
 «strs»:=fun k x t v h=>by
  rcases keyIs_shape h with ⟨i,u,rfl,e⟩ | ⟨y,u,rfl,e⟩
  ·exact nomatch e
  ·injection e with e1 _
   subst e1
   cases v <;> rfl
inductive V where
 | non | bl (b:Bool) | int (i:Int) | str (x:Str) | byt (b:Array UInt8) | flt (b:UInt64) | ref (a:Addr) | ty (n:String)
 deriving DecidableEq
noncomputable def RelV:V -> Value -> Prop
 | .non,u=>u = Value.none
 | .bl b,u=>u = Value.bool b
 | .int i,u=>∃ t,u = Value.int i t
 | .str x,u=>∃ t,u = Value.str x t
 | .byt b,u=>∃ t,u = Value.bytes b t
 | .flt b,u=>∃ t,u = Value.float b t
 | .ref a,u=>u = Value.ref a
 | .ty n,u=>u = Value.type n
noncomputable abbrev Vals:List V -> List Value -> Prop:=Paired RelV
theorem Vals.length {xs:List V} {us:List Value} (r:Vals xs us):xs.length = us.length:=Paired.length r
theorem Vals.get:∀ {xs:List V} {us:List Value} {i:Nat} {x:V},Vals xs us -> xs[i]? = some x -> ∃ u,us[i]? = some u /\ RelV x u
 | _,_,_,_,.nil,e=>by simp at e
 | _,_,0,_,.cons r _,e=>by simp at e; subst e; exact ⟨_,rfl,r⟩
 | _,_,i + 1,x,.cons _ t,e=>by
  obtain ⟨u,h1,h2⟩:=Vals.get (i:=i) (x:=x) t (by simpa using e)
  exact ⟨u,by simpa using h1,h2⟩
theorem Vals.set {x:V} {u:Value} (r:RelV x u):∀ {xs:List V} {us:List Value} (i:Nat),Vals xs us -> Vals (xs.set i x) (us.set i u)
 | _,_,_,.nil=>.nil
 | _,_,0,.cons _ t=>.cons r t
 | _,_,i + 1,.cons q t=>.cons q (Vals.set r i t)
theorem Vals.append:∀ {xs ys:List V} {us ws:List Value},Vals xs us -> Vals ys ws -> Vals (xs ++ ys) (us ++ ws)
 | _,_,_,_,.nil,s=>s
 | _,_,_,_,.cons r t,s=>.cons r (Vals.append t s)
theorem Vals.take:∀ {xs:List V} {us:List Value} (n:Nat),Vals xs us -> Vals (xs.take n) (us.take n)
 | _,_,0,_=>.nil
 | _,_,_ + 1,.nil=>.nil
 | _,_,n + 1,.cons r t=>.cons r (Vals.take n t)
theorem Vals.drop:∀ {xs:List V} {us:List Value} (n:Nat),Vals xs us -> Vals (xs.drop n) (us.drop n)
 | _,_,0,r=>r
 | _,_,_ + 1,.nil=>.nil
 | _,_,n + 1,.cons _ t=>Vals.drop n t
noncomputable def RelO:Option V -> Option Value -> Prop
 | some v,some u=>RelV v u
 | none,none=>True
 | _,_=>False
noncomputable def KV {κ:Type}:List (κ × V) -> List (κ × Value) -> Prop:=Paired fun (p:κ × V) (q:κ × Value)=>p.1 = q.1 /\ RelV p.2 q.2
noncomputable def kV:Key -> V
 | .inl i=>.int i
 | .inr x=>.str x
inductive HO where
 | lst (xs:List V)
 | tup (xs:List V)
 | dK (kvs:List (Key × V)) | dT (kvs:List (List Key × V))
 | set (S:Int -> Bool) (n:Nat)
 | ins (C dx:Addr) (fs:List (Str × V))
 | own (x:Addr)
 | xd (fs:List (Str × V))
 | met (f x:Addr)
 | rng (lo hi:Int)
 | frz (o:Obj) (u:HO)
 | tbl (ps:Array Value)
 | ext (φ:Heap -> Prop)
noncomputable abbrev Hp:=Addr -> Option HO
noncomputable def upd (H:Hp) (a:Addr) (o:HO):Hp:=fun b=>if b = a then some o else H b
theorem upd_same {H:Hp} {a:Addr} {o:HO}:upd H a o a = some o:=by unfold upd; rw [if_pos rfl]
theorem upd_ne {H:Hp} {a b:Addr} {o:HO} (h:b ≠ a):upd H a o b = H b:=by unfold upd; rw [if_neg h]
theorem ne_of_none {H:Hp} {a b:Addr} {o:HO} (h:H a = some o) (h':H b = none):a ≠ b:=by
 intro e; subst e; rw [h] at h'; cases h'
section
variable (P:Program) (w:World)
noncomputable def ObjOk (H:Hp) (h:Heap) (a:Addr):HO -> Prop
 | .lst xs=>xs.length <= sizeLine /\ ∃ (its:List Value) (n:Nat),Vals xs its /\ h.get? a = some { cls:=.type "list",data:=.seq its.toArray n }
 | .tup xs=>xs.length <= sizeLine /\ ∃ its:List Value,Vals xs its /\ IsTup h a its.toArray
 | .dK kvs=>kvs.length <= sizeLine /\ (a == sysModules) = false /\ ∃ vs,KV kvs vs /\ h.DictOf (mixKind P w) a vs
 | .dT kvs=>kvs.length <= sizeLine /\ (a == sysModules) = false /\ ∃ xs:List (List Key × Addr × Value),
   Paired (fun (p:List Key × V) (q:List Key × Addr × Value)=>p.1 = q.1 /\ H q.2.1 = some (.tup (p.1.map kV)) /\ RelV p.2 q.2.2) kvs xs /\
   ∃ o es ep,h.get? a = some o /\ o.ExactDict /\ o.data = .dict es ep /\ es.toList = xs.map (entryOfKey (tupleKind (mixKind P w))) /\ (xs.map (·.1)).Nodup
 | .set S n=>h.SetOf (intKind P w) a S n
 | .ins C dx fs=>H dx = some (.own a) /\ fs.length <= 1000 /\ dx ≠ a /\ h.get? a = some (PySem.W.instObj C dx) /\
   ∃ mA,h.Ns1 dx mA /\ (∀ f,RelO (fs.lookup f) (mA f)) /\ PySem.Within mA (fs.map (·.1))
 | .own _=>∃ o,h.get? a = some o
 | .xd fs=>∃ mA,h.Ns1 a mA /\ ∀ f,RelO (fs.lookup f) (mA f)
 | .rng lo hi=>∃ t u v,h.get? a = some { cls:=.type "range",data:=.fields #[.int lo t,.int hi u,.int 1 v] }
 | .frz o u=>h.get? a = some o /\ ObjOk H h a u
 | .tbl ps=>h.get? a = some { cls:=.none,data:=.fields ps }
 | .met f x=>h.get? a = some (PySem.W.methodObj (.ref f) (.ref x))
 | .ext φ=>φ h /\ (∃ o,h.get? a = some o) /\ ∀ h1 h2:Heap,φ h1 -> (∀ o,h1.get? a = some o -> h2.get? a = some o) -> φ h2
def HOk (H:Hp) (h:Heap):Prop:=∀ a o,H a = some o -> ObjOk P w H h a o
end
section
variable {P:Program} {w:World} {H H':Hp} {h h':Heap} {a:Addr} {o:HO}
theorem ObjOk.lt (x:ObjOk P w H h a o):a < h.objs.size:=by
 cases o with
 | lst xs=>obtain ⟨_,_,_,_,e⟩:=x; exact Heap.lt_size e
 | tup xs=>obtain ⟨_,_,_,p⟩:=x; exact p.lt
 | dK kvs=>obtain ⟨_,_,_,_,o,_,_,e,_⟩:=x; exact Heap.lt_size e
 | dT kvs=>obtain ⟨_,_,_,_,o,_,_,e,_⟩:=x; exact Heap.lt_size e
 | set S n=>obtain ⟨o,_,_,_,e,_⟩:=x; exact Heap.lt_size e
 | ins C dx fs=>obtain ⟨_,_,_,e,_⟩:=x; exact Heap.lt_size e
 | own y=>obtain ⟨_,e⟩:=x; exact Heap.lt_size e
 | xd fs=>obtain ⟨_,⟨_,_,_,e,_⟩,_⟩:=x; exact Heap.lt_size e
 | rng lo hi=>obtain ⟨_,_,_,e⟩:=x; exact Heap.lt_size e
 | frz ob u=>obtain ⟨e,_⟩:=x; exact Heap.lt_size e
 | tbl ps=>exact Heap.lt_size (show h.get? a = some _ from x)
 | met f y=>exact Heap.lt_size (show h.get? a = some _ from x)
 | ext φ=>obtain ⟨_,⟨_,e⟩,_⟩:=x; exact Heap.lt_size e
theorem Paired.mapP {α β:Type} {F G:α -> β -> Prop}:∀ {l₁:List α} {l₂:List β},Paired F l₁ l₂ -> (∀ a b,F a b -> G a b) -> Paired G l₁ l₂
 | _,_,.nil,_=>.nil
 | _,_,.cons r t,f=>.cons (f _ _ r) (Paired.mapP t f)
theorem Paired.imp' {α β:Type} {F G:α -> β -> Prop} (f:∀ a b,F a b -> G a b) {l₁:List α} {l₂:List β} (r:Paired F l₁ l₂):Paired G l₁ l₂:=Paired.mapP r f
theorem ObjOk.stay (x:ObjOk P w H h a o) (k:∀ b u,(b = a \/ H b = some (.own a)) -> h.get? b = some u -> h'.get? b = some u)
  (ho:∀ b,H b = some (.own a) -> H' b = some (.own a)) (ht:∀ b xs,H b = some (.tup xs) -> H' b = some (.tup xs)):ObjOk P w H' h' a o:=by
 induction o with
 | lst xs=>obtain ⟨z,its,n,r,e⟩:=x; exact ⟨z,its,n,r,k _ _ (.inl rfl) e⟩
 | tup xs=>obtain ⟨z,its,r,ob,e,c⟩:=x; exact ⟨z,its,r,ob,k _ _ (.inl rfl) e,c⟩
 | dK kvs=>obtain ⟨z,y,vs,r,ob,es,ep,e,c⟩:=x; exact ⟨z,y,vs,r,ob,es,ep,k _ _ (.inl rfl) e,c⟩
 | dT kvs=>
  obtain ⟨z,y,xs,r,ob,es,ep,e,c⟩:=x
  exact ⟨z,y,xs,Paired.mapP r fun p q z=>⟨z.1,ht _ _ z.2.1,z.2.2⟩,ob,es,ep,k _ _ (.inl rfl) e,c⟩
 | set S n=>obtain ⟨ob,es,ep,t,e,c⟩:=x; exact ⟨ob,es,ep,t,k _ _ (.inl rfl) e,c⟩
 | ins C dx fs=>
  obtain ⟨d,z,ne,e,mA,⟨od,es,ep,e2,c⟩,r⟩:=x
  exact ⟨ho _ d,z,ne,k _ _ (.inl rfl) e,mA,⟨od,es,ep,k _ _ (.inr d) e2,c⟩,r⟩
 | own y=>obtain ⟨ob,e⟩:=x; exact ⟨ob,k _ _ (.inl rfl) e⟩
 | xd fs=>obtain ⟨mA,⟨od,es,ep,e,c⟩,r⟩:=x; exact ⟨mA,⟨od,es,ep,k _ _ (.inl rfl) e,c⟩,r⟩
 | rng lo hi=>obtain ⟨t,u,v,e⟩:=x; exact ⟨t,u,v,k _ _ (.inl rfl) e⟩
 | frz ob u ih=>obtain ⟨e,q⟩:=x; exact ⟨k _ _ (.inl rfl) e,ih q⟩
 | tbl ps=>
  have e:h.get? a = some { cls:=.none,data:=.fields ps }:=x
  show h'.get? a = some { cls:=.none,data:=.fields ps }
  exact k a _ (.inl rfl) e
 | met f y=>
  have e:h.get? a = some (PySem.W.methodObj (.ref f) (.ref y)):=x
  show h'.get? a = some (PySem.W.methodObj (.ref f) (.ref y))
  exact k a _ (.inl rfl) e
 | ext φ=>obtain ⟨p,⟨o,e⟩,st⟩:=x; exact ⟨st _ _ p fun o q=>k _ _ (.inl rfl) q,⟨o,k _ _ (.inl rfl) e⟩,st⟩
theorem HOk.lt (x:HOk P w H h) (e:H a = some o):a < h.objs.size:=(x a o e).lt
theorem HOk.fresh (x:HOk P w H h) (e:h.objs.size <= a):H a = none:=by
 cases q:H a with
 | none=>rfl
 | some u=>exact absurd (Nat.lt_of_lt_of_le (x.lt q) e) (Nat.lt_irrefl _)
theorem HOk.kept (x:HOk P w H h) (k:∀ b u,h.get? b = some u -> h'.get? b = some u):HOk P w H h':=fun a o e=>
 (x a o e).stay (fun b u _ q=>k b u q) (fun _ q=>q) fun _ _ q=>q
theorem HOk.laid (x:HOk P w H h) (k:∀ b u,h.get? b = some u -> h'.get? b = some u) (hp:h.objs.size <= a) (new:ObjOk P w (upd H a o) h' a o):HOk P w (upd H a o) h':=fun b u e=>by
 have hn:=x.fresh hp
 by_cases hb:b = a
 ·subst hb; rw [upd_same] at e; cases e; exact new
 ·rw [upd_ne hb] at e
  exact (x b u e).stay (fun c v _ q=>k c v q) (fun c q=>by rw [upd_ne (ne_of_none q hn)]; exact q) fun c xs q=>by rw [upd_ne (ne_of_none q hn)]; exact q
end
def Rd (H:Hp) (a:Addr) (u:HO):Prop:=H a = some u \/ ∃ o,H a = some (.frz o u)
theorem Rd.of {H:Hp} {a:Addr} {u:HO} (h:H a = some u):Rd H a u:=.inl h
theorem Rd.ok {P:Program} {w:World} {H:Hp} {h:Heap} {a:Addr} {u:HO} (r:Rd H a u) (x:HOk P w H h):ObjOk P w H h a u:=by
 rcases r with r | ⟨o,r⟩
 ·exact x a u r
 ·obtain ⟨_,q⟩:=x a _ r
  exact q
noncomputable def Mut:Option HO -> Prop
 | some (.lst _)=>True
 | some (.dK _)=>True
 | some (.dT _)=>True
 | some (.set _ _)=>True
 | some (.ins _ _ _)=>True
 | some (.ext _)=>True
 | _=>False
section
variable {P:Program} {w:World} {H:Hp} {h h':Heap} {x e:Addr} {o':HO}
theorem HOk.write (ok:HOk P w H h) (mu:Mut (H x)) (he:e = x \/ H e = some (.own x)) (k:∀ b u,b ≠ e -> h.get? b = some u -> h'.get? b = some u) (heo:∃ u,h'.get? e = some u)
  (new:ObjOk P w (upd H x o') h' x o'):HOk P w (upd H x o') h':=fun b u q=>by
 have nown:∀ c y,H c = some (.own y) -> c ≠ x:=fun c y r z=>by subst z; rw [r] at mu; exact mu
 have ntup:∀ c xs,H c = some (.tup xs) -> c ≠ x:=fun c xs r z=>by subst z; rw [r] at mu; exact mu
 by_cases hb:b = x
 ·subst hb; rw [upd_same] at q; cases q; exact new
 ·rw [upd_ne hb] at q
  by_cases hbe:b = e
  ·have q':H b = some (.own x):=by
    rcases he with z | z
    ·exact absurd (hbe.trans z) hb
    ·rw [hbe]; exact z
   rw [q] at q'; cases q'
   obtain ⟨v,hv⟩:=heo
   exact ⟨v,by rw [hbe]; exact hv⟩
  ·refine (ok b u q).stay (fun c v hc r=>k c v ?_ r) (fun c r=>by rw [upd_ne (nown c b r)]; exact r) fun c xs r=>by rw [upd_ne (ntup c xs r)]; exact r
   rcases hc with rfl | hc
   ·exact hbe
   ·rintro rfl
    rcases he with z | z
    ·exact nown c b hc z
    ·rw [hc] at z; cases z; exact hb rfl
end
structure Un (fs ex:List Addr) (H H':Hp) (h h':Heap):Prop where
 keep:∀ b o,h.get? b = some o -> H b = none -> b ∉ fs -> b ∉ ex -> h'.get? b = some o
 slot:∀ b o,h.get? b = some o -> H b = none -> b ∈ fs -> b ∉ ex -> ∃ sl,h'.get? b = some { o with slots:=sl }
 free:∀ b o,h.get? b = some o -> H b = none -> b ∉ ex -> H' b = none
 there:∀ b o,h.get? b = some o -> b ∉ ex -> ∃ o',h'.get? b = some o'
 tups:∀ b xs,H b = some (.tup xs) -> H' b = some (.tup xs)
 frzs:∀ b o xs,H b = some (.frz o (.lst xs)) -> H' b = some (.frz o (.lst xs))
 tbls:∀ b ps,H b = some (.tbl ps) -> ∃ more,H' b = some (.tbl (ps ++ more))
section
variable {fs fs' ex ex':List Addr} {H H1 H2:Hp} {h h1 h2 h':Heap} {a x e:Addr} {o:HO}
theorem Un.any (u:Un fs ex H H1 h h1) {b:Addr} {ob:Obj} (q:h.get? b = some ob) (n:H b = none) (hx:b ∉ ex):∃ sl,h1.get? b = some { ob with slots:=sl }:=by
 by_cases hb:b ∈ fs
 ·exact u.slot b ob q n hb hx
 ·exact ⟨ob.slots,u.keep b ob q n hb hx⟩
theorem Un.trans (a:Un fs ex H H1 h h1) (b:Un fs ex H1 H2 h1 h2):Un fs ex H H2 h h2 where
 keep:=fun c ob q n hc hx=>b.keep c ob (a.keep c ob q n hc hx) (a.free c ob q n hx) hc hx
 slot:=fun c ob q n hc hx=>by
  obtain ⟨sl,e1⟩:=a.slot c ob q n hc hx
  obtain ⟨sl',e2⟩:=b.slot c _ e1 (a.free c ob q n hx) hc hx
  exact ⟨sl',e2⟩
 free:=fun c ob q n hx=>by
  obtain ⟨o',e1⟩:=a.there c ob q hx
  exact b.free c o' e1 (a.free c ob q n hx) hx
 there:=fun c ob q hx=>by
  obtain ⟨o',e1⟩:=a.there c ob q hx
  exact b.there c o' e1 hx
 tups:=fun c xs q=>b.tups c xs (a.tups c xs q)
 frzs:=fun c ob xs q=>b.frzs c ob xs (a.frzs c ob xs q)
 tbls:=fun c ps q=>by
  obtain ⟨m1,e1⟩:=a.tbls c ps q
  obtain ⟨m2,e2⟩:=b.tbls c _ e1
  exact ⟨m1 ++ m2,by rw [e2,Array.append_assoc]⟩
theorem Un.kept (k:∀ b u,h.get? b = some u -> h'.get? b = some u):Un fs ex H H h h':=
 ⟨fun b ob q _ _ _=>k b ob q,fun b ob q _ _ _=>⟨ob.slots,k b ob q⟩,fun _ _ _ n _=>n,fun b ob q _=>⟨ob,k b ob q⟩,fun _ _ q=>q,fun _ _ _ q=>q,fun _ ps q=>⟨#[],by rw [q]; simp⟩⟩
theorem Un.refl:Un fs ex H H h h:=Un.kept fun _ _ q=>q
theorem Un.laid (k:∀ b u,h.get? b = some u -> h'.get? b = some u) (hp:h.objs.size <= a) (hn:H a = none):Un fs ex H (upd H a o) h h' where
 keep:=fun b u q _ _ _=>k b u q
 slot:=fun b u q _ _ _=>⟨u.slots,k b u q⟩
 free:=fun b u q n _=>by rw [upd_ne (Nat.ne_of_lt (Nat.lt_of_lt_of_le (Heap.lt_size q) hp))]; exact n
 there:=fun b u q _=>⟨u,k b u q⟩
 tups:=fun b xs q=>by rw [upd_ne (ne_of_none q hn)]; exact q
 frzs:=fun b u xs q=>by rw [upd_ne (ne_of_none q hn)]; exact q
 tbls:=fun b ps q=>⟨#[],by rw [upd_ne (ne_of_none q hn),q]; simp⟩
theorem Un.write (mu:Mut (H x)) (he:e = x \/ H e = some (.own x)) (k:∀ b u,b ≠ e -> h.get? b = some u -> h'.get? b = some u) (heo:∃ u,h'.get? e = some u):Un fs ex H (upd H x o) h h':=by
 have hx:∀ b,H b = none -> b ≠ x:=fun b n z=>by subst z; rw [n] at mu; exact mu
 have hb:∀ b,H b = none -> b ≠ e:=fun b n z=>by
  subst z
  rcases he with r | r
  ·exact hx b n r
  ·rw [n] at r; cases r
 have hm:∀ b u,H b = some u -> ¬ Mut (some u) -> b ≠ x:=fun b u q nm z=>by subst z; rw [q] at mu; exact nm mu
 refine ⟨fun b u q n _ _=>k b u (hb b n) q,fun b u q n _ _=>⟨u.slots,k b u (hb b n) q⟩,fun b u q n _=>by rw [upd_ne (hx b n)]; exact n,fun b u q _=>?_,
  fun b xs q=>by rw [upd_ne (hm b _ q fun z=>z)]; exact q,fun b u xs q=>by rw [upd_ne (hm b _ q fun z=>z)]; exact q,fun b ps q=>⟨#[],by rw [upd_ne (hm b _ q fun z=>z),q]; simp⟩⟩
 by_cases hbe:b = e
 ·subst hbe; exact heo
 ·exact ⟨u,k b u hbe q⟩
theorem Un.mono (u:Un fs ex H H1 h h1) (hs:∀ b ∈ fs,b ∈ fs') (hx:∀ b ∈ ex,b ∈ ex'):Un fs' ex' H H1 h h1:=
 ⟨fun b ob q n hb he=>u.keep b ob q n (fun z=>hb (hs b z)) fun z=>he (hx b z),fun _ _ q n _ he=>u.any q n fun z=>he (hx _ z),fun b ob q n he=>u.free b ob q n fun z=>he (hx b z),fun b ob q he=>u.there b ob q fun z=>he (hx b z),u.tups,u.frzs,u.tbls⟩
end
noncomputable def trk (h:Heap) (H:Hp):List Addr:=(List.range h.objs.size).filter fun a=>(H a).isSome
noncomputable def hidT (h:Heap) (H:Hp):Heap:=PySem.W.hideAll h (trk h H)
theorem hidT_size (h:Heap) (H:Hp):(hidT h H).objs.size = h.objs.size:=PySem.W.hideAll_size _ _
theorem hidT_get {h:Heap} {H:Hp} {b:Addr} {o:Obj} (e:h.get? b = some o) (n:H b = none):(hidT h H).get? b = some o:=
 PySem.W.hideAll_get _ e fun hm=>by
  have q:(H b).isSome = true:=(List.mem_filter.mp hm).2
  rw [n] at q; simp at q
theorem of_hidT {h:Heap} {H:Hp} {b:Addr} {o:Obj} (e:(hidT h H).get? b = some o):h.get? b = some o /\ H b = none:=by
 have e':h.get? b = some o:=PySem.W.of_hideAll (trk h H) e
 refine ⟨e',?_⟩
 cases q:H b with
 | none=>rfl
 | some x=>
  have hm:b ∈ trk h H:=List.mem_filter.mpr ⟨List.mem_range.mpr (Heap.lt_size e'),by simp [q]⟩
  have z:(hidT h H).get? b = none:=PySem.W.hideAll_none (trk h H) hm
  rw [z] at e; cases e
noncomputable def allNews (g h:Heap) (L:Addr):List (Addr × Obj):=(List.range h.objs.size).filterMap fun a=>if a = L \/ (g.get? a).isSome = true then none else (h.get? a).map fun o=>(a,o)
noncomputable def rest (g h:Heap) (L d:Addr):List (Addr × Obj):=(allNews g h L).filter fun p=>decide (p.1 ≠ d)
structure Mod (K:Frag) (mg:Str -> Option Value) (base:Heap):Prop where
 kin:K.In base
 glob:base.Ns mainGlobals mg
 blt:∃ mb,base.Ns builtinsNs mb /\ ∀ x:Str,x ≠ "__name__" -> mb x = bootBuiltins x
 nolimit:base.NoLimit
structure Cx where
 prog:Program
 w:World
 K:Frag
 mg:Str -> Option Value
 base:Heap
 A:Around
 N:List Str
 s₀:Shared
 H₀:Hp
 env:Env
 outer:List Env
 stack:List Env
 ex:List Addr
 fn:Str -> Bool
 calm:Bool
 pn:List (Addr × Obj)
 xe:Value -> Shared -> Prop
noncomputable def frs (l:List Env):List Addr:=l.filterMap (·.frame)
noncomputable abbrev Cx.fs (X:Cx):List Addr:=frs X.outer
def Vis (sc:Scope) (x:Str):Prop:=sc.names.lookup x = some .local \/ sc.names.lookup x = some .cell \/ sc.names.lookup x = some .free
def Loc (sc:Scope) (x:Str):Prop:=sc.names.lookup x = some .local \/ sc.names.lookup x = some .cell
def Look (env:Env) (h:Heap) (m:Str -> Option Value) (x:Str) (u:Value):Prop:=
 (env.kindOf x = some .local /\ m x = some u) \/ ((env.kindOf x = some .cell \/ env.kindOf x = some .free) /\ ∃ c,env.cells.lookup x = some c /\ h.IsCell c (some u))
structure Cx.Ok (X:Cx):Prop where
 mod:Mod X.K X.mg X.base
 kind:X.env.scope.kind = .function
 glob:X.env.globals = mainGlobals
 blt:X.env.builtins = builtinsNs
 above:X.s₀.heap.objs.size <= X.env.locals
 inj:∀ x y c,X.env.cells.lookup x = some c -> X.env.cells.lookup y = some c -> x = y
 has:∀ x,(X.env.kindOf x = some .cell \/ X.env.kindOf x = some .free) -> ∃ c,X.env.cells.lookup x = some c
 cab:∀ x c,X.fn x = true -> X.env.cells.lookup x = some c -> X.s₀.heap.objs.size <= c
 hd:X.calm = true -> X.A.handled = none
 frames:X.A.frames = some X.stack
 stk:X.stack = X.outer \/ (X.stack = X.env :: X.outer /\ X.env.frame = some X.env.locals)
 exf:∀ b ∈ X.ex,b ≠ X.env.locals /\ ∀ x c,X.env.cells.lookup x = some c -> c ≠ b
 bs:∀ b o,X.base.get? b = some o -> X.s₀.heap.get? b = some o /\ X.H₀ b = none
 bsz:X.base.objs.size <= X.s₀.heap.objs.size
 noex:∀ b o,X.base.get? b = some o -> b ∉ X.ex
 exfs:∀ b ∈ X.ex,b ∉ X.fs
 funs:X.s₀.heap.FunFrames X.base X.outer
 frf:∀ b ∈ X.fs,X.H₀ b = none
structure Inv (X:Cx) (pins:List (Addr × Obj)) (σ:List (Option V)) (H:Hp) (s:Shared):Prop where
 ok:X.Ok
 os:s.os = X.s₀.os
 bare:AllBare s.gens
 base:Un X.fs X.ex X.H₀ H X.s₀.heap s.heap
 loc:∃ m,s.heap.Ns X.env.locals m /\ ∀ (i:Nat) (x:Str) (v:V),X.N[i]? = some x -> σ[i]? = some (some v) -> Vis X.env.scope x -> ∃ u,RelV v u /\ Look X.env s.heap m x u
 cell:∀ x c,X.env.cells.lookup x = some c -> ∃ v,s.heap.IsCell c v
 free:H X.env.locals = none
 freeC:∀ x c,X.env.cells.lookup x = some c -> H c = none
 pin:∀ p ∈ X.pn ++ pins,s.heap.get? p.1 = some p.2 /\ H p.1 = none /\ p.1 ≠ X.env.locals /\ p.1 ∉ X.fs /\ ∀ v,p.2.data ≠ .cell v
 hok:HOk X.prog X.w H s.heap
 len:σ.length = X.N.length
 tk:0 < s.toks
section
variable {X:Cx} {pins:List (Addr × Obj)} {σ:List (Option V)} {H H':Hp} {s:Shared} {h':Heap}
theorem Cx.Ok.nofr (ok:X.Ok) {b:Addr} {o:Obj} (e:X.base.get? b = some o):b ∉ X.fs:=fun hb=>by
 have:=(ok.funs.mem hb).1
 rw [e] at this; cases this
theorem Inv.bs (I:Inv X pins σ H s):∀ b o,X.base.get? b = some o -> s.heap.get? b = some o /\ H b = none:=fun b o e=>
 ⟨I.base.keep b o (I.ok.bs b o e).1 (I.ok.bs b o e).2 (I.ok.nofr e) (I.ok.noex b o e),I.base.free b o (I.ok.bs b o e).1 (I.ok.bs b o e).2 (I.ok.noex b o e)⟩
theorem Inv.bk (I:Inv X pins σ H s):∀ b o,X.base.get? b = some o -> s.heap.get? b = some o:=fun b o e=>(I.bs b o e).1
theorem Inv.mod (I:Inv X pins σ H s):Mod X.K X.mg X.base:=I.ok.mod
theorem Inv.kIn (I:Inv X pins σ H s):X.K.In s.heap:=I.ok.mod.kin.keeps I.bk
theorem Inv.nolimit (I:Inv X pins σ H s):s.heap.NoLimit:=I.ok.mod.nolimit.keeps I.bk
theorem Inv.fr (I:Inv X pins σ H s):∃ m,Fr X.base X.env.locals s.heap m:=
 let ⟨m,hn,_⟩:=I.loc
 ⟨m,hn,I.bk,Nat.le_trans I.ok.bsz I.ok.above⟩
theorem Inv.lt (I:Inv X pins σ H s):X.env.locals < s.heap.objs.size:=let ⟨_,hn,_⟩:=I.loc; hn.lt
theorem Inv.sz (I:Inv X pins σ H s):X.s₀.heap.objs.size <= s.heap.objs.size:=Nat.le_trans I.ok.above (Nat.le_of_lt I.lt)
theorem Inv.nofs (I:Inv X pins σ H s) {a:Addr} (h:s.heap.objs.size <= a):a ∉ X.fs:=fun hb=>by
 obtain ⟨_,o,ho,_⟩:=I.ok.funs.mem hb
 exact absurd (Nat.lt_of_lt_of_le (Heap.lt_size ho) (Nat.le_trans I.sz h)) (Nat.lt_irrefl _)
theorem Inv.cne (I:Inv X pins σ H s):∀ x c,X.env.cells.lookup x = some c -> c ≠ X.env.locals:=fun x c e z=>by
 obtain ⟨v,o,ho,hd⟩:=I.cell x c e
 obtain ⟨m,⟨o',es,ep,ho',hd',_⟩,_⟩:=I.loc
 rw [z,ho'] at ho; cases ho; rw [hd'] at hd; cases hd
theorem Inv.funs (I:Inv X pins σ H s):s.heap.FunFrames X.base X.outer:=by
 have all:∀ (l:List Env),(∀ b ∈ frs l,b ∈ X.fs) -> X.s₀.heap.FunFrames X.base l -> s.heap.FunFrames X.base l:=by
  intro l
  induction l with
  | nil=>intro _ _; trivial
  | cons env r ih=>
   intro hs hl
   obtain ⟨hk,⟨L,o,hf,hn,ho,hd⟩,hr⟩:=hl
   have hL:L ∈ X.fs:=hs L (by unfold frs; rw [List.filterMap_cons,hf]; exact List.mem_cons_self)
   obtain ⟨sl,e⟩:=I.base.slot L o ho (I.ok.frf L hL) hL fun z=>I.ok.exfs L z hL
   exact ⟨hk,⟨L,_,hf,hn,e,hd⟩,ih (fun b hb=>hs b (by unfold frs; rw [List.filterMap_cons,hf]; exact List.mem_cons_of_mem _ hb)) hr⟩
 exact all X.outer (fun _ hb=>hb) I.ok.funs
theorem Inv.stack (I:Inv X pins σ H s):s.heap.FunFrames X.base X.stack:=by
 rcases I.ok.stk with e | ⟨e,hf⟩
 ·rw [e]; exact I.funs
 ·rw [e]
  obtain ⟨m,hn,_⟩:=I.loc
  refine .cons (by rw [I.ok.kind]; decide) hf hn ?_ I.funs
  exact Heap.get?_none_of_le (Nat.le_trans I.ok.bsz I.ok.above)
theorem Inv.stkSub (I:Inv X pins σ H s):∀ b ∈ frs X.stack,b ∈ X.env.locals :: X.fs:=fun b hb=>by
 rcases I.ok.stk with e | ⟨e,hf⟩
 ·rw [e] at hb; exact List.mem_cons_of_mem _ hb
 ·rw [e] at hb
  unfold frs at hb
  rw [List.filterMap_cons,hf] at hb
  exact hb
theorem Inv.stkFree (I:Inv X pins σ H s):∀ b ∈ frs X.stack,H b = none:=fun b hb=>by
 rcases List.mem_cons.mp (I.stkSub b hb) with e | hb
 ·rw [e]; exact I.free
 ·obtain ⟨_,o,ho,_⟩:=I.ok.funs.mem hb
  exact I.base.free b o ho (I.ok.frf b hb) fun z=>I.ok.exfs b z hb
theorem Inv.step {g':Array GenState} {t':Nat} {d':Drawn} {ch:List Addr} (I:Inv X pins σ H s)
  (hch:∀ b ∈ ch,(b ∈ X.ex \/ X.s₀.heap.objs.size <= b) /\ b ≠ X.env.locals /\ (∀ x c,X.env.cells.lookup x = some c -> c ≠ b) /\ ∀ p ∈ X.pn ++ pins,p.1 ≠ b)
  (keep:∀ b o,b ≠ X.env.locals -> b ∉ X.fs -> b ∉ ch -> s.heap.get? b = some o -> H b = none -> h'.get? b = some o)
  (slot:∀ b o,b ≠ X.env.locals -> b ∈ X.fs -> b ∉ ch -> s.heap.get? b = some o -> H b = none -> ∃ sl,h'.get? b = some { o with slots:=sl }) (free:∀ b o,b ∉ ch -> s.heap.get? b = some o -> H b = none -> H' b = none)
  (there:∀ b o,b ∉ ch -> s.heap.get? b = some o -> ∃ o',h'.get? b = some o')
  (tups:∀ b xs,H b = some (.tup xs) -> H' b = some (.tup xs)) (frzs:∀ b o xs,H b = some (.frz o (.lst xs)) -> H' b = some (.frz o (.lst xs))) (tbls:∀ b ps,H b = some (.tbl ps) -> ∃ more,H' b = some (.tbl (ps ++ more)))
  (ns:∀ m,s.heap.Ns X.env.locals m -> h'.Ns X.env.locals m) (hok:HOk X.prog X.w H' h') (hg:AllBare g') (ht:0 < t':=by first | assumption | exact Nat.succ_pos _ | (apply Inv.tk; assumption) | omega):
  Inv X pins σ H' { s with heap:=h',gens:=g',drawn:=d',toks:=t' }:=by
 have neL:∀ b o,X.s₀.heap.get? b = some o -> b ≠ X.env.locals:=fun b o e=>Nat.ne_of_lt (Nat.lt_of_lt_of_le (Heap.lt_size e) I.ok.above)
 have neC:∀ b o,X.s₀.heap.get? b = some o -> b ∉ X.ex -> b ∉ ch:=fun b o e hx hb=>by
  rcases (hch b hb).1 with z | z
  ·exact hx z
  ·exact absurd (Nat.lt_of_lt_of_le (Heap.lt_size e) z) (Nat.lt_irrefl _)
 have cellK:∀ x c,X.env.cells.lookup x = some c -> ∀ v,s.heap.IsCell c v -> h'.IsCell c v:=fun x c e v ⟨o,ho,hd⟩=>by
  have nch:c ∉ ch:=fun z=>(hch c z).2.2.1 x c e rfl
  by_cases hc:c ∈ X.fs
  ·obtain ⟨sl,q⟩:=slot c o (I.cne x c e) hc nch ho (I.freeC x c e)
   exact ⟨_,q,hd⟩
  ·exact ⟨o,keep c o (I.cne x c e) hc nch ho (I.freeC x c e),hd⟩
 refine ⟨I.ok,I.os,hg,⟨fun b o e n hb hx=>?_,fun b o e n hb hx=>?_,fun b o e n hx=>?_,fun b o e hx=>?_,fun b xs e=>tups b xs (I.base.tups b xs e),fun b o xs e=>frzs b o xs (I.base.frzs b o xs e),fun b ps e=>?_⟩,?_,fun x c e=>?_,?_,fun x c e=>?_,fun p hp=>?_,hok,I.len,ht⟩
 ·exact keep b o (neL b o e) hb (neC b o e hx) (I.base.keep b o e n hb hx) (I.base.free b o e n hx)
 ·obtain ⟨sl,e1⟩:=I.base.slot b o e n hb hx
  obtain ⟨sl',e2⟩:=slot b _ (neL b o e) hb (neC b o e hx) e1 (I.base.free b o e n hx)
  exact ⟨sl',e2⟩
 ·obtain ⟨o',e1⟩:=I.base.there b o e hx
  exact free b o' (neC b o e hx) e1 (I.base.free b o e n hx)
 ·obtain ⟨o',e1⟩:=I.base.there b o e hx
  exact there b o' (neC b o e hx) e1
 ·obtain ⟨m1,e1⟩:=I.base.tbls b ps e
  obtain ⟨m2,e2⟩:=tbls b _ e1
  exact ⟨m1 ++ m2,by rw [e2,Array.append_assoc]⟩
 ·obtain ⟨m,hn,hl⟩:=I.loc
  refine ⟨m,ns m hn,fun i x v e1 e2 e3=>?_⟩
  obtain ⟨u,r,l⟩:=hl i x v e1 e2 e3
  refine ⟨u,r,?_⟩
  rcases l with l | ⟨k,c,e,z⟩
  ·exact .inl l
  ·exact .inr ⟨k,c,e,cellK x c e _ z⟩
 ·obtain ⟨v,z⟩:=I.cell x c e
  exact ⟨v,cellK x c e v z⟩
 ·obtain ⟨m,⟨o,_,_,ho,_⟩,_⟩:=I.loc
  exact free _ o (fun z=>(hch _ z).2.1 rfl) ho I.free
 ·obtain ⟨v,o,ho,hd⟩:=I.cell x c e
  exact free c o (fun z=>(hch c z).2.2.1 x c e rfl) ho (I.freeC x c e)
 ·obtain ⟨e,n,ne,nf,d⟩:=I.pin p hp
  have nch:p.1 ∉ ch:=fun z=>(hch p.1 z).2.2.2 p hp rfl
  exact ⟨keep p.1 p.2 ne nf nch e n,free p.1 p.2 nch e n,ne,nf,d⟩
theorem Inv.un {t':Nat} (I:Inv X pins σ H s) (u:Un X.fs [] H H' s.heap h') (hok:HOk X.prog X.w H' h') (ht:0 < t':=by first | assumption | exact Nat.succ_pos _ | (apply Inv.tk; assumption) | omega):Inv X pins σ H' { s with heap:=h',toks:=t' }:=by
 obtain ⟨m,⟨o,es,ep,ho,r⟩,_⟩:=id I.loc
 obtain ⟨sl,hL⟩:=u.any ho I.free (by simp)
 exact I.step (g':=s.gens) (d':=s.drawn) (ch:=[]) (fun _ z=>nomatch z) (fun b o _ hb _ e n=>u.keep b o e n hb (by simp)) (fun b o _ hb _ e n=>u.slot b o e n hb (by simp)) (fun b o _ e n=>u.free b o e n (by simp)) (fun b o _ e=>u.there b o e (by simp)) u.tups u.frzs u.tbls (fun m' hm=>by
  obtain ⟨o',es',ep',ho',r'⟩:=hm
  rw [ho] at ho'; cases ho'
  exact ⟨_,es',ep',hL,r'⟩) hok I.bare ht
theorem Inv.call {g':Array GenState} {t':Nat} {d':Drawn} {ch:List Addr} (I:Inv X pins σ H s) (u:Un (frs X.stack) ch H H' s.heap h') (hok:HOk X.prog X.w H' h') (hg:AllBare g')
  (hch:∀ b ∈ ch,(b ∈ X.ex \/ X.s₀.heap.objs.size <= b) /\ b ≠ X.env.locals /\ (∀ x c,X.env.cells.lookup x = some c -> c ≠ b) /\ ∀ p ∈ X.pn ++ pins,p.1 ≠ b) (ht:0 < t':=by first | assumption | exact Nat.succ_pos _ | (apply Inv.tk; assumption) | omega):
  Inv X pins σ H' { s with heap:=h',gens:=g',drawn:=d',toks:=t' }:=by
 obtain ⟨m,⟨o,es,ep,ho,r⟩,_⟩:=id I.loc
 obtain ⟨sl,hL⟩:=u.any ho I.free fun z=>(hch _ z).2.1 rfl
 exact I.step (ch:=ch) hch (fun b o hL hb hc e n=>u.keep b o e n (fun z=>(List.mem_cons.mp (I.stkSub b z)).elim hL hb) hc) (fun b o _ _ hc e n=>u.any e n hc) (fun b o hc e n=>u.free b o e n hc) (fun b o hc e=>u.there b o e hc) u.tups u.frzs u.tbls (fun m' hm=>by
  obtain ⟨o',es',ep',ho',r'⟩:=hm
  rw [ho] at ho'; cases ho'
  exact ⟨_,es',ep',hL,r'⟩) hok hg ht
theorem Inv.turned {t':Nat} {it:Addr} (I:Inv X pins σ H s) (k:∀ b o,b ≠ it -> s.heap.get? b = some o -> h'.get? b = some o) (hn:H it = none) (hL:it ≠ X.env.locals)
  (h1:it ∈ X.ex \/ X.s₀.heap.objs.size <= it) (h2:∀ x c,X.env.cells.lookup x = some c -> c ≠ it) (h3:∀ p ∈ X.pn ++ pins,p.1 ≠ it) (ht:0 < t':=by first | assumption | exact Nat.succ_pos _ | (apply Inv.tk; assumption) | omega):Inv X pins σ H { s with heap:=h',toks:=t' }:=by
 have nit:∀ b u,H b = some u -> b ≠ it:=fun b u e z=>by rw [z,hn] at e; cases e
 refine I.step (g':=s.gens) (d':=s.drawn) (ch:=[it]) (fun b hb=>?_) (fun b o _ _ hc e _=>k b o (fun z=>hc (by simp [z])) e) (fun b o _ _ hc e _=>⟨o.slots,k b o (fun z=>hc (by simp [z])) e⟩) (fun _ _ _ _ n=>n)
  (fun b o hc e=>⟨o,k b o (fun z=>hc (by simp [z])) e⟩) (fun _ _ e=>e) (fun _ _ _ e=>e) (fun b ps e=>⟨#[],by rw [e]; simp⟩) (fun m hm=>?_) (fun b u e=>?_) I.bare
 ·have e:b = it:=by simpa using hb
  subst e
  exact ⟨h1,hL,h2,h3⟩
 ·obtain ⟨o,es,ep,ho,r⟩:=hm
  exact ⟨o,es,ep,k _ o (Ne.symm hL) ho,r⟩
 ·refine (I.hok b u e).stay (fun c v hc q=>k c v ?_ q) (fun _ q=>q) fun _ _ q=>q
  rcases hc with z | z
  ·rw [z]; exact nit b u e
  ·exact nit c _ z
theorem Inv.tok (I:Inv X pins σ H s) (t:Nat) (ht:0 < t:=by first | assumption | exact Nat.succ_pos _ | (apply Inv.tk; assumption) | omega):Inv X pins σ H { s with toks:=t }:=I.un (h':=s.heap) (t':=t) Un.refl I.hok ht
theorem Inv.kept {t':Nat} (I:Inv X pins σ H s) (k:∀ b u,s.heap.get? b = some u -> h'.get? b = some u) (ht:0 < t':=by first | assumption | exact Nat.succ_pos _ | (apply Inv.tk; assumption) | omega):Inv X pins σ H { s with heap:=h',toks:=t' }:=I.un (Un.kept k) (I.hok.kept k) ht
theorem Inv.laid {a:Addr} {o:HO} {t':Nat} (I:Inv X pins σ H s) (k:∀ b u,s.heap.get? b = some u -> h'.get? b = some u) (hp:s.heap.objs.size <= a) (new:ObjOk X.prog X.w (upd H a o) h' a o) (ht:0 < t':=by first | assumption | exact Nat.succ_pos _ | (apply Inv.tk; assumption) | omega):
  Inv X pins σ (upd H a o) { s with heap:=h',toks:=t' }:=I.un (Un.laid k hp (I.hok.fresh hp)) (I.hok.laid k hp new) ht
theorem Inv.write {x e:Addr} {o:HO} {t':Nat} (I:Inv X pins σ H s) (mu:Mut (H x)) (he:e = x \/ H e = some (.own x)) (k:∀ b u,b ≠ e -> s.heap.get? b = some u -> h'.get? b = some u) (heo:∃ u,h'.get? e = some u)
  (new:ObjOk X.prog X.w (upd H x o) h' x o) (ht:0 < t':=by first | assumption | exact Nat.succ_pos _ | (apply Inv.tk; assumption) | omega):Inv X pins σ (upd H x o) { s with heap:=h',toks:=t' }:=I.un (Un.write mu he k heo) (I.hok.write mu he k heo new) ht
theorem Inv.weak {σ':List (Option V)} (I:Inv X pins σ H s) (hl:σ'.length = σ.length) (w:∀ (i:Nat) v,σ'[i]? = some (some v) -> σ[i]? = some (some v)):Inv X pins σ' H s:=
 ⟨I.ok,I.os,I.bare,I.base,let ⟨m,hn,hl'⟩:=I.loc; ⟨m,hn,fun i x v e1 e2 e3=>hl' i x v e1 (w i v e2) e3⟩,I.cell,I.free,I.freeC,I.pin,I.hok,hl.trans I.len,I.tk⟩
theorem Inv.pins_of {pins':List (Addr × Obj)} (I:Inv X pins σ H s) (h:∀ p ∈ pins',s.heap.get? p.1 = some p.2 /\ H p.1 = none /\ p.1 ≠ X.env.locals /\ p.1 ∉ X.fs /\ ∀ v,p.2.data ≠ .cell v):Inv X pins' σ H s:=
 ⟨I.ok,I.os,I.bare,I.base,I.loc,I.cell,I.free,I.freeC,fun p hp=>(List.mem_append.mp hp).elim (fun z=>I.pin p (List.mem_append_left _ z)) (h p),I.hok,I.len,I.tk⟩
theorem nodup_ix {N:List Str} (hN:N.Nodup) {i j:Nat} {x:Str} (a:N[i]? = some x) (b:N[j]? = some x):i = j:=by
 obtain ⟨h1,e1⟩:=List.getElem?_eq_some_iff.mp a
 obtain ⟨h2,e2⟩:=List.getElem?_eq_some_iff.mp b
 exact (List.getElem_inj hN).mp (e1.trans e2.symm)
theorem store_ok2 {M:Model} {A:Around} {E:Value -> Shared -> Prop} {i:Nat} {x:Str} {v:V} {u:Value} {Q:Unit -> Shared -> Prop} (I:Inv X pins σ H s) (hN:X.N.Nodup) (hi:X.N[i]? = some x) (hx:Loc X.env.scope x) (r:RelV v u)
  (h:∀ s',Inv X pins (σ.set i (some v)) H s' -> (∃ a,Heap.SameBut a s.heap s'.heap /\ (a = X.env.locals \/ X.env.cells.lookup x = some a)) -> Q () s') (hf:X.fn x = true \/ X.env.scope.names.lookup x = some .local:=by first | exact .inl rfl | exact .inr rfl | assumption):wpAny M A (storeName X.env x u) Q E s:=by
 obtain ⟨m,hn,hl⟩:=id I.loc
 have hcls:(X.env.scope.kind == .class || (X.env.scope.kind == .module && X.env.locals != X.env.globals)) = false:=by rw [I.ok.kind]; rfl
 have hiσ:i < σ.length:=by rw [I.len]; exact (List.getElem?_eq_some_iff.mp hi).1
 have cne:=I.cne
 have tracked:∀ {a:Addr} {h':Heap},(∃ o,s.heap.get? a = some o /\ H a = none) -> Heap.SameBut a s.heap h' -> HOk X.prog X.w H h':=fun {a h'} ha hs b ob e=>by
  obtain ⟨_,_,hfree⟩:=ha
  refine (I.hok b ob e).stay (fun c w' hc q=>(hs.2 c ?_).trans q) (fun _ q=>q) fun _ _ q=>q
  rintro rfl
  rcases hc with rfl | hc
  ·rw [hfree] at e; cases e
  ·rw [hfree] at hc; cases hc
 rcases hx with hk | hk
 ·refine wpAny_storeName_local hk hn (fun h' hn' hs=>?_) hcls
  obtain ⟨oL,_,_,hoL,_⟩:=id hn
  refine h _ ⟨I.ok,I.os,I.bare,⟨fun b o e n hb hx=>?_,fun b o e n hb hx=>?_,I.base.free,fun b o e hx=>?_,I.base.tups,I.base.frzs,I.base.tbls⟩,⟨_,hn',fun j y v' e1 e2 e3=>?_⟩,fun y c e=>?_,I.free,I.freeC,fun p hp=>?_,tracked ⟨oL,hoL,I.free⟩ hs,by simpa using I.len,(by first | exact Nat.succ_pos _ | exact I.tk)⟩ ⟨_,hs,.inl rfl⟩
  ·exact (hs.2 b (Nat.ne_of_lt (Nat.lt_of_lt_of_le (Heap.lt_size e) I.ok.above))).trans (I.base.keep b o e n hb hx)
  ·obtain ⟨sl,e1⟩:=I.base.slot b o e n hb hx
   exact ⟨sl,(hs.2 b (Nat.ne_of_lt (Nat.lt_of_lt_of_le (Heap.lt_size e) I.ok.above))).trans e1⟩
  ·obtain ⟨o',e1⟩:=I.base.there b o e hx
   exact ⟨o',(hs.2 b (Nat.ne_of_lt (Nat.lt_of_lt_of_le (Heap.lt_size e) I.ok.above))).trans e1⟩
  ·by_cases hj:j = i
   ·subst hj
    rw [hi] at e1; cases e1
    rw [List.getElem?_set_self hiσ] at e2
    cases e2
    exact ⟨u,r,.inl ⟨hk,by simp⟩⟩
   ·rw [List.getElem?_set_ne (Ne.symm hj)] at e2
    obtain ⟨u',r',q⟩:=hl j y v' e1 e2 e3
    refine ⟨u',r',?_⟩
    rcases q with ⟨k,e⟩ | ⟨k,c,e,z⟩
    ·refine .inl ⟨k,?_⟩
     have:y ≠ x:=fun e=>hj (nodup_ix hN e1 (e ▸ hi))
     simp [this,e]
    ·exact .inr ⟨k,c,e,z.sameBut hs (cne y c e)⟩
  ·obtain ⟨w',z⟩:=I.cell y c e
   exact ⟨w',z.sameBut hs (cne y c e)⟩
  ·obtain ⟨e,n,ne,nf,d⟩:=I.pin p hp
   exact ⟨(hs.2 p.1 ne).trans e,n,ne,nf,d⟩
 ·have hfn:X.fn x = true:=by
   rcases hf with z | z
   ·exact z
   ·rw [z] at hk; cases hk
  obtain ⟨c,hc⟩:=I.ok.has x (.inl hk)
  obtain ⟨w',z⟩:=I.cell x c hc
  refine wpAny_storeName_cell I.ok.kind hk hc z (fun h' hc' hs=>?_)
  obtain ⟨oc,hoc,hocd⟩:=id z
  refine h { s with heap:=h' } ⟨I.ok,I.os,I.bare,⟨fun b o e n hb hx=>?_,fun b o e n hb hx=>?_,I.base.free,fun b o e hx=>?_,I.base.tups,I.base.frzs,I.base.tbls⟩,⟨m,hn.sameBut hs (Ne.symm (cne x c hc)),fun j y v' e1 e2 e3=>?_⟩,fun y c' e=>?_,I.free,I.freeC,fun p hp=>?_,tracked ⟨oc,hoc,I.freeC x c hc⟩ hs,by simpa using I.len,I.tk⟩ ⟨c,hs,.inr hc⟩
  ·exact (hs.2 b (Nat.ne_of_lt (Nat.lt_of_lt_of_le (Heap.lt_size e) (I.ok.cab x c hfn hc)))).trans (I.base.keep b o e n hb hx)
  ·obtain ⟨sl,e1⟩:=I.base.slot b o e n hb hx
   exact ⟨sl,(hs.2 b (Nat.ne_of_lt (Nat.lt_of_lt_of_le (Heap.lt_size e) (I.ok.cab x c hfn hc)))).trans e1⟩
  ·obtain ⟨o',e1⟩:=I.base.there b o e hx
   exact ⟨o',(hs.2 b (Nat.ne_of_lt (Nat.lt_of_lt_of_le (Heap.lt_size e) (I.ok.cab x c hfn hc)))).trans e1⟩
  ·by_cases hj:j = i
   ·subst hj
    rw [hi] at e1; cases e1
    rw [List.getElem?_set_self hiσ] at e2
    cases e2
    exact ⟨u,r,.inr ⟨.inl hk,c,hc,hc'⟩⟩
   ·rw [List.getElem?_set_ne (Ne.symm hj)] at e2
    obtain ⟨u',r',q⟩:=hl j y v' e1 e2 e3
    refine ⟨u',r',?_⟩
    rcases q with q | ⟨k,c',e,z'⟩
    ·exact .inl q
    ·refine .inr ⟨k,c',e,z'.sameBut hs ?_⟩
     rintro rfl
     exact hj (nodup_ix hN e1 (I.ok.inj _ _ _ e hc ▸ hi))
  ·by_cases hcc:c' = c
   ·subst hcc; exact ⟨_,hc'⟩
   ·obtain ⟨w2,z2⟩:=I.cell y c' e
    exact ⟨w2,z2.sameBut hs hcc⟩
  ·obtain ⟨e,n,ne,nf,d⟩:=I.pin p hp
   refine ⟨(hs.2 p.1 ?_).trans e,n,ne,nf,d⟩
   intro q
   rw [q,hoc] at e
   have q':oc = p.2:=Option.some.inj e
   exact d w' (by rw [<- q']; exact hocd)
theorem store_ok {M:Model} {A:Around} {E:Value -> Shared -> Prop} {i:Nat} {x:Str} {v:V} {u:Value} {Q:Unit -> Shared -> Prop} (I:Inv X pins σ H s) (hN:X.N.Nodup) (hi:X.N[i]? = some x) (hx:Loc X.env.scope x) (r:RelV v u)
  (h:∀ s',Inv X pins (σ.set i (some v)) H s' -> Q () s') (hf:X.fn x = true \/ X.env.scope.names.lookup x = some .local:=by first | exact .inl rfl | exact .inr rfl | assumption):wpAny M A (storeName X.env x u) Q E s:=
 store_ok2 I hN hi hx r (fun s' I' _=>h s' I') hf
theorem Inv.call' {s':Shared} {ch:List Addr} (I:Inv X pins σ H s) (ho:s'.os = s.os) (u:Un (frs X.stack) ch H H' s.heap s'.heap) (hok:HOk X.prog X.w H' s'.heap) (hg:AllBare s'.gens)
  (hch:∀ b ∈ ch,(b ∈ X.ex \/ X.s₀.heap.objs.size <= b) /\ b ≠ X.env.locals /\ (∀ x c,X.env.cells.lookup x = some c -> c ≠ b) /\ ∀ p ∈ X.pn ++ pins,p.1 ≠ b) (ht:0 < s'.toks:=by first | assumption | exact Nat.succ_pos _ | (apply Inv.tk; assumption) | omega):Inv X pins σ H' s':=by
 obtain ⟨h',g',d',t',o'⟩:=s'
 have e:o' = s.os:=ho
 subst e
 exact I.call (g':=g') (t':=t') (d':=d') u hok hg hch ht
end
noncomputable abbrev XK:=Value -> Option Addr -> Hp -> Prop
noncomputable abbrev St:=List (Option V)
noncomputable abbrev VK:=V -> Hp -> Prop
noncomputable abbrev TE:=St -> Hp -> VK -> Prop
noncomputable abbrev TT:=St -> Hp -> (Bool -> Hp -> Prop) -> Prop
noncomputable abbrev TA:=St -> Hp -> (List V -> Hp -> Prop) -> Prop
structure Ends where
 nx:St -> Hp -> Prop
 rt:VK
 bk:St -> Hp -> Prop:=fun _ _=>False
 ct:St -> Hp -> Prop:=fun _ _=>False
noncomputable abbrev TS:=Ends -> St -> Hp -> Prop
def EP (X:Cx) (pins:List (Addr × Obj)) (σ:St) (Q:VK) (u:Value) (s':Shared):Prop:=∃ v H',Inv X pins σ H' s' /\ RelV v u /\ Q v H'
def TP (X:Cx) (pins:List (Addr × Obj)) (σ:St) (Q:Bool -> Hp -> Prop) (b:Bool) (s':Shared):Prop:=∃ H',Inv X pins σ H' s' /\ Q b H'
def AP (X:Cx) (pins:List (Addr × Obj)) (σ:St) (Q:List V -> Hp -> Prop) (us:List Value) (s':Shared):Prop:=∃ vs H',Inv X pins σ H' s' /\ Vals vs us /\ Q vs H'
def SP (X:Cx) (pins:List (Addr × Obj)) (D:Ends) (f:Flow) (s':Shared):Prop:=
 match f with
 | .next=>∃ σ' H',Inv X pins σ' H' s' /\ D.nx σ' H'
 | .brk=>∃ σ' H',Inv X pins σ' H' s' /\ D.bk σ' H'
 | .cont=>∃ σ' H',Inv X pins σ' H' s' /\ D.ct σ' H'
 | .ret u=>∃ v σ' H',Inv X pins σ' H' s' /\ RelV v u /\ D.rt v H'
def PE (X:Cx) (e:Expr) (t:TE):Prop:=
 ∀ (pins:List (Addr × Obj)) (s:Shared) (σ:St) (H:Hp) (Q:VK),Inv X pins σ H s -> t σ H Q -> wpAny (model X.prog X.w) X.A (eval e X.env) (EP X pins σ Q) X.xe s
def PT (X:Cx) (e:Expr) (t:TT):Prop:=
 ∀ (pins:List (Addr × Obj)) (s:Shared) (σ:St) (H:Hp) (Q:Bool -> Hp -> Prop),Inv X pins σ H s -> t σ H Q -> wpAny (model X.prog X.w) X.A (isTrue e X.env (eval e X.env)) (TP X pins σ Q) X.xe s
def PW (X:Cx) (e:Expr) (t:TT):Prop:=
 ∀ (whole:Sem Value) (pins:List (Addr × Obj)) (s:Shared) (σ:St) (H:Hp) (Q:Bool -> Hp -> Prop),Inv X pins σ H s -> t σ H Q -> wpAny (model X.prog X.w) X.A (isTrue e X.env whole) (TP X pins σ Q) X.xe s
theorem PW.pt {X:Cx} {e:Expr} {t:TT} (h:PW X e t):PT X e t:=h _
def PA (X:Cx) (es:List Expr) (t:TA):Prop:=
 ∀ (pos:Pos) (pins:List (Addr × Obj)) (s:Shared) (σ:St) (H:Hp) (Q:List V -> Hp -> Prop),Inv X pins σ H s -> t σ H Q -> wpAny (model X.prog X.w) X.A (spliced (backTo pos (starEach es X.env))) (AP X pins σ Q) X.xe s
def PS (X:Cx) (st:Stmt) (t:TS):Prop:=
 ∀ (pins:List (Addr × Obj)) (s:Shared) (σ:St) (H:Hp) (D:Ends),Inv X pins σ H s -> t D σ H -> wpAny (model X.prog X.w) X.A (exec st X.env) (SP X pins D) X.xe s
def PSs (X:Cx) (st:List Stmt) (t:TS):Prop:=
 ∀ (pins:List (Addr × Obj)) (s:Shared) (σ:St) (H:Hp) (D:Ends),Inv X pins σ H s -> t D σ H -> wpAny (model X.prog X.w) X.A (execs st X.env) (SP X pins D) X.xe s
theorem thn {α:Type} {t:Sem α} {Q Q':α -> Shared -> Prop} {M:Model} {A:Around} {E:Value -> Shared -> Prop} {s:Shared} (h:wpAny M A t Q E s) (hQ:∀ a s,Q a s -> Q' a s):wpAny M A t Q' E s:=wpAny_mono h hQ fun _ _ x=>x
theorem tokQ {α:Type} {t:Sem α} {Q:α -> Shared -> Prop} {M:Model} {A:Around} {E:Value -> Shared -> Prop} {s:Shared} (h0:0 < s.toks) (h:wpAny M A t (fun a s'=>0 < s'.toks -> Q a s') E s):wpAny M A t Q E s:=
 wpAny_mono (wpAny_toks_of (n:=1) h0 h) (fun _ _ z=>z.2 z.1) fun _ _ z=>z.2
section
variable {X:Cx}
noncomputable def tVar (i:Nat):TE:=fun σ H Q=>∃ v,σ[i]? = some (some v) /\ Q v H
noncomputable def tC (v:V):TE:=fun _ H Q=>Q v H
theorem pe_var {i:Nat} {x:Str} {pos:Pos} (hN:X.N[i]? = some x) (hv:Vis X.env.scope x) (hd:(x == ("__debug__" : Str)) = false:=by decide) (hcd:(x == ("__classdict__" : Str)) = false:=by decide):PE X (.Name x pos) (tVar i):=by
 intro pins s σ H Q I h
 obtain ⟨v,e,h⟩:=h
 obtain ⟨m,hn,hl⟩:=I.loc
 obtain ⟨u,r,l⟩:=hl i x v hN e hv
 have fin:EP X pins σ Q u s:=⟨v,H,I,r,h⟩
 rcases l with ⟨hk,hm⟩ | ⟨hk,c,hc,hcell⟩
 ·exact wpAny_Name (wpAny_loadName_local I.ok.kind hk hn hm fin) hd
 ·rcases hk with hk | hk
  ·exact wpAny_Name (wpAny_loadName_cell I.ok.kind hk hc hcell fin) hd
  ·exact wpAny_Name (wpAny_loadName_free I.ok.kind hk hc hcell fin hcd) hd
theorem pe_int {i j pos}:PE X (.Constant (.int i) j pos) (tC (.int i)):=fun _ _ _ H _ I h=>wpAny_Constant_int ⟨.int i,H,I.tok _,⟨_,rfl⟩,h⟩
theorem pe_bl {b j pos}:PE X (.Constant (.bool b) j pos) (tC (.bl b)):=fun _ _ _ H _ I h=>Constant_bool ⟨.bl b,H,I,rfl,h⟩
theorem pe_non {j pos}:PE X (.Constant .none j pos) (tC .non):=fun _ _ _ H _ I h=>Constant_none ⟨.non,H,I,rfl,h⟩
theorem pe_str {x j pos}:PE X (.Constant (.str x) j pos) (tC (.str x)):=fun _ _ _ H _ I h=>Calls.Constant_str ⟨.str x,H,I.tok _,⟨_,rfl⟩,h⟩
def Gl (X:Cx) (x:Str):Prop:=X.env.kindOf x = some .globalImplicit
theorem ld_glob {E:Value -> Shared -> Prop} {pins:List (Addr × Obj)} {s:Shared} {σ:St} {H:Hp} {x:Str} {u:Value} {pos:Pos} {Q:Value -> Shared -> Prop} (I:Inv X pins σ H s) (hg:Gl X x) (hm:X.mg x = some u) (h:Q u s)
  (hd:(x == ("__debug__" : Str)) = false:=by decide):wpAny (model X.prog X.w) X.A (eval (.Name x pos) X.env) Q E s:=
 Calls.Name_function_global I.ok.kind hg (Calls.loadGlobal_global (by rw [I.ok.glob]; exact I.mod.glob.keeps I.bk) hm h) hd
theorem ld_blt {E:Value -> Shared -> Prop} {pins:List (Addr × Obj)} {s:Shared} {σ:St} {H:Hp} {x:Str} {u:Value} {pos:Pos} {Q:Value -> Shared -> Prop} (I:Inv X pins σ H s) (hg:Gl X x) (hm:X.mg x = none) (hv:bootBuiltins x = some u) (h:Q u s)
  (hn:x ≠ "__name__" := by decide) (hd:(x == ("__debug__" : Str)) = false:=by decide):wpAny (model X.prog X.w) X.A (eval (.Name x pos) X.env) Q E s:=by
 obtain ⟨mb,h1,h2⟩:=I.mod.blt
 exact Calls.Name_function_global I.ok.kind hg (Calls.loadGlobal_builtin (by rw [I.ok.glob]; exact I.mod.glob.keeps I.bk) hm (by rw [I.ok.blt]; exact h1.keeps I.bk) ((h2 x hn).trans hv) h) hd
theorem pe_bltn {x:Str} {v:V} {u:Value} {pos:Pos} (hg:Gl X x) (hm:X.mg x = none) (hv:bootBuiltins x = some u) (r:RelV v u) (hn:x ≠ "__name__" := by decide) (hd:(x == ("__debug__" : Str)) = false:=by decide):PE X (.Name x pos) (tC v):=
 fun _ _ _ H _ I h=>ld_blt I hg hm hv ⟨v,H,I,r,h⟩ hn hd
variable {a b:Expr} {ta tb:TE} {pos:Pos}
noncomputable def tB (t:TE):TT:=fun σ H Q=>t σ H fun x H1=>∃ c,x = .bl c /\ Q c H1
theorem pt_val {e:Expr} {t:TE} (h:PE X e t) (he:∀ whole,isTrue e X.env whole = (do let v <- whole; standAt e.pos; holding [v] (truthy v)):=by intro _; rfl):PT X e (tB t):=by
 intro pins s σ H Q I hw
 refine isTrue_plain (thn (h pins s σ H _ I hw) fun v s1 ⟨x,H1,I1,r1,q1⟩=>?_) (he _)
 obtain ⟨d,rfl,q⟩:=q1
 cases r1
 exact wpAny_truthy_bool ⟨H1,I1,q⟩
variable {tA tB':TT} {rest:List Expr}
noncomputable def tAnd (t u:TT):TT:=fun σ H Q=>t σ H fun c H1=>if c = true then u σ H1 Q else Q false H1
noncomputable def tOr (t u:TT):TT:=fun σ H Q=>t σ H fun c H1=>if c = true then Q true H1 else u σ H1 Q
noncomputable def tNot (t:TT):TT:=fun σ H Q=>t σ H fun c H1=>Q (!c) H1
theorem pw_and1 (ha:PT X a tA):PW X (.BoolOp .And [a] pos) tA:=by
 intro wh pins s σ H Q I h
 refine isTrue_and (thn (ha pins s σ H Q I h) fun c s1 e=>?_)
 cases c with
 | true=>exact isTrue_and_nil e
 | false=>exact e
theorem pw_or1 (ha:PT X a tA):PW X (.BoolOp .Or [a] pos) tA:=by
 intro wh pins s σ H Q I h
 refine isTrue_or (thn (ha pins s σ H Q I h) fun c s1 e=>?_)
 cases c with
 | false=>exact isTrue_or_nil e
 | true=>exact e
theorem pw_and (ha:PT X a tA) (hb:PW X (.BoolOp .And (b :: rest) pos) tB'):PW X (.BoolOp .And (a :: b :: rest) pos) (tAnd tA tB'):=by
 intro wh pins s σ H Q I h
 refine isTrue_and (thn (ha pins s σ H _ I h) fun c s1 ⟨H1,I1,q1⟩=>?_)
 cases c with
 | true=>exact hb wh pins s1 σ H1 Q I1 q1
 | false=>exact ⟨H1,I1,q1⟩
theorem pw_or (ha:PT X a tA) (hb:PW X (.BoolOp .Or (b :: rest) pos) tB'):PW X (.BoolOp .Or (a :: b :: rest) pos) (tOr tA tB'):=by
 intro wh pins s σ H Q I h
 refine isTrue_or (thn (ha pins s σ H _ I h) fun c s1 ⟨H1,I1,q1⟩=>?_)
 cases c with
 | true=>exact ⟨H1,I1,q1⟩
 | false=>exact hb wh pins s1 σ H1 Q I1 q1
theorem pt_not (ha:PT X a tA):PT X (.UnaryOp .Not a pos) (tNot tA):=by
 intro pins s σ H Q I h
 exact isTrue_not (ha pins s σ H (fun c H1=>Q (!c) H1) I h)
noncomputable def tAndV (ta tb:TE):TE:=fun σ H Q=>ta σ H fun x H1=>∃ c,x = .bl c /\ if c = true then tb σ H1 Q else Q (.bl false) H1
theorem pe_one {op} {t:TE} (h:PE X a t):PE X (.BoolOp op [a] pos) t:=fun pins s σ H Q I hw=>BoolOp_one (h pins s σ H Q I hw)
theorem pe_and (ha:PE X a ta) (hb:PE X (.BoolOp .And (b :: rest) pos) tb):PE X (.BoolOp .And (a :: b :: rest) pos) (tAndV ta tb):=by
 intro pins s σ H Q I h
 refine BoolOp_and (thn (ha pins s σ H _ I h) fun v s1 ⟨x,H1,I1,r1,q1⟩=>?_)
 obtain ⟨c,rfl,q1⟩:=q1
 cases r1
 refine wpAny_truthy_bool ?_
 cases c with
 | true=>exact hb pins s1 σ H1 Q I1 q1
 | false=>exact ⟨.bl false,H1,I1,rfl,q1⟩
end
def SqL (K:Frag) (H:Hp) (a:Addr) (xs:List V):Prop:=
 Rd H a (.lst xs) \/
  ∃ (o:Obj) (its:Array Value) (n:Nat),K.lookup a = some o /\ o.cls = .type "list" /\ o.dict = none /\ o.data = .seq its n /\ its.size <= sizeLine /\ Vals xs its.toList
def SqT (K:Frag) (H:Hp) (a:Addr) (xs:List V):Prop:=
 Rd H a (.tup xs) \/
  ∃ (o:Obj) (its:Array Value) (n:Nat),K.lookup a = some o /\ o.cls = .type "tuple" /\ o.data = .seq its n /\ its.size <= sizeLine /\ Vals xs its.toList
noncomputable def absV:Value -> Option V
 | .none=>some .non
 | .bool b=>some (.bl b)
 | .int i _=>some (.int i)
 | .str x _=>some (.str x)
 | .bytes b _=>some (.byt b)
 | .float b _=>some (.flt b)
 | .ref a=>some (.ref a)
 | .type n=>some (.ty n)
 | _=>none
theorem RelV.abs {x:V} {u:Value} (r:RelV x u):absV u = some x:=by
 cases x with
 | non=>cases r; rfl
 | bl _=>cases r; rfl
 | int _=>obtain ⟨t,rfl⟩:=r; rfl
 | str _=>obtain ⟨t,rfl⟩:=r; rfl
 | byt _=>obtain ⟨t,rfl⟩:=r; rfl
 | flt _=>obtain ⟨t,rfl⟩:=r; rfl
 | ref _=>cases r; rfl
 | ty _=>cases r; rfl
theorem RelV.inj {x y:V} {u:Value} (r:RelV x u) (q:RelV y u):x = y:=Option.some.inj (r.abs.symm.trans q.abs)
theorem Vals.inj:∀ {xs ys:List V} {us:List Value},Vals xs us -> Vals ys us -> xs = ys
 | _,_,_,.nil,.nil=>rfl
 | _,_,_,.cons r t,.cons r' t'=>by rw [r.inj r',Vals.inj t t']
section
variable {X:Cx} {pins:List (Addr × Obj)} {σ:St} {H:Hp} {s:Shared} {a:Addr} {xs ys:List V}
theorem SqL.of {K:Frag} (h:H a = some (.lst xs)):SqL K H a xs:=.inl (.inl h)
theorem SqT.of {K:Frag} (h:H a = some (.tup xs)):SqT K H a xs:=.inl (.inl h)
theorem Inv.list (I:Inv X pins σ H s) (h:SqL X.K H a xs):∃ its:List Value,Vals xs its /\ PlainL s.heap a its.toArray /\ xs.length <= sizeLine:=by
 rcases h with h | ⟨o,its,n,hk,hc,hd,hs,hz,r⟩
 ·obtain ⟨z,its,n,r,e⟩:=h.ok I.hok
  exact ⟨its,r,⟨_,n,e,rfl,rfl,rfl⟩,z⟩
 ·refine ⟨its.toList,r,⟨o,n,I.kIn a o hk,hc,hd,by simpa using hs⟩,?_⟩
  have e:=r.length
  simp only [Array.length_toList] at e
  omega
theorem Inv.tuple (I:Inv X pins σ H s) (h:SqT X.K H a xs):∃ its:List Value,Vals xs its /\ IsTup s.heap a its.toArray /\ xs.length <= sizeLine:=by
 rcases h with h | ⟨o,its,n,hk,hc,hs,hz,r⟩
 ·obtain ⟨z,its,r,p⟩:=h.ok I.hok
  exact ⟨its,r,p,z⟩
 ·refine ⟨its.toList,r,⟨o,I.kIn a o hk,hc,n,by simpa using hs⟩,?_⟩
  have e:=r.length
  simp only [Array.length_toList] at e
  omega
theorem Inv.list_inj (I:Inv X pins σ H s) (h:SqL X.K H a xs) (h':SqL X.K H a ys):xs = ys:=by
 obtain ⟨its,r,⟨o,n,e,_,_,d⟩,_⟩:=I.list h
 obtain ⟨its',r',⟨o',n',e',_,_,d'⟩,_⟩:=I.list h'
 rw [e] at e'; cases e'
 rw [d] at d'
 injection d' with d1 _
 have:its = its':=by simpa using congrArg Array.toList d1
 subst this
 exact r.inj r'
theorem Inv.tuple_inj (I:Inv X pins σ H s) (h:SqT X.K H a xs) (h':SqT X.K H a ys):xs = ys:=by
 obtain ⟨its,r,⟨o,e,_,n,d⟩,_⟩:=I.tuple h
 obtain ⟨its',r',⟨o',e',_,n',d'⟩,_⟩:=I.tuple h'
 rw [e] at e'; cases e'
 rw [d] at d'
 injection d' with d1 _
 have:its = its':=by simpa using congrArg Array.toList d1
 subst this
 exact r.inj r'
end
noncomputable abbrev Cx.wish (X:Cx) (E:Value -> Shared -> Prop):Cx:={ X with xe:=E }
noncomputable abbrev Cx.nox (X:Cx):Cx:=X.wish fun _ _=>False
theorem Cx.Ok.wish {X:Cx} (ok:X.Ok) (E:Value -> Shared -> Prop):(X.wish E).Ok:=
 ⟨ok.mod,ok.kind,ok.glob,ok.blt,ok.above,ok.inj,ok.has,ok.cab,ok.hd,ok.frames,ok.stk,ok.exf,ok.bs,ok.bsz,ok.noex,ok.exfs,ok.funs,ok.frf⟩
theorem Cx.Ok.unwish {X:Cx} {E:Value -> Shared -> Prop} (ok:(X.wish E).Ok):X.Ok:=
 ⟨ok.mod,ok.kind,ok.glob,ok.blt,ok.above,ok.inj,ok.has,ok.cab,ok.hd,ok.frames,ok.stk,ok.exf,ok.bs,ok.bsz,ok.noex,ok.exfs,ok.funs,ok.frf⟩
section
variable {X:Cx} {pins:List (Addr × Obj)} {σ:St} {H:Hp} {s:Shared} {E:Value -> Shared -> Prop}
theorem Inv.wish (I:Inv X pins σ H s) (E:Value -> Shared -> Prop):Inv (X.wish E) pins σ H s:=⟨I.ok.wish E,I.os,I.bare,I.base,I.loc,I.cell,I.free,I.freeC,I.pin,I.hok,I.len,I.tk⟩
theorem Inv.unwish (I:Inv (X.wish E) pins σ H s):Inv X pins σ H s:=⟨I.ok.unwish,I.os,I.bare,I.base,I.loc,I.cell,I.free,I.freeC,I.pin,I.hok,I.len,I.tk⟩
theorem SP.unwish {D:Ends} {f:Flow} {s':Shared} (h:SP (X.wish E) pins D f s'):SP X pins D f s':=by
 cases f with
 | next=>obtain ⟨σ',H',I,q⟩:=h; exact ⟨σ',H',I.unwish,q⟩
 | brk=>obtain ⟨σ',H',I,q⟩:=h; exact ⟨σ',H',I.unwish,q⟩
 | cont=>obtain ⟨σ',H',I,q⟩:=h; exact ⟨σ',H',I.unwish,q⟩
 | ret u=>obtain ⟨v,σ',H',I,r,q⟩:=h; exact ⟨v,σ',H',I.unwish,r,q⟩
theorem PE.nox {e:Expr} {t:TE} (h:PE X.nox e t):PE X e t:=fun pins s σ H Q I hw=>
 wpAny_mono (h pins s σ H Q (I.wish _) hw) (fun _ _ ⟨v,H',I',r,q⟩=>⟨v,H',I'.unwish,r,q⟩) fun _ _ z=>False.elim z
theorem PT.nox {e:Expr} {t:TT} (h:PT X.nox e t):PT X e t:=fun pins s σ H Q I hw=>
 wpAny_mono (h pins s σ H Q (I.wish _) hw) (fun _ _ ⟨H',I',q⟩=>⟨H',I'.unwish,q⟩) fun _ _ z=>False.elim z
theorem PSs.nox {st:List Stmt} {t:TS} (h:PSs X.nox st t):PSs X st t:=fun pins s σ H D I hw=>
 wpAny_mono (h pins s σ H D (I.wish _) hw) (fun _ _ q=>q.unwish) fun _ _ z=>False.elim z
end
section
variable {X:Cx} {st:Stmt} {rest:List Stmt} {t u:TS} {e:Expr} {te:TE} {pos:Pos}
noncomputable def tNext:TS:=fun D σ H=>D.nx σ H
noncomputable def tSeq (t u:TS):TS:=fun D σ H=>t { D with nx:=u D } σ H
theorem pss_nil:PSs X [] tNext:=fun _ _ σ H _ I h=>wpAny_execs_nil ⟨σ,H,I,h⟩
theorem pss_cons (h1:PS X st t) (h2:PSs X rest u):PSs X (st :: rest) (tSeq t u):=by
 intro pins s σ H D I h
 refine wpAny_execs_cons (thn (h1 pins s σ H { D with nx:=u D } I h) fun f s1 q=>?_)
 cases f with
 | next=>
  obtain ⟨σ',H',I',q⟩:=q
  exact h2 pins s1 σ' H' D I' q
 | ret v=>exact q
 | brk=>exact q
 | cont=>exact q
theorem pss_one (h1:PS X st t):PSs X [st] t:=by
 intro pins s σ H D I h
 refine wpAny_execs_cons (thn (h1 pins s σ H D I h) fun f s1 q=>?_)
 cases f with
 | next=>exact wpAny_execs_nil q
 | ret v=>exact q
 | brk=>exact q
 | cont=>exact q
theorem Inv.quiet {pins:List (Addr × Obj)} {σ:St} {H:Hp} {s:Shared} (I:Inv X pins σ H s):interactive X.env = false:=by simp [interactive,I.ok.kind]
noncomputable def tDrop (te:TE):TS:=fun D σ H=>te σ H fun _ H1=>D.nx σ H1
theorem ps_expr (he:PE X e te) (hs:swapsWith e none pos.line X.env = pure false:=by rfl):PS X (.Expr e pos) (tDrop te):=by
 intro pins s σ H D I h
 exact wpAny_Expr_any (thn (he pins s σ H _ I h) fun v s1 ⟨x,H1,I1,r1,q1⟩=>⟨σ,H1,I1,q1⟩) I.quiet hs
noncomputable def tRet (te:TE):TS:=fun D σ H=>te σ H D.rt
theorem ps_ret (he:PE X e te):PS X (.Return (some e) pos) (tRet te):=by
 intro pins s σ H D I h
 exact wpAny_Return_some (thn (he pins s σ H _ I h) fun v s1 ⟨x,H1,I1,r1,q1⟩=>⟨x,σ,H1,I1,r1,q1⟩)
noncomputable def tIfS (c:TT) (t u:TS):TS:=fun D σ H=>c σ H fun b H1=>if b = true then t D σ H1 else u D σ H1
theorem ps_if {c:Expr} {a b:List Stmt} {tc:TT} (hc:PT X c tc) (ha:PSs X a t) (hb:PSs X b u):PS X (.If c a b pos) (tIfS tc t u):=by
 intro pins s σ H D I h
 refine wpAny_If (thn (hc pins s σ H _ I h) fun d s1 ⟨H1,I1,q1⟩=>?_)
 cases d with
 | true=>exact ha pins s1 σ H1 D I1 q1
 | false=>exact hb pins s1 σ H1 D I1 q1
end
noncomputable abbrev TG:=V -> St -> Hp -> (St -> Hp -> Prop) -> Prop
noncomputable abbrev TGs:=List V -> St -> Hp -> (St -> Hp -> Prop) -> Prop
def PG (X:Cx) (target:Expr) (t:TG):Prop:=
 ∀ (pins:List (Addr × Obj)) (s:Shared) (σ:St) (H:Hp) (v:V) (u:Value) (Q:St -> Hp -> Prop),Inv X pins σ H s -> RelV v u -> t v σ H Q ->
  wpAny (model X.prog X.w) X.A (assign target X.env u) (fun _ s'=>∃ σ' H',Inv X pins σ' H' s' /\ Q σ' H') X.xe s
def PGs (X:Cx) (ts:List Expr) (t:TGs):Prop:=
 ∀ (pins:List (Addr × Obj)) (s:Shared) (σ:St) (H:Hp) (vs:List V) (us:List Value) (Q:St -> Hp -> Prop),Inv X pins σ H s -> Vals vs us -> t vs σ H Q ->
  wpAny (model X.prog X.w) X.A (assignInOrder ((assignEach ts X.env).map (·.2)) us) (fun _ s'=>∃ σ' H',Inv X pins σ' H' s' /\ Q σ' H') X.xe s
noncomputable abbrev TSet:=V -> V -> V -> Hp -> (Hp -> Prop) -> Prop
def PSet (X:Cx) (t:TSet):Prop:=
 ∀ (pins:List (Addr × Obj)) (s:Shared) (σ:St) (H:Hp) (o i v:V) (ov iv u:Value) (Q:Hp -> Prop),Inv X pins σ H s -> RelV o ov -> RelV i iv -> RelV v u -> t o i v H Q ->
  wpAny (model X.prog X.w) X.A (setItem ov iv u) (fun _ s'=>∃ H',Inv X pins σ H' s' /\ Q H') X.xe s
section
variable {X:Cx} {pos:Pos}
noncomputable def gName (i:Nat):TG:=fun v σ H Q=>Q (σ.set i (some v)) H
theorem pg_name {i:Nat} {x:Str} (hN:X.N.Nodup) (hi:X.N[i]? = some x) (hx:Loc X.env.scope x) (hf:X.fn x = true \/ X.env.scope.names.lookup x = some .local:=by first | exact .inl rfl | exact .inr rfl | assumption):PG X (.Name x pos) (gName i):=by
 intro pins s σ H v u Q I r h
 exact wpAny_assign_Name (store_ok I hN hi hx r (fun s' I'=>⟨_,H,I',h⟩) hf)
noncomputable def gNil:TGs:=fun vs σ H Q=>vs = [] /\ Q σ H
noncomputable def gCons (t:TG) (u:TGs):TGs:=fun vs σ H Q=>∃ v r,vs = v :: r /\ t v σ H fun σ' H'=>u r σ' H' Q
theorem pgs_nil:PGs X [] gNil:=by
 intro pins s σ H vs us Q I r h
 obtain ⟨e,h⟩:=h
 subst e
 cases r
 exact assignInOrder_nil ⟨σ,H,I,h⟩
theorem pgs_cons {e:Expr} {es:List Expr} {t:TG} {u:TGs} (h1:PG X e t) (h2:PGs X es u)
  (hs:(assignEach (e :: es) X.env).map (·.2) = assign e X.env :: (assignEach es X.env).map (·.2):=by rfl):PGs X (e :: es) (gCons t u):=by
 intro pins s σ H vs us Q I r h
 obtain ⟨v,vr,e1,h⟩:=h
 subst e1
 cases r with
 | cons r rr=>
  rw [hs]
  refine assignInOrder_cons (thn (h1 pins s σ H _ _ _ I r h) fun _ s1 ⟨σ1,H1,I1,q1⟩=>?_)
  exact h2 pins s1 σ1 H1 _ _ Q I1 rr q1
noncomputable def gTup (K:Frag) (n:Nat) (t:TGs):TG:=fun v σ H Q=>∃ a xs,v = .ref a /\ SqT K H a xs /\ xs.length = n /\ t xs σ H Q
theorem pg_tup {es:List Expr} {k:Nat} {t:TGs} {n:Nat} (hc:X.calm = true) (h:PGs X es t)
  (hn:(assignEach es X.env).length = n:=by rfl) (hst:(assignEach es X.env).findIdx? (·.1) = none:=by rfl):PG X (.Tuple es k pos) (gTup X.K n t):=by
 intro pins s σ H v u Q I r hw
 obtain ⟨a,xs,e1,hq,hl,hw⟩:=hw
 subst e1
 cases r
 obtain ⟨its,rv,ht,hz⟩:=I.tuple hq
 refine assign_Tuple_tuple (I.ok.hd hc) ht (by simp [hn,<- hl,rv.length]) hst fun h' hx=>?_
 have I1:Inv X pins σ H { s with heap:=h' }:=I.kept (t':=s.toks) fun b o e=>hx b o (Nat.ne_of_lt (Heap.lt_size e)) e
 exact h pins _ σ H xs _ Q I1 (by simpa using rv) hw
noncomputable def gSub (to ti:TE) (t:TSet):TG:=fun v σ H Q=>to σ H fun o H1=>ti σ H1 fun i H2=>t o i v H2 fun H3=>Q σ H3
theorem pg_sub {o i:Expr} {to ti:TE} {t:TSet} (ho:PE X o to) (hi:PE X i ti) (hs:PSet X t)
  (ha:∀ v,assign (.Subscript o i pos) X.env v = (do
   let ov <- holding [v] (eval o X.env)
   let iv <- holding [v,ov] (eval i X.env)
   standAt pos
   holding [v,ov,iv] (setItem ov iv v)
   release [v,ov,iv] []):=by intro _; rfl):PG X (.Subscript o i pos) (gSub to ti t):=by
 intro pins s σ H v u Q I r h
 rw [ha]
 refine wpAny_bind (wpAny_holding (thn (ho pins s σ H _ I h) fun ov s1 ⟨x,H1,I1,r1,q1⟩=>?_))
 refine wpAny_bind (wpAny_holding (thn (hi pins s1 σ H1 _ I1 q1) fun iv s2 ⟨y,H2,I2,r2,q2⟩=>?_))
 refine wpAny_bind (wpAny_standAt (wpAny_bind (wpAny_holding (thn (hs pins s2 σ H2 x y v ov iv u _ I2 r1 r2 r q2) fun _ s3 ⟨H3,I3,q3⟩=>?_))))
 exact wpAny_release ⟨σ,H3,I3,q3⟩
noncomputable def tAsg (te:TE) (g:TG):TS:=fun D σ H=>te σ H fun x H1=>g x σ H1 D.nx
theorem ps_asg {tg e:Expr} {te:TE} {g:TG} (he:PE X e te) (hg:PG X tg g) (hs:swapsWithSole [tg] e pos.line X.env = pure false:=by rfl) (hw:swappedStores [tg] e X.env = pure none:=by rfl)
  (h1:(assignEach [tg] X.env).map (·.2) = [assign tg X.env]:=by rfl):PS X (.Assign [tg] e pos) (tAsg te g):=by
 intro pins s σ H D I h
 refine wpAny_Assign_stores (thn (he pins s σ H _ I h) fun v s1 ⟨x,H1,I1,r1,q1⟩=>?_) hs hw
 rw [h1]
 exact thn (hg pins s1 σ H1 x v _ I1 r1 q1) fun _ s2 q=>q
theorem ps_set {i:Nat} {x:Str} {e:Expr} {te:TE} {pos':Pos} (hN:X.N.Nodup) (hi:X.N[i]? = some x) (hx:Loc X.env.scope x) (he:PE X e te) (hs:swapsWith e (some (.Name x pos')) pos.line X.env = pure false:=by rfl) (hf:X.fn x = true \/ X.env.scope.names.lookup x = some .local:=by first | exact .inl rfl | exact .inr rfl | assumption):
  PS X (.Assign [.Name x pos'] e pos) (tAsg te (gName i)):=by
 intro pins s σ H D I h
 refine wpAny_Assign_Name (thn (he pins s σ H _ I h) fun v s1 ⟨y,H1,I1,r1,q1⟩=>?_) hs
 exact store_ok I1 hN hi hx r1 (fun s2 I2=>⟨_,H1,I2,q1⟩) hf
end
section
variable {X:Cx} {pos:Pos}
noncomputable def tWhile (c:TT) (tb:TS):TS:=fun D σ H=>∃ W:Nat -> St -> Hp -> Prop,(∃ m,W m σ H) /\ ∀ m σ H,W m σ H ->
 c σ H fun b H1=>if b = true then ∃ N:St -> Hp -> Prop,(∀ σ' H',N σ' H' -> ∃ m',m' < m /\ W m' σ' H') /\ tb { D with nx:=N,ct:=N,bk:=D.nx } σ H1 else D.nx σ H1
theorem ps_while {c:Expr} {body:List Stmt} {tc:TT} {tb:TS} (hp:PassesOwn (model X.prog X.w) X.A X.env X.xe) (hc:PT X c tc) (hb:PSs X body tb):PS X (.While c body [] pos) (tWhile tc tb):=by
 intro pins s σ H D I h
 obtain ⟨W,⟨m0,w0⟩,turn⟩:=h
 refine wpAny_While (codeAny_whileLoop (fun n s'=>∃ σ' H',Inv X pins σ' H' s' /\ W n σ' H') ?_ m0 ⟨σ,H,I,w0⟩)
 rintro n s1 ⟨σ1,H1,I1,w1⟩
 refine wpAny_passesOwn hp (thn (hc pins s1 σ1 H1 _ I1 (turn n σ1 H1 w1)) fun b s2 ⟨H2,I2,q2⟩=>?_)
 cases b with
 | true=>
  obtain ⟨N,hN,q2⟩:=q2
  rw [if_pos rfl]
  refine wpAny_passesOwn hp (thn (hb pins s2 σ1 H2 _ I2 q2) fun f s3 q3=>?_)
  cases f with
  | next=>
   obtain ⟨σ3,H3,I3,n3⟩:=q3
   obtain ⟨m',hm,w3⟩:=hN σ3 H3 n3
   exact ⟨m',hm,σ3,H3,I3,w3⟩
  | cont=>
   obtain ⟨σ3,H3,I3,n3⟩:=q3
   obtain ⟨m',hm,w3⟩:=hN σ3 H3 n3
   exact ⟨m',hm,σ3,H3,I3,w3⟩
  | brk=>exact q3
  | ret v=>exact q3
 | false=>
  rw [if_neg Bool.false_ne_true]
  exact wpAny_execs_nil ⟨σ1,H2,I2,q2⟩
end
structure It where
 go:Nat -> Hp -> Prop
 yld:Nat -> Hp -> V -> Hp -> Prop
 stop:Nat -> Hp -> Prop
def FpOk (X:Cx) (pins:List (Addr × Obj)) (H:Hp) (b:Addr):Prop:=
 H b = none /\ b ≠ X.env.locals /\ b ∉ X.fs /\ (b ∈ X.ex \/ X.s₀.heap.objs.size <= b) /\ (∀ x c,X.env.cells.lookup x = some c -> c ≠ b) /\ ∀ p ∈ X.pn ++ pins,p.1 ≠ b
theorem Inv.fpOk {X:Cx} {pins:List (Addr × Obj)} {σ:St} {H H':Hp} {s:Shared} {b:Addr} (I:Inv X pins σ H s) (hb:s.heap.objs.size <= b) (hn:H' b = none):FpOk X pins H' b:=by
 refine ⟨hn,Nat.ne_of_gt (Nat.lt_of_lt_of_le I.lt hb),I.nofs hb,.inr (Nat.le_trans I.sz hb),fun x c e z=>?_,fun p hp z=>?_⟩
 ·obtain ⟨v,q⟩:=I.cell x c e
  exact absurd (Nat.lt_of_lt_of_le q.lt (by rw [z]; exact hb)) (Nat.lt_irrefl _)
 ·exact absurd (Nat.lt_of_lt_of_le (Heap.lt_size (I.pin p hp).1) (by rw [z]; exact hb)) (Nat.lt_irrefl _)
structure Turn (P:Program) (w:World) (K:Frag) (tg:Expr) (J:It) (fp:List Addr) (it:Addr) (tn:Nat -> Heap -> Prop):Prop where
 mem:it ∈ fp
 obj:∀ i h,tn i h -> ∀ b ∈ fp,∃ o,h.get? b = some o /\ ∀ v,o.data ≠ .cell v
 keep:∀ i h h',tn i h -> (∀ b ∈ fp,∀ o,h.get? b = some o -> h'.get? b = some o) -> tn i h'
 item:∀ (X:Cx),X.prog = P -> X.w = w -> X.K = K -> X.calm = true -> ∀ (i:Nat) (pins:List (Addr × Obj)) (s:Shared) (σ:St) (H:Hp) (E:Value -> Shared -> Prop),Inv X pins σ H s -> (∀ b ∈ fp,FpOk X pins H b) -> tn i s.heap -> J.go i H ->
  wpAny (model P w) X.A (pyNext (.ref it)) (fun r s1=>∃ u,r = some u /\
   wpAny (model P w) X.A (letOwnedTupleGo tg (.ref it) u) (fun _ s2=>∃ x H',Inv X pins σ H' s2 /\ RelV x u /\ J.yld i H x H' /\ tn (i + 1) s2.heap /\ ∀ b ∈ fp,H' b = none) E s1) E s
 done:∀ (X:Cx),X.prog = P -> X.w = w -> X.K = K -> X.calm = true -> ∀ (i:Nat) (pins:List (Addr × Obj)) (s:Shared) (σ:St) (H:Hp) (E:Value -> Shared -> Prop),Inv X pins σ H s -> (∀ b ∈ fp,FpOk X pins H b) -> tn i s.heap -> J.stop i H ->
  wpAny (model P w) X.A (pyNext (.ref it)) (fun r s1=>r = none /\ Inv X pins σ H s1) E s
 self:∀ (A:Around) (i:Nat) (s:Shared) (Q:Value -> Shared -> Prop) (E:Value -> Shared -> Prop),tn i s.heap -> Q (.ref it) s -> wpAny (model P w) A (pyIter (.ref it)) Q E s
noncomputable abbrev TI:=St -> Hp -> (It -> Hp -> Prop) -> Prop
def PIE (X:Cx) (pins:List (Addr × Obj)) (σ:St) (tg:Expr) (R:It -> Hp -> Prop) (itv:Value) (s2:Shared):Prop:=
 ∃ (it:Addr) (fp:List Addr) (tn:Nat -> Heap -> Prop) (J:It) (H':Hp),itv = .ref it /\ Inv X pins σ H' s2 /\ Turn X.prog X.w X.K tg J fp it tn /\ tn 0 s2.heap /\ (∀ b ∈ fp,FpOk X pins H' b) /\ R J H'
def PI (X:Cx) (tg iter:Expr) (wi:TI):Prop:=
 ∀ (pins:List (Addr × Obj)) (s:Shared) (σ:St) (H:Hp) (R:It -> Hp -> Prop),Inv X pins σ H s -> wi σ H R ->
  wpAny (model X.prog X.w) X.A (eval iter X.env) (fun v s1=>wpAny (model X.prog X.w) X.A (pyIter v) (PIE X pins σ tg R) X.xe s1) X.xe s
theorem go_of {M:Model} {A:Around} {E:Value -> Shared -> Prop} {s:Shared} {tg:Expr} {it:Addr} {u:Value} {o:Obj} {n:String} {vs:Array Value} {Q:Unit -> Shared -> Prop} (ho:s.heap.get? it = some o) (hc:o.cls = .type n) (hd:o.data = .fields vs)
  (hn:["enumerate", "zip", "dict_itemiterator", "dict_reverseitemiterator", "odict_iterator", "itertools.zip_longest", "itertools.pairwise"].contains n = false) (hQ:Q () s):wpAny M A (letOwnedTupleGo tg (.ref it) u) Q E s:=by
 unfold letOwnedTupleGo
 cases tg <;> first
  | exact wpAny_pure hQ
  | (cases u <;> first
    | exact wpAny_pure hQ
    | (refine wpAny_bind (wpAny_load ho ?_); rw [hc,hd]; show wpAny M A (if (["enumerate", "zip", "dict_itemiterator", "dict_reverseitemiterator", "odict_iterator", "itertools.zip_longest", "itertools.pairwise"].contains n && vs[0]? == some (rawInt _)) = true then _ else _) Q E s; rw [if_neg (by intro h; rw [hn,Bool.false_and] at h; cases h)]; exact wpAny_pure hQ))
noncomputable def Itl (K:Frag) (a:Addr):It:=
 ⟨fun i H=>∃ xs x,SqL K H a xs /\ xs[i]? = some x,fun i H x H'=>H' = H /\ ∀ xs,SqL K H a xs -> xs[i]? = some x,fun i H=>∃ xs,SqL K H a xs /\ xs.length <= i⟩
noncomputable def Itt (K:Frag) (a:Addr):It:=
 ⟨fun i H=>∃ xs x,SqT K H a xs /\ xs[i]? = some x,fun i H x H'=>H' = H /\ ∀ xs,SqT K H a xs -> xs[i]? = some x,fun i H=>∃ xs,SqT K H a xs /\ xs.length <= i⟩
noncomputable def Itr (lo:Int) (n:Nat):It:=⟨fun i _=>i < n,fun i H x H'=>H' = H /\ x = .int (lo + i),fun i _=>n <= i⟩
theorem turn_list {P:Program} {w:World} {K:Frag} {tg:Expr} (a it:Addr):Turn P w K tg (Itl K a) [it] it (fun i h=>h.IsListIter it a i) where
 mem:=by simp
 obj:=fun i h st b hb=>by
  have e:b = it:=by simpa using hb
  subst e
  obtain ⟨o,e,c,d⟩:=st
  exact ⟨o,e,fun v z=>by rw [d] at z; cases z⟩
 keep:=fun i h h' st k=>st.at fun o e=>k it (by simp) o e
 item:=by
  intro X hP hw hK hc i pins s σ H E I hf st hg
  subst hP hw hK
  obtain ⟨xs,x,hq,hx⟩:=hg
  obtain ⟨its,rv,p,hz⟩:=I.list hq
  obtain ⟨u,hu,ru⟩:=rv.get hx
  obtain ⟨f0,f1,f2,f3,f4,f5⟩:=hf it (by simp)
  refine wpAny_pyNext_list_item st p.isList (x:=u) (by simpa using hu) fun h' st' sb=>?_
  have I1:Inv X pins σ H { s with heap:=h' }:=I.turned (t':=s.toks) (fun b o hb e=>(sb.2 b hb).trans e) f0 f1 f3 f4 f5
  obtain ⟨o,e,c,d⟩:=id st'
  exact ⟨u,rfl,go_of (s:={ s with heap:=h' }) e c d (by decide) ⟨x,H,I1,ru,⟨rfl,fun ys hy=>by rw [I.list_inj hy hq]; exact hx⟩,st',fun b hb=>(hf b hb).1⟩⟩
 done:=by
  intro X hP hw hK hc i pins s σ H E I hf st hg
  subst hP hw hK
  obtain ⟨xs,hq,hx⟩:=hg
  obtain ⟨its,rv,p,hz⟩:=I.list hq
  obtain ⟨f0,f1,f2,f3,f4,f5⟩:=hf it (by simp)
  have hl:=rv.length
  exact wpAny_pyNext_list_end (I.ok.hd hc) st p.isList (by simp; omega) fun h' eb=>⟨rfl,I.turned (t':=s.toks) (fun b o hb e=>eb b o hb e) f0 f1 f3 f4 f5⟩
 self:=fun _ _ _ _ _ st h=>wpAny_pyIter_listiter st h
theorem turn_tuple {P:Program} {w:World} {K:Frag} {tg:Expr} (a it:Addr):Turn P w K tg (Itt K a) [it] it (fun i h=>h.IsTupleIter it a i) where
 mem:=by simp
 obj:=fun i h st b hb=>by
  have e:b = it:=by simpa using hb
  subst e
  obtain ⟨o,e,c,d⟩:=st
  exact ⟨o,e,fun v z=>by rw [d] at z; cases z⟩
 keep:=fun i h h' st k=>st.at fun o e=>k it (by simp) o e
 item:=by
  intro X hP hw hK hc i pins s σ H E I hf st hg
  subst hP hw hK
  obtain ⟨xs,x,hq,hx⟩:=hg
  obtain ⟨its,rv,p,hz⟩:=I.tuple hq
  obtain ⟨u,hu,ru⟩:=rv.get hx
  obtain ⟨f0,f1,f2,f3,f4,f5⟩:=hf it (by simp)
  refine wpAny_pyNext_tuple_item st (show s.heap.IsTuple a its.toArray from p) (x:=u) (by simpa using hu) fun h' st' sb=>?_
  have I1:Inv X pins σ H { s with heap:=h' }:=I.turned (t':=s.toks) (fun b o hb e=>(sb.2 b hb).trans e) f0 f1 f3 f4 f5
  obtain ⟨o,e,c,d⟩:=id st'
  exact ⟨u,rfl,go_of (s:={ s with heap:=h' }) e c d (by decide) ⟨x,H,I1,ru,⟨rfl,fun ys hy=>by rw [I.tuple_inj hy hq]; exact hx⟩,st',fun b hb=>(hf b hb).1⟩⟩
 done:=by
  intro X hP hw hK hc i pins s σ H E I hf st hg
  subst hP hw hK
  obtain ⟨xs,hq,hx⟩:=hg
  obtain ⟨its,rv,p,hz⟩:=I.tuple hq
  obtain ⟨f0,f1,f2,f3,f4,f5⟩:=hf it (by simp)
  have hl:=rv.length
  exact wpAny_pyNext_tuple_end (I.ok.hd hc) st (show s.heap.IsTuple a its.toArray from p) (by simp; omega) fun h' eb=>⟨rfl,I.turned (t':=s.toks) (fun b o hb e=>eb b o hb e) f0 f1 f3 f4 f5⟩
 self:=fun _ _ _ _ _ st h=>wpAny_pyIter_tupleiter st h
theorem turn_range {P:Program} {w:World} {K:Frag} {tg:Expr} (it:Addr) (lo:Int) (n:Nat):Turn P w K tg (Itr lo n) [it] it (fun i h=>IsRangeIter h it (lo + (i:Nat) * 1) ((n:Int) - (i:Nat)) 1) where
 mem:=by simp
 obj:=fun i h st b hb=>by
  have e:b = it:=by simpa using hb
  subst e
  exact ⟨_,st,fun v z=>by
   have z':Data.fields _ = Data.cell v:=z
   cases z'⟩
 keep:=fun i h h' st k=>k it (by simp) _ st
 item:=by
  intro X hP hw hK hc i pins s σ H E I hf st hg
  subst hP hw hK
  obtain ⟨f0,f1,f2,f3,f4,f5⟩:=hf it (by simp)
  have W:=Walks.range (prog:=X.prog) (w:=X.w) (I.ok.hd hc) it lo 1 n
  refine tokQ I.tk (W.item i s _ _ hg st fun v h' tk hv st' kk (htk:0 < tk)=>?_)
  obtain ⟨t,rfl⟩:=hv
  have I1:Inv X pins σ H { s with heap:=h',toks:=tk }:=I.turned (fun b o hb e=>kk b o (by simpa using hb) e) f0 f1 f3 f4 f5
  refine ⟨_,rfl,go_of (s:={ s with heap:=h',toks:=tk }) (n := "range_iterator") st' rfl rfl (by decide) ⟨.int (lo + i),H,I1,⟨t,?_⟩,⟨rfl,rfl⟩,st',fun b hb=>(hf b hb).1⟩⟩
  rw [Int.mul_one]
 done:=by
  intro X hP hw hK hc i pins s σ H E I hf st hg
  subst hP hw hK
  obtain ⟨f0,f1,f2,f3,f4,f5⟩:=hf it (by simp)
  exact wpAny_pyNext_range_end (I.ok.hd hc) st (by have:n <= i:=hg; omega) fun h' eb=>⟨rfl,I.turned (t':=s.toks) (fun b o hb e=>eb b o hb e) f0 f1 f3 f4 f5⟩
 self:=fun _ _ _ _ _ st h=>wpAny_pyIter_rangeiter st h
section
variable {X:Cx} {tg:Expr}
theorem range_it {pins:List (Addr × Obj)} {σ:St} {H:Hp} {s:Shared} {R:It -> Hp -> Prop} {E:Value -> Shared -> Prop} {lo hi:Int} {t u v:Tok} {tk:Nat} (I:Inv X pins σ H s) (h1:-(2 ^ 62) <= lo) (h2:lo < 2 ^ 62) (h3:-(2 ^ 62) <= hi) (h4:hi < 2 ^ 62)
  (q:R (Itr lo (hi - lo).toNat) H) (htk:0 < tk:=by first | assumption | exact Nat.succ_pos _ | (apply Inv.tk; assumption) | omega):wpAny (model X.prog X.w) X.A (pyIter (.ref s.heap.objs.size)) (PIE X pins σ tg R) E { s with heap:=s.heap.push { cls:=.type "range",data:=.fields #[.int lo t,.int hi u,.int 1 v] },toks:=tk }:=by
 refine wpAny_pyIter_range (IsRange.new ..) (small_one h1 h2 h3 h4) ?_
 have I1:Inv X pins σ H { s with heap:=s.heap.push { cls:=.type "range",data:=.fields #[.int lo t,.int hi u,.int 1 v] },toks:=tk }:=I.kept fun b o e=>Heap.get?_push_of_some _ e
 refine ⟨(s.heap.push { cls:=.type "range",data:=.fields #[.int lo t,.int hi u,.int 1 v] }).objs.size,[(s.heap.push { cls:=.type "range",data:=.fields #[.int lo t,.int hi u,.int 1 v] }).objs.size],_,_,H,rfl,
  I1.kept (t':=tk) fun b o e=>Heap.get?_push_of_some _ e,turn_range _ lo (hi - lo).toNat,?_,fun b hb=>?_,q⟩
 ·have e1:lo + ((0:Nat):Int) * 1 = lo:=by simp
  have e2:(((hi - lo).toNat:Nat):Int) - ((0:Nat):Int) = Builtin.Range.rangeSize lo hi 1:=by rw [rangeSize_one]; split <;> omega
  show IsRangeIter _ _ (lo + ((0:Nat):Int) * 1) ((((hi - lo).toNat:Nat):Int) - ((0:Nat):Int)) 1
  rw [e1,e2]
  exact Heap.get?_push_size _ rfl
 ·have e:b = (s.heap.push { cls:=.type "range",data:=.fields #[.int lo t,.int hi u,.int 1 v] }).objs.size:=by simpa using hb
  subst e
  exact I1.fpOk (Nat.le_refl _) (I1.hok.fresh (Nat.le_refl _))
noncomputable def iRng1 (ta:TA):TI:=fun σ H R=>ta σ H fun vs H1=>∃ j:Int,vs = [.int j] /\ -(2 ^ 62) <= j /\ j < 2 ^ 62 /\ R (Itr 0 j.toNat) H1
theorem pi_range1 {a:Expr} {ta:TA} {p pos:Pos} (hg:Gl X "range") (hm:X.mg "range" = none) (ha:PA X [a] ta) (hs:starEach [a] X.env = [(false,eval a X.env)]:=by rfl):PI X tg (.Call (.Name "range" p) [a] [] pos) (iRng1 ta):=by
 intro pins s σ H R I h
 refine Call_ (ld_blt I hg hm boot_range (PyProof.Rows.callWith_type1 (thn (ha pos pins s σ H _ I h) fun us s1 ⟨vs,H1,I1,r1,q1⟩=>?_) hs rfl))
 obtain ⟨j,e,q1,q2,q⟩:=q1
 subst e
 cases r1 with
 | cons r rr=>
  cases rr
  obtain ⟨t,rfl⟩:=r
  exact call_range_1 (range_it I1 (by omega) (by omega) q1 q2 (by simpa using q))
noncomputable def tFor (wi:TI) (g:TG) (tb:TS):TS:=fun D σ H=>wi σ H fun J H1=>∃ W:Nat -> Nat -> St -> Hp -> Prop,(∃ m,W 0 m σ H1) /\ ∀ i m σ H,W i m σ H ->
 (J.stop i H /\ D.nx σ H) \/ (J.go i H /\ ∃ N:St -> Hp -> Prop,(∀ σ' H',N σ' H' -> ∃ m',m' < m /\ W (i + 1) m' σ' H') /\ ∀ x H',J.yld i H x H' -> g x σ H' fun σ2 H2=>tb { D with nx:=N,ct:=N,bk:=D.nx } σ2 H2)
noncomputable def pinsAt (fp:List Addr) (h:Heap):List (Addr × Obj):=fp.filterMap fun b=>(h.get? b).map fun o=>(b,o)
theorem mem_pinsAt {fp:List Addr} {h:Heap} {b:Addr} {o:Obj} (hb:b ∈ fp) (e:h.get? b = some o):(b,o) ∈ pinsAt fp h:=List.mem_filterMap.mpr ⟨b,hb,by rw [e]; rfl⟩
theorem of_pinsAt {fp:List Addr} {h:Heap} {p:Addr × Obj} (hp:p ∈ pinsAt fp h):p.1 ∈ fp /\ h.get? p.1 = some p.2:=by
 obtain ⟨b,hb,e⟩:=List.mem_filterMap.mp hp
 cases q:h.get? b with
 | none=>rw [q] at e; cases e
 | some o=>
  rw [q] at e
  have e':(b,o) = p:=Option.some.inj e
  subst e'
  exact ⟨hb,q⟩
theorem Inv.pinned {pins:List (Addr × Obj)} {σ:St} {H:Hp} {s:Shared} {fp:List Addr} (I:Inv X pins σ H s) (hf:∀ b ∈ fp,FpOk X pins H b) (ho:∀ b ∈ fp,∃ o,s.heap.get? b = some o /\ ∀ v,o.data ≠ .cell v):Inv X (pins ++ pinsAt fp s.heap) σ H s:=
 I.pins_of fun p hp=>(List.mem_append.mp hp).elim (fun z=>I.pin p (List.mem_append_right _ z)) fun z=>by
  obtain ⟨hb,e⟩:=of_pinsAt z
  obtain ⟨f0,f1,f2,_⟩:=hf p.1 hb
  obtain ⟨o,e',d⟩:=ho p.1 hb
  rw [e] at e'; cases e'
  exact ⟨e,f0,f1,f2,d⟩
theorem Inv.unpinned {pins pl:List (Addr × Obj)} {σ:St} {H:Hp} {s:Shared} (I:Inv X (pins ++ pl) σ H s):Inv X pins σ H s:=I.pins_of fun p hp=>I.pin p (List.mem_append_right _ (List.mem_append_left _ hp))
theorem ps_for {iter:Expr} {body:List Stmt} {wi:TI} {g:TG} {tb:TS} {pos:Pos} (hp:PassesOwn (model X.prog X.w) X.A X.env X.xe) (hc:X.calm = true) (hi:PI X tg iter wi) (hg:PG X tg g) (hb:PSs X body tb)
  (hs:∀ x,foldedSetIterable iter X.env x = pure x:=by intro _; rfl):PS X (.For tg iter body [] pos) (tFor wi g tb):=by
 intro pins s σ H D I h
 refine wpAny_For (thn (hi pins s σ H _ I h) fun v s1 h1=>thn h1 fun itv s2 h2=>?_) hs
 obtain ⟨it,fp,tn,J,H2,e,I2,T,st2,f2,W,⟨m0,w0⟩,turn⟩:=h2
 subst e
 have stat:∀ {H':Hp},(∀ b ∈ fp,H' b = none) -> ∀ b ∈ fp,FpOk X pins H' b:=fun hn b hb=>⟨hn b hb,(f2 b hb).2⟩
 refine codeAny_forLoop_any (fun n s'=>∃ i σ' H',Inv X pins σ' H' s' /\ tn i s'.heap /\ (∀ b ∈ fp,H' b = none) /\ W i n σ' H') ?_ m0 ⟨0,σ,H2,I2,st2,fun b hb=>(f2 b hb).1,w0⟩
 rintro n s3 ⟨i,σ3,H3,I3,st3,fr3,w3⟩
 rcases turn i n σ3 H3 w3 with ⟨stop,qn⟩ | ⟨go,N,hN,step⟩
 ·refine wpAny_passesOwn hp (thn (T.done X rfl rfl rfl hc i pins s3 σ3 H3 X.xe I3 (stat fr3) st3 stop) fun r s4 ⟨hr,I4⟩=>?_)
  subst hr
  exact wpAny_execs_nil ⟨σ3,H3,I4,qn⟩
 ·refine wpAny_passesOwn hp (thn (T.item X rfl rfl rfl hc i pins s3 σ3 H3 X.xe I3 (stat fr3) st3 go) fun r s4 ⟨u,hr,h4⟩=>?_)
  subst hr
  refine wpAny_passesOwn hp (thn h4 fun _ s5 ⟨x,H5,I5,r5,y5,st5,fr5⟩=>?_)
  have I5':=I5.pinned (stat fr5) (T.obj _ _ st5)
  refine wpAny_passesOwn hp (thn (hg _ s5 σ3 H5 x u _ I5' r5 (step x H5 y5)) fun _ s6 ⟨σ6,H6,I6,q6⟩=>?_)
  refine wpAny_passesOwn hp (thn (hb _ s6 σ6 H6 _ I6 q6) fun f s7 q7=>?_)
  have again:∀ {σ7:St} {H7:Hp},Inv X (pins ++ pinsAt fp s5.heap) σ7 H7 s7 -> N σ7 H7 -> ∃ m,m < n /\ ∃ i σ' H',Inv X pins σ' H' s7 /\ tn i s7.heap /\ (∀ b ∈ fp,H' b = none) /\ W i m σ' H':=fun {σ7 H7} I7 n7=>by
   obtain ⟨m',hm,w7⟩:=hN σ7 H7 n7
   refine ⟨m',hm,i + 1,σ7,H7,I7.unpinned,T.keep _ _ _ st5 fun b hb o e=>(I7.pin (b,o) (List.mem_append_right _ (List.mem_append_right _ (mem_pinsAt hb e)))).1,fun b hb=>?_,w7⟩
   obtain ⟨o,e,d⟩:=T.obj _ _ st5 b hb
   exact (I7.pin (b,o) (List.mem_append_right _ (List.mem_append_right _ (mem_pinsAt hb e)))).2.1
  cases f with
  | next=>obtain ⟨σ7,H7,I7,n7⟩:=q7; exact again I7 n7
  | cont=>obtain ⟨σ7,H7,I7,n7⟩:=q7; exact again I7 n7
  | brk=>obtain ⟨σ7,H7,I7,q7⟩:=q7; exact ⟨σ7,H7,I7.unpinned,q7⟩
  | ret v=>obtain ⟨x7,σ7,H7,I7,r7,q7⟩:=q7; exact ⟨x7,σ7,H7,I7.unpinned,r7,q7⟩
end
theorem for_list {K:Frag} {a:Addr} {xs:List V} {g:TG} {tb:TS} {D:Ends} {σ:St} {H:Hp} (Pv:Nat -> St -> Hp -> Prop) (h0:Pv 0 σ H) (hl:∀ i σ H,i <= xs.length -> Pv i σ H -> SqL K H a xs)
  (hs:∀ i x σ H,xs[i]? = some x -> Pv i σ H -> g x σ H fun σ2 H2=>tb { D with nx:=Pv (i + 1),ct:=Pv (i + 1),bk:=D.nx } σ2 H2) (hd:∀ σ H,Pv xs.length σ H -> D.nx σ H):
  ∃ W:Nat -> Nat -> St -> Hp -> Prop,(∃ m,W 0 m σ H) /\ ∀ i m σ H,W i m σ H ->
   ((Itl K a).stop i H /\ D.nx σ H) \/ ((Itl K a).go i H /\ ∃ N:St -> Hp -> Prop,(∀ σ' H',N σ' H' -> ∃ m',m' < m /\ W (i + 1) m' σ' H') /\ ∀ x H',(Itl K a).yld i H x H' -> g x σ H' fun σ2 H2=>tb { D with nx:=N,ct:=N,bk:=D.nx } σ2 H2):=by
 refine ⟨fun i m σ H=>m = xs.length - i /\ i <= xs.length /\ Pv i σ H,⟨xs.length,by simp,Nat.zero_le _,h0⟩,?_⟩
 rintro i m σ H ⟨rfl,hi,p⟩
 have q:=hl i σ H hi p
 by_cases hlt:i < xs.length
 ·refine .inr ⟨⟨xs,xs[i],q,by simp [hlt]⟩,Pv (i + 1),fun σ' H' p'=>⟨xs.length - (i + 1),by omega,rfl,hlt,p'⟩,fun x H' y=>?_⟩
  obtain ⟨e,y⟩:=y
  subst e
  exact hs i x σ _ (y xs q) p
 ·have e:i = xs.length:=by omega
  subst e
  exact .inl ⟨⟨xs,q,Nat.le_refl _⟩,hd σ H p⟩
theorem for_tup {K:Frag} {a:Addr} {xs:List V} {g:TG} {tb:TS} {D:Ends} {σ:St} {H:Hp} (Pv:Nat -> St -> Hp -> Prop) (h0:Pv 0 σ H) (hl:∀ i σ H,i <= xs.length -> Pv i σ H -> SqT K H a xs)
  (hs:∀ i x σ H,xs[i]? = some x -> Pv i σ H -> g x σ H fun σ2 H2=>tb { D with nx:=Pv (i + 1),ct:=Pv (i + 1),bk:=D.nx } σ2 H2) (hd:∀ σ H,Pv xs.length σ H -> D.nx σ H):
  ∃ W:Nat -> Nat -> St -> Hp -> Prop,(∃ m,W 0 m σ H) /\ ∀ i m σ H,W i m σ H ->
   ((Itt K a).stop i H /\ D.nx σ H) \/ ((Itt K a).go i H /\ ∃ N:St -> Hp -> Prop,(∀ σ' H',N σ' H' -> ∃ m',m' < m /\ W (i + 1) m' σ' H') /\ ∀ x H',(Itt K a).yld i H x H' -> g x σ H' fun σ2 H2=>tb { D with nx:=N,ct:=N,bk:=D.nx } σ2 H2):=by
 refine ⟨fun i m σ H=>m = xs.length - i /\ i <= xs.length /\ Pv i σ H,⟨xs.length,by simp,Nat.zero_le _,h0⟩,?_⟩
 rintro i m σ H ⟨rfl,hi,p⟩
 have q:=hl i σ H hi p
 by_cases hlt:i < xs.length
 ·refine .inr ⟨⟨xs,xs[i],q,by simp [hlt]⟩,Pv (i + 1),fun σ' H' p'=>⟨xs.length - (i + 1),by omega,rfl,hlt,p'⟩,fun x H' y=>?_⟩
  obtain ⟨e,y⟩:=y
  subst e
  exact hs i x σ _ (y xs q) p
 ·have e:i = xs.length:=by omega
  subst e
  exact .inl ⟨⟨xs,q,Nat.le_refl _⟩,hd σ H p⟩
theorem for_range {lo:Int} {n:Nat} {g:TG} {tb:TS} {D:Ends} {σ:St} {H:Hp} (Pv:Nat -> St -> Hp -> Prop) (h0:Pv 0 σ H)
  (hs:∀ i σ H,i < n -> Pv i σ H -> g (.int (lo + i)) σ H fun σ2 H2=>tb { D with nx:=Pv (i + 1),ct:=Pv (i + 1),bk:=D.nx } σ2 H2) (hd:∀ σ H,Pv n σ H -> D.nx σ H):
  ∃ W:Nat -> Nat -> St -> Hp -> Prop,(∃ m,W 0 m σ H) /\ ∀ i m σ H,W i m σ H ->
   ((Itr lo n).stop i H /\ D.nx σ H) \/ ((Itr lo n).go i H /\ ∃ N:St -> Hp -> Prop,(∀ σ' H',N σ' H' -> ∃ m',m' < m /\ W (i + 1) m' σ' H') /\ ∀ x H',(Itr lo n).yld i H x H' -> g x σ H' fun σ2 H2=>tb { D with nx:=N,ct:=N,bk:=D.nx } σ2 H2):=by
 refine ⟨fun i m σ H=>m = n - i /\ i <= n /\ Pv i σ H,⟨n,by simp,Nat.zero_le _,h0⟩,?_⟩
 rintro i m σ H ⟨rfl,hi,p⟩
 by_cases hlt:i < n
 ·refine .inr ⟨hlt,Pv (i + 1),fun σ' H' p'=>⟨n - (i + 1),by omega,rfl,hlt,p'⟩,fun x H' y=>?_⟩
  obtain ⟨e,y⟩:=y
  subst e y
  exact hs i σ _ hlt p
 ·have e:i = n:=by omega
  subst e
  exact .inl ⟨Nat.le_refl _,hd σ H p⟩
noncomputable abbrev R2:=V -> V -> Hp -> VK -> Prop
def OpR (X:Cx) (f:Value -> Value -> Sem Value) (r:R2):Prop:=
 ∀ (pins:List (Addr × Obj)) (s:Shared) (σ:St) (H:Hp) (x y:V) (v u:Value) (Q:VK),Inv X pins σ H s -> RelV x v -> RelV y u -> r x y H Q ->
  wpAny (model X.prog X.w) X.A (f v u) (EP X pins σ Q) X.xe s
def CallR (X:Cx) (f:Value) (r:List V -> Hp -> VK -> Prop):Prop:=
 ∀ (pins:List (Addr × Obj)) (s:Shared) (σ:St) (H:Hp) (xs:List V) (us:List Value) (Q:VK),Inv X pins σ H s -> Vals xs us -> r xs H Q ->
  wpAny (model X.prog X.w) X.A (call f us) (EP X pins σ Q) X.xe s
noncomputable def tOp (r:R2) (ta tb:TE):TE:=fun σ H Q=>ta σ H fun x H1=>tb σ H1 fun y H2=>r x y H2 Q
noncomputable def rI (C:Int -> Int -> Prop) (g:Int -> Int -> V):R2:=fun x y H Q=>∃ i j,x = .int i /\ y = .int j /\ C i j /\ Q (g i j) H
noncomputable def rI0 (g:Int -> Int -> V):R2:=fun x y H Q=>∃ i j,x = .int i /\ y = .int j /\ Q (g i j) H
section
variable {X:Cx} {a b c:Expr} {ta tb tc:TE} {pos:Pos}
theorem binT (ha:PE X a ta) (hb:PE X b tb) {pins:List (Addr × Obj)} {s:Shared} {σ:St} {H:Hp} {R:V -> V -> Hp -> Prop} (I:Inv X pins σ H s)
  (h:ta σ H fun x H1=>tb σ H1 fun y H2=>R x y H2) {Q:Value -> Shared -> Prop} {f:Value -> Value -> Sem Value}
  (hf:∀ v u s2 x y H2,Inv X pins σ H2 s2 -> RelV x v -> RelV y u -> R x y H2 -> wpAny (model X.prog X.w) X.A (f v u) Q X.xe s2):
  wpAny (model X.prog X.w) X.A (eval a X.env) (fun v s₁=>wpAny (model X.prog X.w) X.A (eval b X.env) (fun u s₂=>wpAny (model X.prog X.w) X.A (f v u) Q X.xe s₂) X.xe s₁) X.xe s:=by
 refine thn (ha pins s σ H _ I h) fun v s1 ⟨x,H1,I1,r1,q1⟩=>?_
 refine thn (hb pins s1 σ H1 _ I1 q1) fun u s2 ⟨y,H2,I2,r2,q2⟩=>?_
 exact hf v u s2 x y H2 I2 r1 r2 q2
theorem pe_op {op:Operator} {r:R2} (ho:OpR X (binaryOp op) r) (ha:PE X a ta) (hb:PE X b tb):PE X (.BinOp a op b pos) (tOp r ta tb):=by
 intro pins s σ H Q I h
 exact wpAny_BinOp (binT ha hb I h fun v u s2 x y H2 I2 rx ry q=>ho pins s2 σ H2 x y v u Q I2 rx ry q)
theorem opI {f:Value -> Value -> Sem Value} {C:Int -> Int -> Prop} {g:Int -> Int -> Int}
  (rule:∀ (i j:Int) (t u:Tok) (s:Shared) (Q:Value -> Shared -> Prop) (E:Value -> Shared -> Prop),C i j -> Q (.int (g i j) s.toks) { s with toks:=s.toks + 1 } -> wpAny (model X.prog X.w) X.A (f (.int i t) (.int j u)) Q E s):
  OpR X f (rI C fun i j=>.int (g i j)):=by
 intro pins s σ H x y v u Q I rx ry h
 obtain ⟨i,j,rfl,rfl,hc,q⟩:=h
 obtain ⟨t,rfl⟩:=rx
 obtain ⟨t',rfl⟩:=ry
 exact rule i j t t' s _ _ hc ⟨.int (g i j),H,I.tok _,⟨_,rfl⟩,q⟩
theorem opI0 {f:Value -> Value -> Sem Value} {g:Int -> Int -> Int}
  (rule:∀ (i j:Int) (t u:Tok) (s:Shared) (Q:Value -> Shared -> Prop) (E:Value -> Shared -> Prop),Q (.int (g i j) s.toks) { s with toks:=s.toks + 1 } -> wpAny (model X.prog X.w) X.A (f (.int i t) (.int j u)) Q E s):
  OpR X f (rI0 fun i j=>.int (g i j)):=by
 intro pins s σ H x y v u Q I rx ry h
 obtain ⟨i,j,rfl,rfl,q⟩:=h
 obtain ⟨t,rfl⟩:=rx
 obtain ⟨t',rfl⟩:=ry
 exact rule i j t t' s _ _ ⟨.int (g i j),H,I.tok _,⟨_,rfl⟩,q⟩
theorem opB0 {f:Value -> Value -> Sem Value} {g:Int -> Int -> Bool}
  (rule:∀ (i j:Int) (t u:Tok) (s:Shared) (Q:Value -> Shared -> Prop) (E:Value -> Shared -> Prop),Q (.bool (g i j)) s -> wpAny (model X.prog X.w) X.A (f (.int i t) (.int j u)) Q E s):
  OpR X f (rI0 fun i j=>.bl (g i j)):=by
 intro pins s σ H x y v u Q I rx ry h
 obtain ⟨i,j,rfl,rfl,q⟩:=h
 obtain ⟨t,rfl⟩:=rx
 obtain ⟨t',rfl⟩:=ry
 exact rule i j t t' s _ _ ⟨.bl (g i j),H,I,rfl,q⟩
def CDiv (i j:Int):Prop:=0 < j /\ j < 1073741824
def CPow (i j:Int):Prop:=0 <= j /\ j <= 1000000 /\ i.natAbs < 2 ^ 64
def CMul (i j:Int):Prop:=(-(2 ^ 64) < i /\ i < 2 ^ 64) \/ (-(2 ^ 64) < j /\ j < 2 ^ 64)
theorem CMul.ok {i j:Int} (h:CMul i j):IntMulOk i j:=by
 rcases h with ⟨h1,h2⟩ | ⟨h1,h2⟩
 ·exact .of_left (intBits_le_64 h1 h2)
 ·exact .of_right (intBits_le_64 h1 h2)
theorem op_add:OpR X (binaryOp .Add) (rI0 fun i j=>.int (i + j)):=opI0 fun _ _ _ _ _ _ _ q=>add_int q
theorem op_sub:OpR X (binaryOp .Sub) (rI0 fun i j=>.int (i - j)):=opI0 fun _ _ _ _ _ _ _ q=>sub_int q
theorem op_mul:OpR X (binaryOp .Mult) (rI CMul fun i j=>.int (i * j)):=opI fun _ _ _ _ _ _ _ hc q=>mul_int q hc.ok
theorem op_fdiv:OpR X (binaryOp .FloorDiv) (rI CDiv fun i j=>.int (i / j)):=opI fun i j _ _ _ _ _ hc q=>by
 have h1:(0:Int) < j:=hc.1
 have h2:j < 1073741824:=hc.2
 exact floordiv_int (by omega) (by rw [Int.fdiv_eq_ediv_of_nonneg i (by omega)]; exact q) (.inl (PyProof.noPylong_small (by omega)))
theorem op_mod:OpR X (binaryOp .Mod) (rI (fun _ j=>0 < j) fun i j=>.int (i % j)):=opI fun i j _ _ _ _ _ hc q=>by
 have h1:(0:Int) < j:=hc
 exact mod_int' (by omega) (by rw [Int.fmod_eq_emod_of_nonneg i (by omega)]; exact q)
end
noncomputable def scal:V -> V -> Bool
 | .non,.non=>true | .non,.int _=>true | .int _,.non=>true | .non,.bl _=>true | .bl _,.non=>true | .non,.str _=>true | .str _,.non=>true
 | .int _,.int _=>true | .bl _,.bl _=>true | .str _,.str _=>true | .byt _,.byt _=>true
 | .int _,.str _=>true | .str _,.int _=>true | .bl _,.str _=>true | .str _,.bl _=>true
 | _,_=>false
noncomputable def rEq:R2:=fun x y H Q=>scal x y = true /\ Q (.bl (decide (x = y))) H
noncomputable def rNe:R2:=fun x y H Q=>scal x y = true /\ Q (.bl (!decide (x = y))) H
theorem dec_int {i j:Int}:decide (V.int i = V.int j) = (i == j):=by
 rw [Bool.eq_iff_iff]
 simp
theorem dec_bl {i j:Bool}:decide (V.bl i = V.bl j) = (i == j):=by
 rw [Bool.eq_iff_iff]
 simp
theorem dec_str {i j:Str}:decide (V.str i = V.str j) = (i == j):=by
 rw [Bool.eq_iff_iff]
 simp
theorem dec_byt {i j:Array UInt8}:decide (V.byt i = V.byt j) = (i.toList == j.toList):=by
 rw [Bool.eq_iff_iff]
 cases i
 cases j
 simp
section
variable {X:Cx} {a b c:Expr} {ta tb tc:TE} {pos:Pos}
theorem fin_bl {pins:List (Addr × Obj)} {σ:St} {H:Hp} {s:Shared} {Q:VK} {k k':Bool} (I:Inv X pins σ H s) (q:Q (.bl k) H) (e:k = k'):EP X pins σ Q (.bool k') s:=by
 subst e
 exact ⟨.bl k,H,I,rfl,q⟩
theorem op_eq:OpR X (compareOp .Eq) rEq:=by
 intro pins s σ H x y v u Q I rx ry h
 obtain ⟨hs,q⟩:=h
 cases x with
 | non=>
  cases rx
  cases y with
  | non=>cases ry; exact PySem.EqNone.eq_none_none (fin_bl I q (by simp))
  | bl j=>cases ry; exact PySem.EqNone.eq_none_bool (fin_bl I q (by simp))
  | int j=>obtain ⟨t',rfl⟩:=ry; exact PySem.EqNone.eq_none_int (fin_bl I q (by simp))
  | str j=>obtain ⟨t',rfl⟩:=ry; exact PySem.EqNone.eq_none_str (fin_bl I q (by simp))
  | _=>exact absurd (show false = true from hs) Bool.false_ne_true
 | bl i=>
  cases rx
  cases y with
  | non=>cases ry; exact PySem.EqNone.eq_bool_none (fin_bl I q (by simp))
  | bl j=>cases ry; exact eq_bool (fin_bl I q dec_bl)
  | str j=>obtain ⟨t',rfl⟩:=ry; exact PySem.EqMixed.eq_bool_str (fin_bl I q (by simp))
  | _=>exact absurd (show false = true from hs) Bool.false_ne_true
 | int i=>
  obtain ⟨t,rfl⟩:=rx
  cases y with
  | non=>cases ry; exact PySem.EqNone.eq_int_none (fin_bl I q (by simp))
  | int j=>obtain ⟨t',rfl⟩:=ry; exact eq_int (fin_bl I q dec_int)
  | str j=>obtain ⟨t',rfl⟩:=ry; exact PySem.EqMixed.eq_int_str (fin_bl I q (by simp))
  | _=>exact absurd (show false = true from hs) Bool.false_ne_true
 | str i=>
  obtain ⟨t,rfl⟩:=rx
  cases y with
  | non=>cases ry; exact PySem.EqNone.eq_str_none (fin_bl I q (by simp))
  | bl j=>cases ry; exact PySem.EqMixed.eq_str_bool (fin_bl I q (by simp))
  | int j=>obtain ⟨t',rfl⟩:=ry; exact PySem.EqMixed.eq_str_int (fin_bl I q (by simp))
  | str j=>obtain ⟨t',rfl⟩:=ry; exact eq_str (fin_bl I q dec_str)
  | _=>exact absurd (show false = true from hs) Bool.false_ne_true
 | byt i=>
  obtain ⟨t,rfl⟩:=rx
  cases y with
  | byt j=>obtain ⟨t',rfl⟩:=ry; exact PySem.W.eq_bytes (fin_bl I q dec_byt)
  | _=>exact absurd (show false = true from hs) Bool.false_ne_true
 | _=>cases y <;> exact absurd (show false = true from hs) Bool.false_ne_true
theorem op_ne:OpR X (compareOp .NotEq) rNe:=by
 intro pins s σ H x y v u Q I rx ry h
 obtain ⟨hs,q⟩:=h
 cases x with
 | non=>
  cases rx
  cases y with
  | non=>cases ry; exact PySem.EqNone.ne_none_none (fin_bl I q (by simp))
  | bl j=>cases ry; exact PySem.EqNone.ne_none_bool (fin_bl I q (by simp))
  | int j=>obtain ⟨t',rfl⟩:=ry; exact PySem.EqNone.ne_none_int (fin_bl I q (by simp))
  | str j=>obtain ⟨t',rfl⟩:=ry; exact PySem.EqNone.ne_none_str (fin_bl I q (by simp))
  | _=>exact absurd (show false = true from hs) Bool.false_ne_true
 | bl i=>
  cases rx
  cases y with
  | non=>cases ry; exact PySem.EqNone.ne_bool_none (fin_bl I q (by simp))
  | bl j=>cases ry; exact ne_bool (fin_bl I q (congrArg not dec_bl))
  | str j=>obtain ⟨t',rfl⟩:=ry; exact PySem.EqMixed.ne_bool_str (fin_bl I q (by simp))
  | _=>exact absurd (show false = true from hs) Bool.false_ne_true
 | int i=>
  obtain ⟨t,rfl⟩:=rx
  cases y with
  | non=>cases ry; exact PySem.EqNone.ne_int_none (fin_bl I q (by simp))
  | int j=>obtain ⟨t',rfl⟩:=ry; exact ne_int (fin_bl I q (congrArg not dec_int))
  | str j=>obtain ⟨t',rfl⟩:=ry; exact PySem.EqMixed.ne_int_str (fin_bl I q (by simp))
  | _=>exact absurd (show false = true from hs) Bool.false_ne_true
 | str i=>
  obtain ⟨t,rfl⟩:=rx
  cases y with
  | non=>cases ry; exact PySem.EqNone.ne_str_none (fin_bl I q (by simp))
  | bl j=>cases ry; exact PySem.EqMixed.ne_str_bool (fin_bl I q (by simp))
  | int j=>obtain ⟨t',rfl⟩:=ry; exact PySem.EqMixed.ne_str_int (fin_bl I q (by simp))
  | str j=>obtain ⟨t',rfl⟩:=ry; exact ne_str (fin_bl I q (congrArg not dec_str))
  | _=>exact absurd (show false = true from hs) Bool.false_ne_true
 | byt i=>
  obtain ⟨t,rfl⟩:=rx
  cases y with
  | byt j=>obtain ⟨t',rfl⟩:=ry; exact PySem.W.ne_bytes (fin_bl I q (congrArg not dec_byt))
  | _=>exact absurd (show false = true from hs) Bool.false_ne_true
 | _=>cases y <;> exact absurd (show false = true from hs) Bool.false_ne_true
theorem op_lt:OpR X (compareOp .Lt) (rI0 fun i j=>.bl (decide (i < j))):=opB0 fun _ _ _ _ _ _ _ q=>lt_int q
theorem op_le:OpR X (compareOp .LtE) (rI0 fun i j=>.bl (decide (i <= j))):=opB0 fun _ _ _ _ _ _ _ q=>le_int q
theorem op_gt:OpR X (compareOp .Gt) (rI0 fun i j=>.bl (decide (j < i))):=opB0 fun _ _ _ _ _ _ _ q=>gt_int q
theorem op_in_str:OpR X (compareOp .In) (fun x y H Q=>∃ i j,x = .str i /\ y = .str j /\ Q (.bl (!(Builtin.Str.occurrences j i 0 j.length 1).isEmpty)) H):=by
 intro pins s σ H x y v u Q I rx ry h
 obtain ⟨i,j,rfl,rfl,q⟩:=h
 obtain ⟨t,rfl⟩:=rx
 obtain ⟨t',rfl⟩:=ry
 exact in_str (fin_bl I q rfl)
theorem op_isN:OpR X (compareOp .Is) (fun x y H Q=>y = .non /\ Q (.bl (decide (x = .non))) H):=by
 intro pins s σ H x y v u Q I rx ry h
 obtain ⟨rfl,q⟩:=h
 cases ry
 refine is_none_gen (fin_bl I q ?_)
 cases x <;> first
  | (cases rx; rfl)
  | (obtain ⟨t,rfl⟩:=rx; rfl)
theorem op_notin_str:OpR X (compareOp .NotIn) (fun x y H Q=>∃ i j,x = .str i /\ y = .str j /\ Q (.bl (!(!(Builtin.Str.occurrences j i 0 j.length 1).isEmpty))) H):=by
 intro pins s σ H x y v u Q I rx ry h
 obtain ⟨i,j,rfl,rfl,q⟩:=h
 obtain ⟨t,rfl⟩:=rx
 obtain ⟨t',rfl⟩:=ry
 exact notIn_str (fin_bl I q rfl)
theorem OpR.or {f:Value -> Value -> Sem Value} {r r':R2} (h:OpR X f r) (h':OpR X f r'):OpR X f (fun x y H Q=>r x y H Q \/ r' x y H Q):=by
 intro pins s σ H x y v u Q I rx ry q
 rcases q with q | q
 ·exact h pins s σ H x y v u Q I rx ry q
 ·exact h' pins s σ H x y v u Q I rx ry q
theorem nomark (b:Expr) {op:CmpOp} (h:op ≠ .In:=by decide) (h2:op ≠ .NotIn:=by decide):behindInMarks op b = false:=by
 have e1:(op == CmpOp.In) = false:=by cases op <;> first | rfl | exact absurd rfl h
 have e2:(op == CmpOp.NotIn) = false:=by cases op <;> first | rfl | exact absurd rfl h2
 cases b <;> simp [behindInMarks,e1,e2]
theorem pe_cmpR {op:CmpOp} {r:R2} (ho:OpR X (compareOp op) r) (ha:PE X a ta) (hb:PE X b tb) (hm:behindInMarks op b = false):PE X (.Compare a [op] [b] pos) (tOp r ta tb):=by
 intro pins s σ H Q I h
 exact wpAny_Compare1 (binT ha hb I h fun v u s2 x y H2 I2 rx ry q=>ho pins s2 σ H2 x y v u Q I2 rx ry q) hm
noncomputable def tTest (t:TE):TT:=fun σ H Q=>t σ H fun x H'=>∃ k,x = .bl k /\ Q k H'
theorem pt_cmpR {op:CmpOp} {r:R2} (ho:OpR X (compareOp op) r) (ha:PE X a ta) (hb:PE X b tb) (hm:behindInMarks op b = false):PT X (.Compare a [op] [b] pos) (tTest (tOp r ta tb)):=by
 intro pins s σ H Q I h
 refine wpAny_isTrue_Compare1 (thn (ha pins s σ H _ I h) fun v s1 ⟨x,H1,I1,r1,q1⟩=>thn (hb pins s1 σ H1 _ I1 q1) fun u s2 ⟨y,H2,I2,r2,q2⟩=>
  thn (ho pins s2 σ H2 x y v u _ I2 r1 r2 q2) fun c s3 ⟨z,H3,I3,r3,k,e,q3⟩=>?_) hm
 subst e
 cases r3
 exact wpAny_truthy_bool ⟨H3,I3,q3⟩
theorem line63:(sizeLine:Nat) < 2 ^ 63:=by rw [sizeLine_eq]; decide
theorem op_add_str:OpR X (binaryOp .Add) (fun x y H Q=>∃ i j,x = .str i /\ y = .str j /\ i.length + j.length <= sizeLine /\ Q (.str (i ++ j)) H):=by
 intro pins s σ H x y v u Q I rx ry h
 obtain ⟨i,j,rfl,rfl,hz,q⟩:=h
 obtain ⟨t,rfl⟩:=rx
 obtain ⟨t',rfl⟩:=ry
 exact tokQ I.tk (add_str (fun t' tk (htk:0 < tk)=>⟨.str (i ++ j),H,I.tok _,⟨_,rfl⟩,q⟩) hz)
theorem vals1 {x:V} {us:List Value} (r:Vals [x] us):∃ u,us = [u] /\ RelV x u:=by
 cases r with
 | cons r1 r2=>cases r2; exact ⟨_,rfl,r1⟩
theorem vals2 {x y:V} {us:List Value} (r:Vals [x,y] us):∃ u w',us = [u,w'] /\ RelV x u /\ RelV y w':=by
 cases r with
 | cons r1 r2=>
  cases r2 with
  | cons r3 r4=>cases r4; exact ⟨_,_,rfl,r1,r3⟩
theorem call_max2 (hc:X.calm = true):CallR X (.builtin "max") (fun xs H Q=>∃ i j,xs = [.int i,.int j] /\ Q (.int (if j > i then j else i)) H):=by
 intro pins s σ H xs us Q I r h
 obtain ⟨i,j,rfl,q⟩:=h
 obtain ⟨u,w',rfl,⟨t,rfl⟩,⟨t',rfl⟩⟩:=vals2 r
 refine tokQ I.tk (max_two_ints (I.ok.hd hc) fun h' tk k (htk:0 < tk)=>⟨_,H,I.kept k,?_,q⟩)
 by_cases hj:j > i
 ·rw [if_pos hj,if_pos hj]; exact ⟨_,rfl⟩
 ·rw [if_neg hj,if_neg hj]; exact ⟨_,rfl⟩
theorem call_min2 (hc:X.calm = true):CallR X (.builtin "min") (fun xs H Q=>∃ i j,xs = [.int i,.int j] /\ Q (.int (if j < i then j else i)) H):=by
 intro pins s σ H xs us Q I r h
 obtain ⟨i,j,rfl,q⟩:=h
 obtain ⟨u,w',rfl,⟨t,rfl⟩,⟨t',rfl⟩⟩:=vals2 r
 refine tokQ I.tk (min_two_ints (I.ok.hd hc) fun h' tk k (htk:0 < tk)=>⟨_,H,I.kept k,?_,q⟩)
 by_cases hj:j < i
 ·rw [if_pos hj,if_pos hj]; exact ⟨_,rfl⟩
 ·rw [if_neg hj,if_neg hj]; exact ⟨_,rfl⟩
end
structure ObjM (h:Heap) (x dx C:Addr) (mA:Str -> Option Value):Prop where
 obj:h.get? x = some (PySem.W.instObj C dx)
 ns:h.Ns1 dx mA
 ne:dx ≠ x
theorem lookIn_ns {h:Heap} {dx:Addr} {mA:Str -> Option Value} (n:h.Ns1 dx mA):∃ od,h.get? dx = some od /\ ∀ name,PySem.W.lookIn name od = some (mA name):=by
 obtain ⟨o,es,ep,ho,hd,hk,_,hm⟩:=n
 refine ⟨o,ho,fun name=>?_⟩
 have e:=hm name
 unfold nsFind findBy at e
 rw [<- Array.find?_toList] at e
 unfold PySem.W.lookIn
 rw [hd]
 dsimp only
 split
 ·rename_i y q
  rw [q] at e
  exact congrArg some e
 ·rename_i q
  rw [q] at e
  have a:es.toList.any (·.refKey) = false:=by
   rw [List.any_eq_false]
   intro y hy
   obtain ⟨z,t,hkey⟩:=hk y (Array.mem_toList_iff.mp hy)
   simp [DictEntry.refKey,hkey]
  have a':¬ es.toList.any (·.refKey) = true:=by rw [a]; exact Bool.false_ne_true
  rw [if_neg a']
  exact congrArg some e
theorem ObjM.look {h:Heap} {x dx C:Addr} {mA:Str -> Option Value} (I:ObjM h x dx C mA):∃ od,PySem.W.InstAt h x (PySem.W.instObj C dx) C (some od) /\ ∀ name,PySem.W.lookIn name od = some (mA name):=
 let ⟨od,ho,hl⟩:=lookIn_ns I.ns
 ⟨od,⟨I.obj,rfl,rfl,ho⟩,hl⟩
section
variable {prog:Program} {w:World} {A:Around} {E:Value -> Shared -> Prop} {s:Shared} {K:Frag} {x dx C f:Addr} {mA:Str -> Option Value} {name:Str} {v:Value}
end
section
variable {P:Program} {w:World} {H H':Hp} {h h':Heap} {a C dx:Addr} {fs fs':List (Str × V)}
theorem ins_get (hok:HOk P w H h) (e:H a = some (.ins C dx fs)):∃ mA,ObjM h a dx C mA /\ (∀ f,RelO (fs.lookup f) (mA f)) /\ PySem.Within mA (fs.map (·.1)) /\ fs.length <= 1000 /\ H dx = some (.own a):=by
 obtain ⟨d,z,ne,ob,mA,n,r,q⟩:=(show ObjOk P w H h a (.ins C dx fs) from hok a _ e)
 exact ⟨mA,⟨ob,n,ne⟩,r,q,z,d⟩
end
structure Cls (K:Frag) (C:Addr):Prop where
 pg:PySem.W.plainGet K C Str.empty = true
 hd:PySem.W.hasDictIn K C = true
 po:PySem.W.plainOver K C = true
 sa:findIn K (.ref C) "__setattr__" = some (some (.builtin "object.__setattr__"))
theorem Cls.get {K:Frag} {C:Addr} (c:Cls K C) (f:Str):PySem.W.plainGet K C f = true:=c.pg
structure Con (K:Frag) (C:Addr) (f:Str) (v:V) (u:Value):Prop where
 at_:findIn K (.ref C) f = some (some u)
 rel:RelV v u
 get:PySem.W.specialIn K u "__get__" = some none
 cp:PySem.W.copiedNames.contains f = false
structure Meth (K:Frag) (C:Addr) (m:Str) (f:Addr):Prop where
 at_:findIn K (.ref C) m = some (some (.ref f))
 fn:PySem.W.isFn K (.ref f) = true
 kp:keepIn K (.ref f) = true
section
variable {X:Cx} {pins:List (Addr × Obj)} {σ:St} {H:Hp} {s:Shared} {a C dx:Addr} {fs:List (Str × V)} {f:Str} {v:V} {A:Around} {E:Value -> Shared -> Prop}
theorem Inv.made (I:Inv X pins σ H s):Inv X pins σ (upd (upd H s.heap.objs.size (.own (s.heap.objs.size + 1))) (s.heap.objs.size + 1) (.ins C s.heap.objs.size []))
  { s with heap:=(s.heap.push PySem.W.emptyDict).push (PySem.W.instObj C s.heap.objs.size) }:=by
 have e1:(s.heap.push PySem.W.emptyDict).get? s.heap.objs.size = some PySem.W.emptyDict:=Heap.get?_push_size s.heap rfl
 have e2:((s.heap.push PySem.W.emptyDict).push (PySem.W.instObj C s.heap.objs.size)).get? (s.heap.objs.size + 1) = some (PySem.W.instObj C s.heap.objs.size):=by
  have:=Heap.get?_push_size (s.heap.push PySem.W.emptyDict) (o:=PySem.W.instObj C s.heap.objs.size) rfl
  rwa [Heap.size_push] at this
 have e3:(s.heap.push PySem.W.emptyDict).Ns s.heap.objs.size (fun _=>none):=⟨PySem.W.emptyDict,#[],_,e1,rfl,(fun e he=>absurd he (by simp)),fun _=>rfl⟩
 have I1:=I.laid (a:=s.heap.objs.size) (o:=.own (s.heap.objs.size + 1)) (h':=s.heap.push PySem.W.emptyDict) (t':=s.toks) (fun b u q=>Heap.get?_push_of_some _ q) (Nat.le_refl _) ⟨_,e1⟩
 refine I1.laid (a:=s.heap.objs.size + 1) (o:=.ins C s.heap.objs.size []) (t':=s.toks) (fun b u q=>Heap.get?_push_of_some _ q) (Nat.le_of_eq (Heap.size_push _ _)) ?_
 have ne:s.heap.objs.size ≠ s.heap.objs.size + 1:=Nat.ne_of_lt (Nat.lt_succ_self _)
 refine ⟨by rw [upd_ne ne,upd_same],Nat.zero_le _,ne,e2,fun _=>none,(Heap.Ns1.of_empty e3).at fun o q=>Heap.get?_push_of_some _ q,fun _=>True.intro,fun y hy=>absurd rfl hy⟩
end
section
variable {X:Cx} {o e value:Expr} {f:Str} {pos pos' tpos:Pos} {ta tv:TE}
end
section
variable {X:Cx} {pins:List (Addr × Obj)} {σ:St} {H:Hp} {s:Shared} {A:Around} {E:Value -> Shared -> Prop} {Q:Value -> Shared -> Prop} {c:Value} {b:Bool}
inductive TyOf (K:Frag) (H:Hp):V -> Value -> Prop where
 | non:TyOf K H .non (.type "NoneType")
 | bl (x:Bool):TyOf K H (.bl x) (.type "bool")
 | int (i:Int):TyOf K H (.int i) (.type "int")
 | str (x:Str):TyOf K H (.str x) (.type "str")
 | flt (x:UInt64):TyOf K H (.flt x) (.type "float")
 | lst {a:Addr} {xs:List V} (e:H a = some (.lst xs)):TyOf K H (.ref a) (.type "list")
 | frz {a:Addr} {o:Obj} {xs:List V} (e:H a = some (.frz o (.lst xs))):TyOf K H (.ref a) (.type "list")
 | tup {a:Addr} {xs:List V} (e:H a = some (.tup xs)):TyOf K H (.ref a) (.type "tuple")
 | dK {a:Addr} {kvs:List (Key × V)} (e:H a = some (.dK kvs)):TyOf K H (.ref a) (.type "dict")
 | dT {a:Addr} {kvs:List (List Key × V)} (e:H a = some (.dT kvs)):TyOf K H (.ref a) (.type "dict")
 | ins {a C dx:Addr} {fs:List (Str × V)} (e:H a = some (.ins C dx fs)) (cl:Cls K C) (ha:findIn K (.ref C) "__class__" = some (some (.builtin "object.__class__")))
   (hn:PySem.W.specialIn K (.builtin "object.__class__") "__get__" = some (some (.builtin "getset_descriptor.__get__"))) (htk:PySem.W.takesIn K (.builtin "object.__class__") = some true)
   (hm:PySem.W.mroIn K C (.type "object") = some true):TyOf K H (.ref a) (.ref C)
theorem isinst_ok {x:V} {u t:Value} (I:Inv X pins σ H s) (rx:RelV x u) (ty:TyOf X.K H x t) (e:PySem.W.kitOne X.K t c = some b) (h:∀ tk,Q (.bool b) { s with toks:=tk }):
  wpAny (model X.prog X.w) A (call (.builtin "isinstance") [u,c]) Q E s:=by
 cases ty with
 | non=>cases (show u = Value.none from rx); exact PySem.W.kia_one PySem.W.kitx_none I.kIn True.intro e (fun z=>nomatch z) h
 | bl y=>cases (show u = Value.bool y from rx); exact PySem.W.kia_one PySem.W.kitx_bool I.kIn True.intro e (fun z=>nomatch z) h
 | int i=>obtain ⟨t,q⟩:=(show ∃ t,u = Value.int i t from rx); cases q; exact PySem.W.kia_one PySem.W.kitx_int I.kIn True.intro e (fun z=>nomatch z) h
 | str y=>obtain ⟨t,q⟩:=(show ∃ t,u = Value.str y t from rx); cases q; exact PySem.W.kia_one PySem.W.kitx_str I.kIn True.intro e (fun z=>nomatch z) h
 | flt y=>obtain ⟨t,q⟩:=(show ∃ t,u = Value.float y t from rx); cases q; exact PySem.W.kia_one PySem.W.kitx_float I.kIn True.intro e (fun z=>nomatch z) h
 | @lst a xs ea=>
  cases (show u = Value.ref a from rx)
  obtain ⟨_,_,n,_,h1⟩:=(show ObjOk X.prog X.w H s.heap a (.lst xs) from I.hok a _ ea)
  exact PySem.W.kia_one PySem.W.kitx_list I.kIn ⟨_,h1,rfl⟩ e (fun z=>nomatch z) h
 | @frz a ob xs ea=>
  cases (show u = Value.ref a from rx)
  obtain ⟨_,_,_,n,_,h1⟩:=(show ObjOk X.prog X.w H s.heap a (.frz ob (.lst xs)) from I.hok a _ ea)
  exact PySem.W.kia_one PySem.W.kitx_list I.kIn ⟨_,h1,rfl⟩ e (fun z=>nomatch z) h
 | @tup a xs ea=>
  cases (show u = Value.ref a from rx)
  obtain ⟨_,_,_,p⟩:=(show ObjOk X.prog X.w H s.heap a (.tup xs) from I.hok a _ ea)
  obtain ⟨o,h1,h2,_⟩:=p
  exact PySem.W.kia_one PySem.W.kitx_tuple I.kIn ⟨o,h1,h2⟩ e (fun z=>nomatch z) h
 | @dK a kvs ea=>
  cases (show u = Value.ref a from rx)
  obtain ⟨_,_,vs,_,p⟩:=(show ObjOk X.prog X.w H s.heap a (.dK kvs) from I.hok a _ ea)
  obtain ⟨o,es,ep,h1,h2,_⟩:=p
  exact PySem.W.kia_one PySem.W.kitx_dict I.kIn ⟨o,h1,h2.1⟩ e (fun z=>nomatch z) h
 | @dT a kvs ea=>
  cases (show u = Value.ref a from rx)
  obtain ⟨_,_,xs,_,o,es,ep,h1,h2,_⟩:=(show ObjOk X.prog X.w H s.heap a (.dT kvs) from I.hok a _ ea)
  exact PySem.W.kia_one PySem.W.kitx_dict I.kIn ⟨o,h1,h2.1⟩ e (fun z=>nomatch z) h
 | @ins a C dx fs ea cl ha hn htk hm=>
  cases (show u = Value.ref a from rx)
  obtain ⟨mA,O,_⟩:=ins_get I.hok ea
  obtain ⟨od,J,_⟩:=O.look
  exact PySem.W.kia_one (PySem.W.kitx_own (cl.get _) cl.hd ha hn htk hm) I.kIn J e (fun z=>nomatch z) h
end
structure Room (k:Nat) (A:Around):Prop where
 hd:A.handled = none
 dp:A.depth + 3 * k + 5 < recursionLimit
 un:A.units + 16 * k + 200 < cLine
 gd:A.guards = some []
theorem Room.mono {j k:Nat} {A:Around} (r:Room k A) (h:j <= k):Room j A:=⟨r.hd,by have:=r.dp; omega,by have:=r.un; omega,r.gd⟩
theorem Room.deeper {k:Nat} {A:Around} (r:Room (k + 1) A) (env:Env):Room k (A.deeper env):=
 ⟨r.hd,by have:=r.dp; show A.depth + 1 + 3 * k + 5 < _; omega,by have:=r.un; show A.units + 3 + 16 * k + 200 < _; omega,r.gd⟩
theorem Room.in1 {k:Nat} {A:Around} (r:Room (k + 1) A):Room k A.in1:=
 ⟨r.hd,by have:=r.dp; show A.depth + 3 * k + 5 < _; omega,by have:=r.un; show A.units + 1 + 16 * k + 200 < _; omega,r.gd⟩
theorem Room.depth {k:Nat} {A:Around} (r:Room k A):A.depth < recursionLimit:=by have:=r.dp; omega
theorem Room.units {k:Nat} {A:Around} (r:Room k A):A.units + 64 < cLine:=by have:=r.un; omega
theorem Room.units0 {k:Nat} {A:Around} (r:Room k A):A.units < cLine:=by have:=r.un; omega
noncomputable def tNil:TA:=fun _ H Q=>Q [] H
noncomputable def tCons (ta:TE) (tr:TA):TA:=fun σ H Q=>ta σ H fun x H1=>tr σ H1 fun xs H2=>Q (x :: xs) H2
section
variable {X:Cx} {e:Expr} {es:List Expr} {te:TE} {t:TA} {pos:Pos}
theorem pa_nil:PA X [] tNil:=fun _ _ _ _ H Q I h=>Calls.spliced_nil ⟨[],H,I,.nil,h⟩
theorem pa_cons (ha:PE X e te) (hr:PA X es t) (hs:starEach (e :: es) X.env = (false,eval e X.env) :: starEach es X.env:=by rfl):PA X (e :: es) (tCons te t):=by
 intro pos pins s σ H Q I h
 rw [hs]
 show wpAny _ _ (spliced ((false,eval e X.env) :: backTo pos (starEach es X.env))) _ _ s
 refine Calls.spliced_cons (thn (ha pins s σ H _ I h) fun u s1 ⟨x,H1,I1,r1,q1⟩=>?_)
 exact thn (hr pos pins s1 σ H1 _ I1 q1) fun us s2 ⟨xs,H2,I2,r2,q2⟩=>⟨x :: xs,H2,I2,.cons r1 r2,q2⟩
noncomputable def tTup (t:TA):TE:=fun σ H Q=>t σ H fun xs H1=>xs.length <= sizeLine /\ ∀ p,H1 p = none -> Q (.ref p) (upd H1 p (.tup xs))
noncomputable def tLst (t:TA):TE:=fun σ H Q=>t σ H fun xs H1=>xs.length <= sizeLine /\ ∀ p,H1 p = none -> Q (.ref p) (upd H1 p (.lst xs))
theorem pe_tup {x1} (h:PA X es t):PE X (.Tuple es x1 pos) (tTup t):=by
 intro pins s σ H Q I hq
 refine wpAny_Tuple_spliced (thn (h pos pins s σ H _ I hq) fun us s1 ⟨xs,H1,I1,r,z,q⟩=>⟨by rw [<- r.length]; exact z,?_⟩)
 have hf:H1 s1.heap.objs.size = none:=I1.hok.fresh (Nat.le_refl _)
 refine ⟨.ref s1.heap.objs.size,upd H1 s1.heap.objs.size (.tup xs),I1.laid (t':=s1.toks) (fun b u e=>Heap.get?_push_of_some _ e) (Nat.le_refl _) ?_,rfl,q _ hf⟩
 exact ⟨z,us,r,⟨_,Heap.get?_push_size _ rfl,rfl,_,rfl⟩⟩
theorem pe_lst (h:PA X es t):PE X (.List es pos) (tLst t):=by
 intro pins s σ H Q I hq
 refine wpAny_List_spliced (thn (h pos pins s σ H _ I hq) fun us s1 ⟨xs,H1,I1,r,z,q⟩=>⟨by rw [<- r.length]; exact z,?_⟩)
 have hf:H1 s1.heap.objs.size = none:=I1.hok.fresh (Nat.le_refl _)
 refine ⟨.ref s1.heap.objs.size,upd H1 s1.heap.objs.size (.lst xs),I1.laid (t':=s1.toks) (fun b u e=>Heap.get?_push_of_some _ e) (Nat.le_refl _) ?_,rfl,q _ hf⟩
 exact ⟨z,us,0,r,Heap.get?_push_size _ rfl⟩
end
noncomputable abbrev Sp:=List V -> Hp -> VK -> XK -> Prop
noncomputable abbrev CXT:=List Env -> Hp -> Shared -> XK -> Value -> Shared -> Prop
structure Env0 (P:Program) (w:World) (K:Frag) (mg:Str -> Option Value) (base:Heap) (A:Around) (outer:List Env) (s:Shared) (H:Hp):Prop where
 frames:A.frames = some outer
 mod:Mod K mg base
 bs:∀ b o,base.get? b = some o -> s.heap.get? b = some o /\ H b = none
 bsz:base.objs.size <= s.heap.objs.size
 funs:s.heap.FunFrames base outer
 frf:∀ b ∈ frs outer,H b = none
 hok:HOk P w H s.heap
 bare:AllBare s.gens
 tk:0 < s.toks
def CE (outer:List Env) (P:Program) (w:World) (H:Hp) (s:Shared) (Q:VK) (u:Value) (s':Shared):Prop:=
 ∃ v H',0 < s'.toks /\ s'.os = s.os /\ AllBare s'.gens /\ Un (frs outer) [] H H' s.heap s'.heap /\ HOk P w H' s'.heap /\ RelV v u /\ Q v H'
def CR (CX:CXT) (outer:List Env) (P:Program) (w:World) (H:Hp) (s:Shared) (Q:VK) (E:XK) (r:Result) (s':Shared):Prop:=
 match r with
 | .ok (.ret u)=>CE outer P w H s Q u s'
 | .ok _=>False
 | .error e=>CX outer H s E e s'
structure FnOk (P:Program) (w:World) (K:Frag) (mg:Str -> Option Value) (base:Heap) (CX:CXT) (k:Nat) (f:Addr) (fd:FuncData) (ps:List Str) (sp:Sp):Prop where
 len:∀ vs H Q E,sp vs H Q E -> vs.length = ps.length
 run:∀ (A:Around) (outer:List Env) (s:Shared) (H:Hp) (args:Args) (us:List Value) (vs:List V) (Q:VK) (E:XK),Room k A -> Env0 P w K mg base A outer s H -> BindsTo s fd args (ps.zip us) -> Vals vs us -> sp vs H Q E ->
  codeAny (model P w) A (.call (.ref f) args) (CR CX outer P w H s Q E) s
theorem FnOk.mono {P:Program} {w:World} {K:Frag} {mg:Str -> Option Value} {base:Heap} {CX:CXT} {j k:Nat} {f:Addr} {fd:FuncData} {ps:List Str} {sp:Sp} (F:FnOk P w K mg base CX j f fd ps sp) (h:j <= k):
  FnOk P w K mg base CX k f fd ps sp:=⟨F.len,fun A outer s H args us vs Q E hr=>F.run A outer s H args us vs Q E (hr.mono h)⟩
theorem FnOk.imp {P:Program} {w:World} {K:Frag} {mg:Str -> Option Value} {base:Heap} {CX:CXT} {k:Nat} {f:Addr} {fd:FuncData} {ps:List Str} {sp sp':Sp} (F:FnOk P w K mg base CX k f fd ps sp)
  (h:∀ vs H Q E,sp' vs H Q E -> sp vs H Q E):FnOk P w K mg base CX k f fd ps sp':=
 ⟨fun vs H Q E q=>F.len vs H Q E (h _ _ _ _ q),fun A outer s H args us vs Q E hr he hb hv hs=>F.run A outer s H args us vs Q E hr he hb hv (h _ _ _ _ hs)⟩
theorem Env0.in1 {P:Program} {w:World} {K:Frag} {mg:Str -> Option Value} {base:Heap} {A:Around} {outer:List Env} {s:Shared} {H:Hp} (e:Env0 P w K mg base A outer s H):
  Env0 P w K mg base A.in1 outer s H:=⟨e.frames,e.mod,e.bs,e.bsz,e.funs,e.frf,e.hok,e.bare,e.tk⟩
section
variable {X:Cx} {pins:List (Addr × Obj)} {σ:St} {H:Hp} {s s':Shared}
theorem Inv.env0 (I:Inv X pins σ H s):Env0 X.prog X.w X.K X.mg X.base X.A X.stack s H:=
 ⟨I.ok.frames,I.ok.mod,I.bs,Nat.le_trans I.ok.bsz I.sz,I.stack,I.stkFree,I.hok,I.bare,I.tk⟩
theorem Inv.after {Q:VK} {u:Value} (I:Inv X pins σ H s) (h:CE X.stack X.prog X.w H s Q u s'):EP X pins σ Q u s':=by
 obtain ⟨v,H',ht,os,bare,un,hok,r,q⟩:=h
 obtain ⟨hh,g,d,t,os'⟩:=s'
 obtain rfl:os' = s.os:=os
 exact ⟨v,H',I.call (h':=hh) (g':=g) (d':=d) (t':=t) (ch:=[]) un hok bare (fun b z=>absurd z (by simp)) ht,r,q⟩
end
noncomputable def tCall (sp:Sp) (dvs:List V) (E:XK) (t:TA):TE:=fun σ H Q=>t σ H fun vs H1=>sp (vs ++ dvs) H1 Q E
def Binds (K:Frag) (fd:FuncData) (ps:List Str) (ds:List Value):Prop:=
 ∀ (s:Shared) (us:List Value),K.In s.heap -> (us ++ ds).length = ps.length -> BindsTo s fd ⟨us,[]⟩ (ps.zip (us ++ ds))
theorem Binds.all {K:Frag} {fd:FuncData} {ps:List Str} (h:∀ us:List Value,us.length = ps.length -> bindArgs fd ⟨us,[]⟩ = pure (ps.zip us)):Binds K fd ps []:=fun s us _ hl=>by
 rw [List.append_nil] at hl ⊢
 exact .of_eq (h us hl)
def Passes (CX:CXT) (X:Cx) (E:XK):Prop:=∀ (pins:List (Addr × Obj)) (σ:St) (H:Hp) (s:Shared) (e:Value) (s':Shared),Inv X pins σ H s -> CX X.stack H s E e s' -> X.xe e s'
section
variable {X:Cx} {CX:CXT} {k:Nat} {f C:Addr} {fd:FuncData} {ps:List Str} {sp:Sp} {dvs:List V} {ds:List Value} {E:XK} {x m:Str} {p pos apos:Pos} {e o:Expr} {es:List Expr} {ta:TE} {t:TA}
theorem run_fn {pins:List (Addr × Obj)} {σ:St} {H:Hp} {s:Shared} {Q:VK} {us:List Value} {vs:List V} (F:FnOk X.prog X.w X.K X.mg X.base CX k f fd ps sp) (hr:Room k X.A) (hb:Binds X.K fd ps ds) (hd:Vals dvs ds) (hx:Passes CX X E)
  (I:Inv X pins σ H s) (r:Vals vs us) (h:sp (vs ++ dvs) H Q E):wpAny (model X.prog X.w) X.A (call (.ref f) us) (EP X pins σ Q) X.xe s:=by
 have r2:Vals (vs ++ dvs) (us ++ ds):=r.append hd
 have hl:(us ++ ds).length = ps.length:=by rw [<- r2.length]; exact F.len _ _ _ _ h
 refine wpAny_call (codeAny_mono (F.run X.A X.stack s H ⟨us,[]⟩ (us ++ ds) (vs ++ dvs) Q E hr I.env0 (hb s us I.kIn hl) r2 h) fun r s' hq=>?_)
 cases r with
 | error e=>exact hx pins σ H s e s' I hq
 | ok fl=>
  cases fl with
  | ret u=>exact I.after hq
  | next=>exact False.elim hq
  | brk=>exact False.elim hq
  | cont=>exact False.elim hq
theorem pe_call (F:FnOk X.prog X.w X.K X.mg X.base CX k f fd ps sp) (hr:Room k X.A) (hg:Gl X x) (hm:X.mg x = some (.ref f)) (hk:keepIn X.K (.ref f) = true) (hb:Binds X.K fd ps ds) (hd:Vals dvs ds) (hx:Passes CX X E)
  (ha:PA X (e :: es) t) (hdb:(x == ("__debug__" : Str)) = false:=by decide) (he:starEach (e :: es) X.env = (false,eval e X.env) :: starEach es X.env:=by rfl) (hpl:(backTo pos (starEach es X.env)).any (·.1) = false:=by rfl):
  PE X (.Call (.Name x p) (e :: es) [] pos) (tCall sp dvs E t):=by
 intro pins s σ H Q I h
 refine wpAny_Call_Name_kw (ld_glob I hg hm ?_ hdb)
 refine PySem.W.callWith_K (h₀:=X.base) I.ok.mod.kin hk (thn (ha pos pins s σ H _ I h) fun us s1 ⟨vs,H1,I1,r,q⟩=>⟨I1.kIn,?_⟩) he hpl
 exact run_fn F hr hb hd hx I1 r q
structure Mk (K:Frag) (C f:Addr):Prop where
 makes:PySem.W.makesIn K C = true
 init:findIn K (.ref C) "__init__" = some (some (.ref f))
 fn:PySem.W.isFn K (.ref f) = true
 kp:keepIn K (.ref C) = true
end
section
variable {X:Cx} {CX:CXT} {k:Nat} {f C:Addr} {fd:FuncData} {ps ks:List Str} {sp:Sp} {E:XK} {x m:Str} {p pos apos kpos:Pos} {e o:Expr} {es:List Expr} {kws:List Keyword} {te ta:TE} {t tk:TA} {nm:Option Str}
structure KBinds (K:Frag) (fd:FuncData) (ps ks:List Str) (g:List Value -> List Value -> List Value) (gV:List V -> List V -> List V):Prop where
 to:∀ (s:Shared) (us ws:List Value),K.In s.heap -> (g us ws).length = ps.length -> BindsTo s fd ⟨us,ks.zip ws⟩ (ps.zip (g us ws))
 rel:∀ {vs:List V} {us:List Value} {zs:List V} {ws:List Value},Vals vs us -> Vals zs ws -> Vals (gV vs zs) (g us ws)
variable {g:List Value -> List Value -> List Value} {gV:List V -> List V -> List V}
end
structure FnScope (N P:List Str) (sc:Scope):Prop where
 kind:sc.kind = .function
 co:sc.isCoroutine = false
 gen:sc.isGenerator = false
 nd:N.Nodup
 pre:N.take P.length = P
 par:∀ x ∈ P,sc.names.lookup x = some .local \/ sc.names.lookup x = some .cell
 nofree:∀ y ∈ sc.names,y.2 ≠ .free
theorem bindL_out {kindOf:Str -> Option NameKind} {x:Str}:∀ {binds:List (Str × Value)} {m:Str -> Option Value},(∀ v,(x,v) ∉ binds) -> bindL kindOf binds m x = m x
 | [],_,_=>rfl
 | (n,v) :: r,m,h=>by
  unfold bindL
  rw [bindL_out fun w hw=>h w (List.mem_cons_of_mem _ hw)]
  split
  ·have:x ≠ n:=by rintro rfl; exact h v List.mem_cons_self
   simp [this]
  ·rfl
theorem bindC_out {kindOf:Str -> Option NameKind} {x:Str}:∀ {binds:List (Str × Value)} {m:Str -> Option Value},(∀ v,(x,v) ∉ binds) -> bindC kindOf binds m x = m x
 | [],_,_=>rfl
 | (n,v) :: r,m,h=>by
  unfold bindC
  rw [bindC_out fun w hw=>h w (List.mem_cons_of_mem _ hw)]
  split
  ·rfl
  ·have:x ≠ n:=by rintro rfl; exact h v List.mem_cons_self
   simp [this]
theorem bindL_get {kindOf:Str -> Option NameKind} {x:Str} {v:Value}:∀ {P:List Str} {vs:List Value} {i:Nat} {m:Str -> Option Value},P.Nodup -> P[i]? = some x -> vs[i]? = some v -> kindOf x = some .local ->
  bindL kindOf (P.zip vs) m x = some v
 | [],_,_,_,_,h,_,_=>by simp at h
 | _ :: _,[],_,_,_,_,h,_=>by simp at h
 | p :: P,w :: vs,0,m,nd,h1,h2,hk=>by
  simp at h1 h2; subst h1; subst h2
  show bindL kindOf ((p,w) :: P.zip vs) m p = _
  unfold bindL
  rw [bindL_out fun v hv=>(List.nodup_cons.mp nd).1 (List.of_mem_zip hv).1,if_pos hk]
  simp
 | p :: P,w :: vs,i + 1,m,nd,h1,h2,hk=>by
  show bindL kindOf ((p,w) :: P.zip vs) m x = _
  unfold bindL
  exact bindL_get (i:=i) (List.nodup_cons.mp nd).2 (by simpa using h1) (by simpa using h2) hk
theorem bindC_get {kindOf:Str -> Option NameKind} {x:Str} {v:Value}:∀ {P:List Str} {vs:List Value} {i:Nat} {m:Str -> Option Value},P.Nodup -> P[i]? = some x -> vs[i]? = some v -> kindOf x ≠ some .local ->
  bindC kindOf (P.zip vs) m x = some v
 | [],_,_,_,_,h,_,_=>by simp at h
 | _ :: _,[],_,_,_,_,h,_=>by simp at h
 | p :: P,w :: vs,0,m,nd,h1,h2,hk=>by
  simp at h1 h2; subst h1; subst h2
  show bindC kindOf ((p,w) :: P.zip vs) m p = _
  unfold bindC
  rw [bindC_out fun v hv=>(List.nodup_cons.mp nd).1 (List.of_mem_zip hv).1,if_neg hk]
  simp
 | p :: P,w :: vs,i + 1,m,nd,h1,h2,hk=>by
  show bindC kindOf ((p,w) :: P.zip vs) m x = _
  unfold bindC
  exact bindC_get (i:=i) (List.nodup_cons.mp nd).2 (by simpa using h1) (by simpa using h2) hk
noncomputable def start (N:List Str) (vs:List V):St:=vs.map some ++ List.replicate (N.length - vs.length) none
noncomputable def cxOf (CX:CXT) (P:Program) (w:World) (K:Frag) (mg:Str -> Option Value) (base:Heap) (N:List Str) (qual:Str) (scope:Scope) (f:Addr) (cd:Value) (A:Around) (outer:List Env) (s:Shared) (H:Hp) (E:XK):Cx where
 prog:=P
 w:=w
 K:=K
 mg:=mg
 base:=base
 A:=A.deeper (envOfC qual scope s.heap.objs.size f cd)
 N:=N
 s₀:=s
 H₀:=H
 env:=envOfC qual scope s.heap.objs.size f cd
 outer:=outer
 stack:=envOfC qual scope s.heap.objs.size f cd :: outer
 ex:=[]
 calm:=true
 fn:=fun _=>true
 pn:=[]
 xe:=fun e s'=>wpAny (model P w) (A.deeper (envOfC qual scope s.heap.objs.size f cd)) (leaving (envOfC qual scope s.heap.objs.size f cd) e) (fun _ s''=>CX outer H s E e s'') (fun e' s''=>CX outer H s E e' s'') s'
theorem cell_has {sc:Scope} {n:Nat} {x:Str} (h:sc.names.lookup x = some .cell):∃ c,(cellsFrom n sc.names []).lookup x = some c:=by
 have q:=PySem.W.cellsFrom_some sc.names n [] (.inl h)
 exact Option.isSome_iff_exists.mp q
theorem inv_start {CX:CXT} {P:Program} {w:World} {K:Frag} {mg:Str -> Option Value} {base:Heap} {N ps:List Str} {qual:Str} {scope:Scope} {f:Addr} {cd:Value} {A:Around} {outer:List Env} {s s1:Shared} {H:Hp} {E:XK} {us:List Value} {vs:List V}
  (S:FnScope N ps scope) (hd:A.handled = none) (e0:Env0 P w K mg base A outer s H) (hl:vs.length = ps.length) (r:Vals vs us)
  (x:InCallC s s.heap.objs.size (bindL (envOfC qual scope s.heap.objs.size f cd).kindOf (ps.zip us) fun _=>none) (cellsFrom (s.heap.objs.size + 1) scope.names []) (bindC (envOfC qual scope s.heap.objs.size f cd).kindOf (ps.zip us) fun _=>none) s1) (htk:0 < s1.toks):
  Inv (cxOf CX P w K mg base N qual scope f cd A outer s H E) [] (start N vs) H s1:=by
 have hpl:ps.length <= N.length:=by have:=congrArg List.length S.pre; rw [List.length_take] at this; omega
 obtain ⟨h1,tk,rfl,hk⟩:=x.done
 have noA:∀ b:Addr,b ∉ (cxOf CX P w K mg base N qual scope f cd A outer s H E).ex:=fun b z=>absurd (show b ∈ ([]:List Addr) from z) (by simp)
 refine ⟨⟨e0.mod,S.kind,rfl,rfl,Nat.le_refl _,fun y z c h1 h2=>?_,fun y hy=>?_,fun y c _ h=>?_,fun _=>hd,Around.frames_deeper e0.frames,.inr ⟨rfl,rfl⟩,fun b z=>absurd z (noA b),e0.bs,e0.bsz,fun b _ _=>noA b,fun b z=>absurd z (noA b),e0.funs,e0.frf⟩,
  rfl,e0.bare,Un.kept hk,⟨_,x.toInCall.ns,fun i y v h1 h2 h3=>?_⟩,fun y c h=>⟨_,x.cell y c h⟩,e0.hok.fresh (Nat.le_refl _),fun y c h=>?_,fun p hp=>absurd (show p ∈ ([]:List (Addr × Obj)) from hp) (by simp),e0.hok.kept hk,?_,htk⟩
 ·exact name_of_addr x.apart (PySem.mem_of_lookup h1) (PySem.mem_of_lookup h2)
 ·have hy:scope.names.lookup y = some .cell \/ scope.names.lookup y = some .free:=hy
  rcases hy with hy | hy
  ·exact cell_has hy
  ·exact absurd rfl (S.nofree _ (PySem.mem_of_lookup hy))
 ·exact Nat.le_of_lt (x.above y c (PySem.mem_of_lookup h))
 ·have hi:i < vs.length:=by
   unfold start at h2
   by_cases hi:i < vs.length
   ·exact hi
   ·rw [List.getElem?_append_right (by simpa using hi)] at h2
    rw [List.getElem?_replicate] at h2
    split at h2 <;> cases h2
  have ha:vs[i]? = some v:=by
   unfold start at h2
   rw [List.getElem?_append_left (by simpa using hi),List.getElem?_map] at h2
   cases e:vs[i]? with
   | none=>rw [e] at h2; cases h2
   | some a=>rw [e] at h2; cases h2; rfl
  obtain ⟨u,hu,rv⟩:=r.get ha
  have hp:ps[i]? = some y:=by
   rw [<- S.pre,List.getElem?_take_of_lt (by omega)]; exact h1
  have ndP:ps.Nodup:=by rw [<- S.pre]; exact S.nd.sublist (List.take_sublist _ _)
  refine ⟨u,rv,?_⟩
  rcases S.par y (List.mem_of_getElem? hp) with k | k
  ·exact .inl ⟨k,bindL_get ndP hp hu k⟩
  ·obtain ⟨c,e⟩:=cell_has (n:=s.heap.objs.size + 1) k
   refine .inr ⟨.inl k,c,e,?_⟩
   have q:=x.cell y c e
   rw [bindC_get ndP hp hu (by show scope.names.lookup y ≠ _; rw [k]; decide)] at q
   exact q
 ·exact e0.hok.fresh (Nat.le_of_lt (x.above y c (PySem.mem_of_lookup h)))
 ·unfold start
  show _ = N.length
  rw [List.length_append,List.length_map,List.length_replicate]
  omega
theorem fn_of {CX:CXT} {P:Program} {w:World} {K:Frag} {mg:Str -> Option Value} {base:Heap} {k:Nat} {f:Addr} {name qual:Str} {params:Arguments} {body:List Stmt} {scope:Scope} {dV kV doc pm cdv ct oc:Value} {an od:Option Addr}
  {osl:Array (Option Value)} {N ps:List Str} {sp:Sp} (lk:K.lookup f = some ⟨oc,od,.func (fnOf name qual params body scope dV kV doc pm an cdv ct),osl⟩) (hcd:codeIn K cdv qual = true) (S:FnScope N ps scope)
  (len:∀ vs H Q E,sp vs H Q E -> vs.length = ps.length)
  (hbody:∀ (A:Around) (outer:List Env) (s:Shared) (H:Hp) (vs:List V) (Q:VK) (E:XK),Room k (A.deeper (envOfC qual scope s.heap.objs.size f cdv)) -> sp vs H Q E ->
   ∃ t,PSs (cxOf CX P w K mg base N qual scope f cdv A outer s H E) body t /\ t { nx:=fun _ H'=>Q .non H',rt:=Q } (start N vs) H):
  FnOk P w K mg base CX (k + 1) f (fnOf name qual params body scope dV kV doc pm an cdv ct) ps sp:=by
 refine ⟨len,fun A outer s H args us vs Q E hr e0 hb r hsp=>?_⟩
 have hl:=len _ _ _ _ hsp
 have KX:K.In s.heap:=e0.mod.kin.keeps fun b o e=>(e0.bs b o e).1
 have lim:s.heap.NoLimit:=e0.mod.nolimit.keeps fun b o e=>(e0.bs b o e).1
 have hkind:∀ y ∈ ps.zip us,scope.names.lookup y.1 = some .local \/ (scope.names.lookup y.1 = some .cell /\ ((cellsFrom (s.heap.objs.size + 1) scope.names []).lookup y.1).isSome = true):=fun ⟨n,v⟩ hy=>by
  rcases S.par n (List.of_mem_zip hy).1 with q | q
  ·exact .inl q
  ·exact .inr ⟨q,PySem.W.cellsFrom_some _ _ _ (.inl q)⟩
 refine codeAny_call_function hr.depth (KX _ _ lk) rfl S.co S.gen rfl (PySem.W.codeRec_of KX hcd) (hb _ _ _ _ ?_)
 refine tokQ e0.tk (wpAny_newFunctionEnv_cells S.kind hkind fun env he s1 x htk=>?_)
 subst he
 refine ⟨lim.keeps x.toInCall.keep,codeAny_func ?_⟩
 obtain ⟨t,ht,hq⟩:=hbody A outer s H vs Q E (hr.deeper _) hsp
 have I:Inv (cxOf CX P w K mg base N qual scope f cdv A outer s H E) [] (start N vs) H s1:=inv_start S hr.hd e0 hl r x htk
 refine wpAny_mono (ht [] s1 (start N vs) H _ I hq) (fun fl s' hs=>?_) fun e s' hs=>hs
 have fin:∀ {σ':St} {H':Hp} {v:V} {u:Value},Inv (cxOf CX P w K mg base N qual scope f cdv A outer s H E) [] σ' H' s' -> RelV v u -> Q v H' -> CE outer P w H s Q u s':=
  fun {σ' H' v u} J rv q=>⟨v,H',J.tk,J.os,J.bare,J.base,J.hok,rv,q⟩
 cases fl with
 | ret u=>
  obtain ⟨v,σ',H',J,rv,q⟩:=hs
  exact fin J rv q
 | next=>
  obtain ⟨σ',H',J,q⟩:=hs
  exact fin (v:=V.non) (u:=Value.none) J rfl q
 | brk=>
  obtain ⟨_,_,_,q⟩:=hs
  exact False.elim q
 | cont=>
  obtain ⟨_,_,_,q⟩:=hs
  exact False.elim q
section
variable {X:Cx} {x:Str} {p pos:Pos} {e:Expr} {es:List Expr} {t:TA} {id T:String} {r:List V -> Hp -> VK -> Prop}
noncomputable def tCB (r:List V -> Hp -> VK -> Prop) (t:TA):TE:=fun σ H Q=>t σ H fun vs H1=>r vs H1 Q
theorem pe_callB (hc:CallR X (.builtin id) r) (hg:Gl X x) (hm:X.mg x = none) (hv:bootBuiltins x = some (.builtin id)) (ha:PA X (e :: es) t) (hn:x ≠ "__name__" := by decide) (hdb:(x == ("__debug__" : Str)) = false:=by decide)
  (he:starEach (e :: es) X.env = (false,eval e X.env) :: starEach es X.env:=by rfl) (hpl:(backTo pos (starEach es X.env)).any (·.1) = false:=by rfl):PE X (.Call (.Name x p) (e :: es) [] pos) (tCB r t):=by
 intro pins s σ H Q I h
 refine wpAny_Call_Name_kw (ld_blt I hg hm hv ?_ hn hdb)
 exact PyProof.Rows.callWith_builtin1 (thn (ha pos pins s σ H _ I h) fun us s1 ⟨vs,H1,I1,r1,q1⟩=>hc pins s1 σ H1 vs us Q I1 r1 q1) he hpl
theorem pe_callTy (hc:CallR X (.type T) r) (hg:Gl X x) (hm:X.mg x = none) (hv:bootBuiltins x = some (.type T)) (ha:PA X (e :: es) t) (hn:x ≠ "__name__" := by decide) (hdb:(x == ("__debug__" : Str)) = false:=by decide)
  (he:starEach (e :: es) X.env = (false,eval e X.env) :: starEach es X.env:=by rfl) (hpl:(backTo pos (starEach es X.env)).any (·.1) = false:=by rfl):PE X (.Call (.Name x p) (e :: es) [] pos) (tCB r t):=by
 intro pins s σ H Q I h
 refine wpAny_Call_Name_kw (ld_blt I hg hm hv ?_ hn hdb)
 exact PyProof.Rows.callWith_type1 (thn (ha pos pins s σ H _ I h) fun us s1 ⟨vs,H1,I1,r1,q1⟩=>hc pins s1 σ H1 vs us Q I1 r1 q1) he hpl
end
end L2
namespace HT
open PySem PyProof.Rows
section
open PySem.SeqAt
open PySem.AutoSeq1 (wpAny_loadPart')
open PySem.MeetsSeq PySem.MeetsSeq2 PySem.MeetsSeq3
end
section
variable {prog:Program} {w:World} {A:Around} {E:Value -> Shared -> Prop} {s:Shared}
noncomputable def sIx (n d:Nat):Option Int -> Nat
 | none=>d
 | some v=>if v < 0 then (v + (n:Int)).toNat else min v.toNat n
end
end HT
namespace L2
open PySem PySem.Spec PyProof.Rows
noncomputable abbrev TO:=St -> Hp -> (Option Int -> Hp -> Prop) -> Prop
def PO (X:Cx) (e:Option Expr) (t:TO):Prop:=
 ∀ (pins:List (Addr × Obj)) (s:Shared) (σ:St) (H:Hp) (Q:Option Int -> Hp -> Prop),Inv X pins σ H s -> t σ H Q ->
  wpAny (model X.prog X.w) X.A (evalPart e X.env) (fun u s'=>∃ o H',Inv X pins σ H' s' /\ IsPart u o /\ Q o H') X.xe s
noncomputable def tNoPart:TO:=fun _ H Q=>Q none H
noncomputable def tPart (t:TE):TO:=fun σ H Q=>t σ H fun x H1=>∃ i,x = .int i /\ Q (some i) H1
theorem intsAre_of {ns:List Int}:∀ {us:List Value},Vals (ns.map V.int) us -> IntsAre us ns:=by
 induction ns with
 | nil=>intro us r; rw [List.map_nil] at r; cases r; exact .nil
 | cons n ns ih=>
  intro us r
  rw [List.map_cons] at r
  cases r with
  | cons r1 r2=>
   obtain ⟨t,e⟩:=r1
   subst e
   exact .cons n t (ih r2)
section
variable {X:Cx} {e:Expr} {te:TE} {lo hi:Option Expr} {tl th:TO} {pos p2:Pos}
theorem po_none:PO X none tNoPart:=by
 intro pins s σ H Q I h
 rw [evalPart_none]
 exact wpAny_pure ⟨none,H,I,.none,h⟩
theorem po_some (h:PE X e te):PO X (some e) (tPart te):=by
 intro pins s σ H Q I hw
 rw [evalPart_some]
 refine thn (h pins s σ H _ I hw) fun u s1 ⟨x,H1,I1,r1,q1⟩=>?_
 obtain ⟨i,rfl,q⟩:=q1
 obtain ⟨t,rfl⟩:=r1
 exact ⟨some i,H1,I1,.int i t,q⟩
def SlR (X:Cx) (r:V -> Option Int -> Option Int -> Hp -> VK -> Prop):Prop:=
 ∀ (pins:List (Addr × Obj)) (s:Shared) (σ:St) (H:Hp) (x:V) (v vl vu:Value) (lo hi:Option Int) (sl:Addr) (Q:VK),Inv X pins σ H s -> RelV x v -> s.heap.IsSliceOf sl vl vu .none -> IsPart vl lo -> IsPart vu hi -> r x lo hi H Q ->
  ∃ T id,typeLookup (.type T) "__getitem__" = pure (some (.builtin id)) /\ s.TypeIs v T /\ wpAny (model X.prog X.w) X.A (getItem v (.ref sl)) (EP X pins σ Q) X.xe s
theorem SlR.or {r r':V -> Option Int -> Option Int -> Hp -> VK -> Prop} (h:SlR X r) (h':SlR X r'):SlR X (fun x lo hi H Q=>r x lo hi H Q \/ r' x lo hi H Q):=by
 intro pins s σ H x v vl vu lo hi sl Q I rx hs pl pu q
 rcases q with q | q
 ·exact h pins s σ H x v vl vu lo hi sl Q I rx hs pl pu q
 ·exact h' pins s σ H x v vl vu lo hi sl Q I rx hs pl pu q
noncomputable def tSl (r:V -> Option Int -> Option Int -> Hp -> VK -> Prop) (te:TE) (tl th:TO):TE:=fun σ H Q=>te σ H fun x H1=>tl σ H1 fun l H2=>th σ H2 fun u H3=>r x l u H3 Q
theorem pe_slice {r:V -> Option Int -> Option Int -> Hp -> VK -> Prop} (hr:SlR X r) (he:PE X e te) (hl:PO X lo tl) (hu:PO X hi th):PE X (.Subscript e (.Slice lo hi none p2) pos) (tSl r te tl th):=by
 intro pins s σ H Q I h
 refine Subscript_ (thn (he pins s σ H _ I h) fun v s1 ⟨x,H1,I1,r1,q1⟩=>?_)
 refine wpAny_Slice (thn (hl pins s1 σ H1 _ I1 q1) fun vl s2 ⟨l,H2,I2,pl,q2⟩=>thn (hu pins s2 σ H2 _ I2 q2) fun vu s3 ⟨u,H3,I3,pu,q3⟩=>?_)
 rw [evalPart_none]
 refine wpAny_pure ?_
 have I4:Inv X pins σ H3 { s3 with heap:=s3.heap.push { cls:=.type "slice",data:=.fields #[vl,vu,.none] } }:=I3.kept (t':=s3.toks) fun b ob q=>Heap.get?_push_of_some _ q
 obtain ⟨T,id,hT,ht,hg⟩:=hr pins { s3 with heap:=s3.heap.push { cls:=.type "slice",data:=.fields #[vl,vu,.none] } } σ H3 x v vl vu l u s3.heap.objs.size Q I4 r1 (Heap.IsSliceOf.new ..) pl pu q3
 show wpAny (model X.prog X.w) X.A (subscriptTail e (.Slice lo hi none p2) v (.ref s3.heap.objs.size)) (EP X pins σ Q) X.xe { s3 with heap:=s3.heap.push { cls:=.type "slice",data:=.fields #[vl,vu,.none] } }
 exact tail_any (ops:=[.ref s3.heap.objs.size,v]) ht hT hg (by with_unfolding_all rfl)
noncomputable def cutV (xs:List V) (lo hi:Option Int):List V:=(xs.drop (HT.sIx xs.length 0 lo)).take (HT.sIx xs.length xs.length hi - HT.sIx xs.length 0 lo)
theorem cutV_length (xs:List V) (lo hi:Option Int):(cutV xs lo hi).length <= xs.length:=by
 unfold cutV
 rw [List.length_take,List.length_drop]
 omega
end
noncomputable def ixN (n:Nat) (i:Int):Option Nat:=if 0 <= i then (if i < n then some i.toNat else none) else if -(n:Int) <= i then some (i + n).toNat else none
noncomputable def atI {α:Type} (xs:List α) (i:Int):Option α:=(ixN xs.length i).bind fun j=>xs[j]?
theorem ixN_seq {n:Nat} {i:Int} {j:Nat} (h:ixN n i = some j):seqIndex? i n = some j /\ j < n /\ -(n:Int) <= i /\ i < n:=by
 unfold ixN at h
 by_cases h0:0 <= i
 ·rw [if_pos h0] at h
  by_cases h1:i < n
  ·rw [if_pos h1] at h
   have e:i.toNat = j:=Option.some.inj h
   exact ⟨by rw [seqIndex_of h0 h1,e],by omega,by omega,h1⟩
  ·rw [if_neg h1] at h; cases h
 ·rw [if_neg h0] at h
  by_cases h1:-(n:Int) <= i
  ·rw [if_pos h1] at h
   have e:(i + n).toNat = j:=Option.some.inj h
   exact ⟨by rw [seqIndex_neg (by omega) h1,e],by omega,h1,by omega⟩
  ·rw [if_neg h1] at h; cases h
theorem atI_get {α:Type} {xs:List α} {i:Int} {v:α} (h:atI xs i = some v):∃ j,seqIndex? i xs.length = some j /\ xs[j]? = some v /\ j < xs.length /\ -(xs.length:Int) <= i /\ i < xs.length:=by
 unfold atI at h
 cases e:ixN xs.length i with
 | none=>rw [e] at h; cases h
 | some j=>
  rw [e] at h
  obtain ⟨h1,h2,h3,h4⟩:=ixN_seq e
  exact ⟨j,h1,h,h2,h3,h4⟩
theorem atI_nat {α:Type} {xs:List α} {j:Nat} {v:α} (h:xs[j]? = some v):atI xs (j:Int) = some v:=by
 have hj:j < xs.length:=(List.getElem?_eq_some_iff.mp h).1
 have e:ixN xs.length (j:Int) = some j:=by
  unfold ixN
  rw [if_pos (by omega),if_pos (by omega)]; simp
 unfold atI; rw [e]; exact h
def PlainIx (b:Expr):Prop:=∀ o i,subscripted b false o i = operate [o,i] (getItem o i)
def IxR (X:Cx) (r:R2):Prop:=
 ∀ (value slice:Expr) (pins:List (Addr × Obj)) (s:Shared) (σ:St) (H:Hp) (x y:V) (v u:Value) (Q:VK),Inv X pins σ H s -> RelV x v -> RelV y u -> r x y H Q ->
  subscripted slice false v u = operate [v,u] (getItem v u) -> wpAny (model X.prog X.w) X.A (subscriptTail value slice v u) (EP X pins σ Q) X.xe s
def MtR (X:Cx) (id:String) (r:V -> List V -> Hp -> VK -> Prop):Prop:=
 ∀ (pins:List (Addr × Obj)) (s:Shared) (σ:St) (H:Hp) (x:V) (xs:List V) (v:Value) (us:List Value) (Q:VK),Inv X pins σ H s -> RelV x v -> Vals xs us -> r x xs H Q ->
  wpAny (model X.prog X.w) X.A (call (.builtin id) (v :: us)) (EP X pins σ Q) X.xe s
section
variable {X:Cx} {a b:Expr} {ta tb:TE} {pos:Pos}
theorem IxR.or {r r':R2} (h:IxR X r) (h':IxR X r'):IxR X (fun x y H Q=>r x y H Q \/ r' x y H Q):=by
 intro value slice pins s σ H x y v u Q I rx ry q hs
 rcases q with q | q
 ·exact h value slice pins s σ H x y v u Q I rx ry q hs
 ·exact h' value slice pins s σ H x y v u Q I rx ry q hs
theorem MtR.or {id:String} {r r':V -> List V -> Hp -> VK -> Prop} (h:MtR X id r) (h':MtR X id r'):MtR X id (fun x xs H Q=>r x xs H Q \/ r' x xs H Q):=by
 intro pins s σ H x xs v us Q I rx rs q
 rcases q with q | q
 ·exact h pins s σ H x xs v us Q I rx rs q
 ·exact h' pins s σ H x xs v us Q I rx rs q
theorem pe_ix {r:R2} (hr:IxR X r) (ha:PE X a ta) (hb:PE X b tb) (hs:PlainIx b):PE X (.Subscript a b pos) (tOp r ta tb):=by
 intro pins s σ H Q I h
 exact Subscript_ (binT ha hb I h fun v u s2 x y H2 I2 rx ry q=>hr a b pins s2 σ H2 x y v u Q I2 rx ry q (hs _ _))
noncomputable def rIxL (K:Frag):R2:=fun x y H Q=>∃ p xs i v,x = .ref p /\ y = .int i /\ SqL K H p xs /\ atI xs i = some v /\ Q v H
noncomputable def rIxT (K:Frag):R2:=fun x y H Q=>∃ p xs i v,x = .ref p /\ y = .int i /\ SqT K H p xs /\ atI xs i = some v /\ Q v H
noncomputable def rIxS:R2:=fun x y H Q=>∃ z i c,x = .str z /\ y = .int i /\ z.length <= sizeLine /\ atI z.cps.toList i = some c /\ Q (.str ⟨#[c]⟩) H
theorem ix_list:IxR X (rIxL X.K):=by
 intro value slice pins s σ H x y v u Q I rx ry h hs
 obtain ⟨p,xs,i,z,rfl,rfl,hq,he,q⟩:=h
 cases rx
 obtain ⟨t,rfl⟩:=ry
 obtain ⟨its,r,pl,hz⟩:=I.list hq
 obtain ⟨j,h1,h2,h3,h4,h5⟩:=atI_get he
 obtain ⟨w,ew,rw'⟩:=r.get h2
 have hl:=r.length
 have hn:=line63
 have fin:EP X pins σ Q w s:=⟨z,H,I,rw',q⟩
 by_cases h0:0 <= i
 ·have hj:i.toNat = j:=by
   rw [seqIndex_of h0 h5] at h1
   exact Option.some.inj h1
  exact item_listR pl.isList h0 (by omega) (by rw [hj]; simpa using ew) fin hs
 ·have hj:(i + (its.toArray.size:Int)).toNat = j:=by
   rw [seqIndex_neg (by omega) h4] at h1
   rw [List.size_toArray,<- hl]
   exact Option.some.inj h1
  exact subscriptTail_builtinR (x:=w) pl.isList.typeIs slot_list_getitem.lookup
   (wpAny_getItem_list_neg (Q:=fun r s'=>r = w /\ EP X pins σ Q r s') pl.isList (by omega) (by rw [List.size_toArray] <;> omega) (by omega) (by rw [hj]; simpa using ew) ⟨rfl,fin⟩) hs
theorem ix_tup:IxR X (rIxT X.K):=by
 intro value slice pins s σ H x y v u Q I rx ry h hs
 obtain ⟨p,xs,i,z,rfl,rfl,hq,he,q⟩:=h
 cases rx
 obtain ⟨t,rfl⟩:=ry
 obtain ⟨its,r,pl,hz⟩:=I.tuple hq
 obtain ⟨j,h1,h2,h3,h4,h5⟩:=atI_get he
 obtain ⟨w,ew,rw'⟩:=r.get h2
 have hl:=r.length
 have hn:=line63
 have fin:EP X pins σ Q w s:=⟨z,H,I,rw',q⟩
 exact subscriptTail_builtinR (x:=w) pl.typeIs slot_tuple_getitem.lookup
  (getItem_tuple (j:=j) (Q:=fun r s'=>r = w /\ EP X pins σ Q r s') pl (by omega) (by omega) (by rw [List.size_toArray,<- hl]; exact h1) (by simpa using ew) ⟨rfl,fin⟩) hs
theorem ix_str:IxR X rIxS:=by
 intro value slice pins s σ H x y v u Q I rx ry h hs
 obtain ⟨z,i,c,rfl,rfl,hz,he,q⟩:=h
 obtain ⟨t,rfl⟩:=rx
 obtain ⟨t',rfl⟩:=ry
 obtain ⟨j,h1,h2,h3,h4,h5⟩:=atI_get he
 have hl:z.cps.toList.length = z.length:=by simp [Str.length]
 rw [hl] at h1 h4 h5
 have hn:=line63
 exact tail_any (typeIs_str s z t) slot_str_getitem.lookup (getItem_str (c:=c) (by
  have e1:decide (i < -(2 ^ 63:Int)) = false:=decide_eq_false (by omega)
  have e2:decide (i >= 2 ^ 63) = false:=decide_eq_false (by omega)
  rw [e1,e2,Bool.or_false]) (by rw [h1]; simpa using h2) ⟨.str ⟨#[c]⟩,H,I.tok _,⟨_,rfl⟩,q⟩) hs
noncomputable def rIx (K:Frag):R2:=fun x y H Q=>rIxL K x y H Q \/ rIxT K x y H Q \/ rIxS x y H Q
theorem ix_seq:IxR X (rIx X.K):=ix_list.or (ix_tup.or ix_str)
theorem mapSeq_set (its:List Value) (n j:Nat) (u:Value):Obj.mapSeq (·.setIfInBounds j u) { cls:=.type "list",data:=.seq its.toArray n } = { cls:=.type "list",data:=.seq (its.set j u).toArray n }:=by
 simp [Obj.mapSeq]
theorem Inv.lst {pins:List (Addr × Obj)} {σ:St} {H:Hp} {s:Shared} {p:Addr} {xs:List V} (I:Inv X pins σ H s) (h:H p = some (.lst xs)):
  ∃ (its:List Value) (n:Nat),Vals xs its /\ s.heap.get? p = some { cls:=.type "list",data:=.seq its.toArray n } /\ xs.length <= sizeLine:=by
 obtain ⟨z,its,n,r,e⟩:=I.hok p _ h
 exact ⟨its,n,r,e,z⟩
theorem Inv.lstUpd {pins:List (Addr × Obj)} {σ:St} {H:Hp} {s:Shared} {p:Addr} {xs ys:List V} {its its':List Value} {n n':Nat} {f:Obj -> Obj} (I:Inv X pins σ H s) (h:H p = some (.lst xs))
  (ho:s.heap.get? p = some { cls:=.type "list",data:=.seq its.toArray n }) (hf:f { cls:=.type "list",data:=.seq its.toArray n } = { cls:=.type "list",data:=.seq its'.toArray n' }) (r:Vals ys its') (hz:ys.length <= sizeLine) (t:Nat) (ht:0 < t:=by first | assumption | exact Nat.succ_pos _ | (apply Inv.tk; assumption) | omega):
  Inv X pins σ (upd H p (.lst ys)) { s with heap:=s.heap.update p f,toks:=t }:=by
 have e:(s.heap.update p f).get? p = some { cls:=.type "list",data:=.seq its'.toArray n' }:=by
  rw [Heap.get?_update_self f ho (by rw [hf] <;> rfl),hf]
 refine I.write (x:=p) (e:=p) (by rw [h]; trivial) (.inl rfl) (fun b u hb q=>(Heap.get?_update_other _ _ (Ne.symm hb)).trans q) ⟨_,e⟩ ?_
 exact ⟨hz,its',n',r,e⟩
noncomputable def rSetL:V -> V -> V -> Hp -> (Hp -> Prop) -> Prop:=fun o i v H Q=>∃ p xs k j,o = .ref p /\ i = .int k /\ H p = some (.lst xs) /\ ixN xs.length k = some j /\ Q (upd H p (.lst (xs.set j v)))
theorem set_list:PSet X rSetL:=by
 intro pins s σ H o i v ov iv u Q I ro ri rv h
 obtain ⟨p,xs,k,j,rfl,rfl,hp,hj,q⟩:=h
 cases ro
 obtain ⟨t,rfl⟩:=ri
 obtain ⟨its,n,r,ho,hz⟩:=I.lst hp
 obtain ⟨h1,h2,h3,h4⟩:=ixN_seq hj
 have hl:=r.length
 have hn:=line63
 have I':Inv X pins σ (upd H p (.lst (xs.set j v))) { s with heap:=s.heap.update p (Obj.mapSeq (·.setIfInBounds j u)) }:=
  I.lstUpd hp ho (mapSeq_set its n j u) (r.set rv j) (by rw [List.length_set]; exact hz) s.toks
 by_cases h0:0 <= k
 ·have hk:k.toNat = j:=by
   rw [seqIndex_of h0 h4] at h1
   exact Option.some.inj h1
  exact PySem.W.ki_setAt ho h0 (by omega) (by rw [List.size_toArray,<- hl]; exact h4) (by rw [hk]; exact ⟨_,I',q⟩)
 ·have hk:(k + (its.toArray.size:Int)).toNat = j:=by
   rw [seqIndex_neg (by omega) h3] at h1
   rw [List.size_toArray,<- hl]
   exact Option.some.inj h1
  exact PySem.W.ki_setBack ho (by omega) (by rw [List.size_toArray,<- hl]; exact h3) (by omega) (by rw [hk]; exact ⟨_,I',q⟩)
theorem slice_bounds (lo hi:Option Int) (n:Nat):(sliceBounds lo hi none n).1 = ((HT.sIx n 0 lo:Nat):Int) /\ (sliceBounds lo hi none n).2.1 = ((HT.sIx n n hi:Nat):Int) /\ (sliceBounds lo hi none n).2.2 = 1:=by
 refine ⟨?_,?_,rfl⟩
 ·cases lo with
  | none=>simp [sliceBounds,HT.sIx]
  | some i=>
   simp only [sliceBounds,HT.sIx,Option.getD_none,show (1:Int) > 0 by decide,if_true]
   by_cases h:i < 0
   ·simp only [h,if_true] <;> omega
   ·simp only [h,if_false] <;> omega
 ·cases hi with
  | none=>simp [sliceBounds,HT.sIx]
  | some i=>
   simp only [sliceBounds,HT.sIx,Option.getD_none,show (1:Int) > 0 by decide,if_true]
   by_cases h:i < 0
   ·simp only [h,if_true] <;> omega
   ·simp only [h,if_false] <;> omega
theorem slicePick_cut (its:List Value) (lo hi:Option Int):slicePick its.toArray lo hi none = ((its.drop (HT.sIx its.length 0 lo)).take (HT.sIx its.length its.length hi - HT.sIx its.length 0 lo)).toArray:=by
 obtain ⟨h1,h2,h3⟩:=slice_bounds lo hi its.toArray.size
 unfold slicePick
 rw [h1,h2,h3]
 simp only [sliceRange_one,pick_run,List.size_toArray] <;> rfl
noncomputable def rSlL (K:Frag):V -> Option Int -> Option Int -> Hp -> VK -> Prop:=fun x lo hi H Q=>∃ a xs,x = .ref a /\ SqL K H a xs /\ ∀ p,H p = none -> Q (.ref p) (upd H p (.lst (cutV xs lo hi)))
theorem sl_list:SlR X (rSlL X.K):=by
 intro pins s σ H x v vl vu lo hi sl Q I rx hs pl pu h
 obtain ⟨a,xs,rfl,hx,q⟩:=h
 cases rx
 obtain ⟨its,r,ht,hz⟩:=I.list hx
 have hlen:=r.length
 refine ⟨"list",_,slot_list_getitem.lookup,ht.isList.typeIs,?_⟩
 refine wpAny_getItem_list_slice ht.isList hs pl pu .none (by simp) ?_ (by rw [List.size_toArray] <;> omega)
 rw [slicePick_cut,<- hlen]
 refine ⟨.ref s.heap.objs.size,_,I.laid (t':=s.toks) (o:=.lst (cutV xs lo hi)) (fun b ob q=>Heap.get?_push_of_some _ q) (Nat.le_refl _) ?_,rfl,q _ (I.hok.fresh (Nat.le_refl _))⟩
 exact ⟨Nat.le_trans (cutV_length xs lo hi) hz,_,0,(r.drop (HT.sIx xs.length 0 lo)).take (HT.sIx xs.length xs.length hi - HT.sIx xs.length 0 lo),Heap.get?_push_size _ rfl⟩
noncomputable def flatV:V -> Bool
 | .non=>true
 | .bl _=>true
 | .int _=>true
 | .str _=>true
 | _=>false
noncomputable def eqV:V -> V -> Bool
 | .non,.non=>true
 | .bl a,.bl b=>a == b
 | .bl a,.int b=>(if a then 1 else 0) == b
 | .int a,.bl b=>a == (if b then 1 else 0)
 | .int a,.int b=>a == b
 | .str a,.str b=>a == b
 | _,_=>false
theorem eqAt_V {A:Around} {s:Shared} {y x:V} {u v:Value} (ry:RelV y u) (rx:RelV x v) (fy:flatV y = true) (fx:flatV x = true):SeqAt.EqAt A s u v (eqV y x):=by
 cases y with
 | non=>
  cases ry
  cases x with
  | non=>cases rx; exact SeqAt.EqAt.same _
  | bl b=>cases rx; exact SeqAt.EqAt.none_bool b
  | int b=>obtain ⟨t,rfl⟩:=rx; exact SeqAt.EqAt.none_int b t
  | str b=>obtain ⟨t,rfl⟩:=rx; exact SeqAt.EqAt.none_str b t
  | _=>exact absurd (show false = true from fx) Bool.false_ne_true
 | bl a=>
  cases ry
  cases x with
  | non=>cases rx; exact SeqAt.EqAt.bool_none a
  | bl b=>cases rx; exact SeqAt.EqAt.bool_bool a b
  | int b=>obtain ⟨t,rfl⟩:=rx; exact SeqAt.EqAt.bool_int a b t
  | str b=>obtain ⟨t,rfl⟩:=rx; exact SeqAt.EqAt.bool_str a b t
  | _=>exact absurd (show false = true from fx) Bool.false_ne_true
 | int a=>
  obtain ⟨t',rfl⟩:=ry
  cases x with
  | non=>cases rx; exact SeqAt.EqAt.int_none a t'
  | bl b=>cases rx; exact SeqAt.EqAt.int_bool a t' b
  | int b=>obtain ⟨t,rfl⟩:=rx; exact SeqAt.EqAt.int_int a t' b t
  | str b=>obtain ⟨t,rfl⟩:=rx; exact SeqAt.EqAt.int_str a t' b t
  | _=>exact absurd (show false = true from fx) Bool.false_ne_true
 | str a=>
  obtain ⟨t',rfl⟩:=ry
  cases x with
  | non=>cases rx; exact SeqAt.EqAt.str_none a t'
  | bl b=>cases rx; exact SeqAt.EqAt.str_bool a t' b
  | int b=>obtain ⟨t,rfl⟩:=rx; exact SeqAt.EqAt.str_int a t' b t
  | str b=>obtain ⟨t,rfl⟩:=rx; exact SeqAt.EqAt.str_str a t' b t
  | _=>exact absurd (show false = true from fx) Bool.false_ne_true
 | _=>exact absurd (show false = true from fy) Bool.false_ne_true
noncomputable def eqU (x:V) (u:Value):Bool:=match u with
 | .none=>eqV .non x
 | .bool b=>eqV (.bl b) x
 | .int i _=>eqV (.int i) x
 | .str z _=>eqV (.str z) x
 | _=>false
theorem eqU_of {x y:V} {u:Value} (r:RelV y u) (f:flatV y = true):eqU x u = eqV y x:=by
 cases y with
 | non=>cases r; rfl
 | bl b=>cases r; rfl
 | int i=>obtain ⟨t,rfl⟩:=r; rfl
 | str z=>obtain ⟨t,rfl⟩:=r; rfl
 | _=>exact absurd (show false = true from f) Bool.false_ne_true
theorem any_eqU {x:V}:∀ {xs:List V} {us:List Value},Vals xs us -> xs.all flatV = true -> us.any (eqU x) = xs.any fun y=>eqV y x
 | _,_,.nil,_=>rfl
 | y :: xs,u :: us,.cons r t,f=>by
  rw [List.all_cons,Bool.and_eq_true] at f
  rw [List.any_cons,List.any_cons,eqU_of r f.1,any_eqU t f.2]
theorem mem_eqAt {A:Around} {s:Shared} {x:V} {v:Value} (rx:RelV x v) (fx:flatV x = true):∀ {xs:List V} {us:List Value},Vals xs us -> xs.all flatV = true -> ∀ u ∈ us,SeqAt.EqAt A s u v (eqU x u)
 | _,_,.nil,_=>fun u hu=>by cases hu
 | y :: xs,u :: us,.cons r t,f=>fun u' hu=>by
  rw [List.all_cons,Bool.and_eq_true] at f
  rcases List.mem_cons.mp hu with rfl | hu
  ·rw [eqU_of r f.1]; exact eqAt_V r rx f.1 fx
  ·exact mem_eqAt rx fx t f.2 u' hu
noncomputable def inV (x:V) (xs:List V):Bool:=xs.any fun y=>eqV y x
noncomputable def rIn (K:Frag) (neg:Bool):R2:=fun x y H Q=>∃ p xs,y = .ref p /\ (SqL K H p xs \/ SqT K H p xs) /\ flatV x = true /\ xs.all flatV = true /\ Q (.bl (if neg then !inV x xs else inV x xs)) H
theorem op_in_seq:OpR X (compareOp .In) (rIn X.K false):=by
 intro pins s σ H x y v u Q I rx ry h
 obtain ⟨p,xs,rfl,hq,fx,fs,q⟩:=h
 cases ry
 rcases hq with hq | hq
 ·obtain ⟨its,r,pl,hz⟩:=I.list hq
  refine SeqAt.in_listAt (eqU x) pl.isList (fun w hw=>mem_eqAt rx fx r fs w (by simpa using hw)) ⟨.bl _,H,I,rfl,?_⟩
  rw [show its.toArray.any (eqU x) = its.any (eqU x) by simp,any_eqU r fs]
  exact q
 ·obtain ⟨its,r,pl,hz⟩:=I.tuple hq
  refine SeqAt.in_tupleAt (eqU x) pl (fun w hw=>mem_eqAt rx fx r fs w (by simpa using hw)) ⟨.bl _,H,I,rfl,?_⟩
  rw [show its.toArray.any (eqU x) = its.any (eqU x) by simp,any_eqU r fs]
  exact q
theorem op_notIn_seq:OpR X (compareOp .NotIn) (rIn X.K true):=by
 intro pins s σ H x y v u Q I rx ry h
 obtain ⟨p,xs,rfl,hq,fx,fs,q⟩:=h
 cases ry
 rcases hq with hq | hq
 ·obtain ⟨its,r,pl,hz⟩:=I.list hq
  refine SeqAt.notIn_listAt (eqU x) pl.isList (fun w hw=>mem_eqAt rx fx r fs w (by simpa using hw)) ⟨.bl _,H,I,rfl,?_⟩
  rw [show its.toArray.any (eqU x) = its.any (eqU x) by simp,any_eqU r fs]
  exact q
 ·obtain ⟨its,r,pl,hz⟩:=I.tuple hq
  refine SeqAt.notIn_tupleAt (eqU x) pl (fun w hw=>mem_eqAt rx fx r fs w (by simpa using hw)) ⟨.bl _,H,I,rfl,?_⟩
  rw [show its.toArray.any (eqU x) = its.any (eqU x) by simp,any_eqU r fs]
  exact q
theorem call_len_seq:CallR X (.builtin "len") (fun xs H Q=>∃ p ys,xs = [.ref p] /\ (SqL X.K H p ys \/ SqT X.K H p ys) /\ Q (.int ys.length) H):=by
 intro pins s σ H xs us Q I r h
 obtain ⟨p,ys,rfl,hq,q⟩:=h
 obtain ⟨u,rfl,rx⟩:=vals1 r
 cases rx
 have hn:=line63
 rcases hq with hq | hq
 ·obtain ⟨its,r',pl,hz⟩:=I.list hq
  have hlen:=r'.length
  exact Calls.call_len_list pl.isList (by simp only [List.size_toArray] <;> omega) ⟨.int ys.length,H,I.tok _,⟨s.toks + 1,by rw [List.size_toArray,hlen]⟩,q⟩
 ·obtain ⟨its,r',pl,hz⟩:=I.tuple hq
  have hlen:=r'.length
  exact len_tuple pl (by simp only [List.size_toArray] <;> omega) ⟨.int ys.length,H,I.tok _,⟨s.toks + 1,by rw [List.size_toArray,hlen]⟩,q⟩
theorem call_len_str:CallR X (.builtin "len") (fun xs H Q=>∃ z,xs = [.str z] /\ z.length <= sizeLine /\ Q (.int z.length) H):=by
 intro pins s σ H xs us Q I r h
 obtain ⟨z,rfl,hz,q⟩:=h
 obtain ⟨u,rfl,t,rfl⟩:=vals1 r
 have hn:=line63
 exact len_str (by omega) ⟨.int z.length,H,I.tok _,⟨_,rfl⟩,q⟩
theorem CallR.or {f:Value} {r r':List V -> Hp -> VK -> Prop} (h:CallR X f r) (h':CallR X f r'):CallR X f (fun xs H Q=>r xs H Q \/ r' xs H Q):=by
 intro pins s σ H xs us Q I rs q
 rcases q with q | q
 ·exact h pins s σ H xs us Q I rs q
 ·exact h' pins s σ H xs us Q I rs q
theorem call_list_of:CallR X (.type "list") (fun xs H Q=>∃ p ys,xs = [.ref p] /\ (SqL X.K H p ys \/ SqT X.K H p ys) /\ ∀ l,H l = none -> Q (.ref l) (upd H l (.lst ys))):=by
 intro pins s σ H xs us Q I r h
 obtain ⟨p,ys,rfl,hq,q⟩:=h
 obtain ⟨u,rfl,rx⟩:=vals1 r
 cases rx
 have fin:∀ (its:List Value),Vals ys its -> ys.length <= sizeLine -> ∀ (h':Heap) (c':Nat),(∀ b o',s.heap.get? b = some o' -> h'.get? b = some o') ->
   h'.get? s.heap.objs.size = some { cls:=.type "list",dict:=none,data:=.seq its.toArray c',slots:=#[] } -> EP X pins σ Q (.ref s.heap.objs.size) { s with heap:=h' }:=fun its r' hz h' c' kp e=>
  ⟨.ref s.heap.objs.size,_,I.laid (t':=s.toks) kp (Nat.le_refl _) (show ObjOk X.prog X.w _ h' _ (.lst ys) from ⟨hz,its,c',r',e⟩),rfl,q _ (I.hok.fresh (Nat.le_refl _))⟩
 rcases hq with hq | hq
 ·obtain ⟨its,r',pl,hz⟩:=I.list hq
  have hlen:=r'.length
  obtain ⟨o,ho,hc,n,hd⟩:=pl.isList
  exact call_list_seq p (.inl rfl) ho hc hd (fun h' c' kp e=>fin its r' hz h' c' kp e) (by simp only [List.size_toArray] <;> omega)
 ·obtain ⟨its,r',pl,hz⟩:=I.tuple hq
  have hlen:=r'.length
  obtain ⟨o,ho,hc,n,hd⟩:=pl
  exact call_list_seq p (.inr rfl) ho hc hd (fun h' c' kp e=>fin its r' hz h' c' kp e) (by simp only [List.size_toArray] <;> omega)
theorem call_tuple_of:CallR X (.type "tuple") (fun xs H Q=>∃ p ys,xs = [.ref p] /\ ((SqL X.K H p ys /\ ∀ l,H l = none -> Q (.ref l) (upd H l (.tup ys))) \/ (SqT X.K H p ys /\ Q (.ref p) H))):=by
 intro pins s σ H xs us Q I r h
 obtain ⟨p,ys,rfl,h⟩:=h
 obtain ⟨u,rfl,rx⟩:=vals1 r
 cases rx
 rcases h with ⟨hq,q⟩ | ⟨hq,q⟩
 ·obtain ⟨its,r',pl,hz⟩:=I.list hq
  have hlen:=r'.length
  refine call_tuple_list pl.isList (fun h' kp=>?_) (by simp only [List.size_toArray] <;> omega)
  have I1:Inv X pins σ H { s with heap:=h' }:=I.kept (t':=s.toks) kp
  have I2:Inv X pins σ (upd H h'.objs.size (.tup ys)) { s with heap:=h'.push { cls:=.type "tuple",data:=.seq its.toArray } }:=
   I1.laid (t':=s.toks) (fun b o e=>Heap.get?_push_of_some _ e) (Nat.le_refl _) (show ObjOk X.prog X.w _ _ _ (.tup ys) from ⟨hz,its,r',IsTup.new _ _⟩)
  exact ⟨.ref h'.objs.size,_,I2,rfl,q _ (I1.hok.fresh (Nat.le_refl _))⟩
 ·obtain ⟨its,r',pl,hz⟩:=I.tuple hq
  exact call_tuple_same pl ⟨.ref p,H,I,rfl,q⟩
def tyV (K:Frag) (T:String) (x:V) (H:Hp):Prop:=match x with
 | .str _=>T = "str"
 | .int _=>T = "int"
 | .ref p=>(T = "list" /\ ∃ xs,SqL K H p xs) \/ (T = "tuple" /\ ∃ o,K.lookup p = some o /\ o.cls = .type "tuple" /\ o.dict = none) \/
   (T = "dict" /\ ((∃ kvs,H p = some (.dK kvs)) \/ ∃ kvs,H p = some (.dT kvs))) \/ (T = "set" /\ ∃ S n,H p = some (.set S n))
 | _=>False
theorem tyV_is {pins:List (Addr × Obj)} {σ:St} {H:Hp} {s:Shared} {T:String} {x:V} {v:Value} (I:Inv X pins σ H s) (r:RelV x v) (ty:tyV X.K T x H):
  s.TypeIs v T /\ ∀ a,v = .ref a -> ∃ ob,s.heap.get? a = some ob /\ ob.dict = none:=by
 cases x with
 | str z=>
  obtain ⟨t,rfl⟩:=r
  cases (show T = "str" from ty)
  exact ⟨typeIs_str s z t,fun _ e=>nomatch e⟩
 | int i=>
  obtain ⟨t,rfl⟩:=r
  cases (show T = "int" from ty)
  exact ⟨typeIs_int s i t,fun _ e=>nomatch e⟩
 | ref p=>
  cases r
  rcases ty with ⟨rfl,xs,hq⟩ | ⟨rfl,o,hk,hc,hd⟩ | ⟨rfl,hk⟩ | ⟨rfl,S,n,hk⟩
  ·obtain ⟨its,_,pl,_⟩:=I.list hq
   refine ⟨pl.isList.typeIs,fun a e=>?_⟩
   cases e
   obtain ⟨o,n,e,c,hd,_⟩:=pl
   exact ⟨o,e,hd⟩
  ·refine ⟨⟨o,I.kIn p o hk,hc⟩,fun a e=>?_⟩
   cases e
   exact ⟨o,I.kIn _ o hk,hd⟩
  ·have z:∃ o,s.heap.get? p = some o /\ o.ExactDict:=by
    rcases hk with ⟨kvs,hk⟩ | ⟨kvs,hk⟩
    ·obtain ⟨_,_,_,_,o,_,_,e,ex,_⟩:=I.hok p _ hk
     exact ⟨o,e,ex⟩
    ·obtain ⟨_,_,_,_,o,_,_,e,ex,_⟩:=I.hok p _ hk
     exact ⟨o,e,ex⟩
   obtain ⟨o,e,ex⟩:=z
   refine ⟨⟨o,e,ex.1⟩,fun a e2=>?_⟩
   cases e2
   exact ⟨o,e,ex.2.1⟩
  ·obtain ⟨o,_,_,_,e,ex,_⟩:=I.hok p _ hk
   refine ⟨⟨o,e,ex.1⟩,fun a e2=>?_⟩
   cases e2
   exact ⟨o,e,ex.2.1⟩
 | _=>exact False.elim ty
noncomputable def tBM (K:Frag) (T:String) (r:V -> List V -> Hp -> VK -> Prop) (to:TE) (t:TA):TE:=fun σ H Q=>to σ H fun x H1=>tyV K T x H1 /\ t σ H1 fun xs H2=>r x xs H2 Q
variable {o e:Expr} {es:List Expr} {to:TE} {t:TA} {name:Str} {apos cpos:Pos} {T id:String} {r:V -> List V -> Hp -> VK -> Prop}
theorem pe_bm (pa:PlainAttrs T) (slot:Slot T name id) (hty:typeOf (.builtin id) = pure (.type "method_descriptor")) (hm:MtR X id r) (ho:PE X o to) (ha:PA X (e :: es) t)
  (hbase:attributeBase o name X.env (eval o X.env) = eval o X.env:=by rfl)
  (hfew:((backTo cpos (starEach (e :: es) X.env)).all (fun x=>!x.1) && (backToKw cpos (keywordEach [] X.env)).all (fun x=>x.1.isSome)
   && decide ((e :: es).length + ([]:List Keyword).length + (if ([]:List Keyword).isEmpty then 0 else 1) < 30)) = true:=by rfl)
  (hline:(apos.endLine == cpos.line) = true:=by rfl) (hs:starEach (e :: es) X.env = (false,eval e X.env) :: starEach es X.env:=by rfl) (hplain:(backTo cpos (starEach es X.env)).any (·.1) = false:=by rfl):
  PE X (.Call (.Attribute o name apos) (e :: es) [] cpos) (tBM X.K T r to t):=by
 intro pins s σ H Q I h
 refine wpAny_Call_method_late hbase hfew hline rfl (thn (ho pins s σ H _ I h) fun v s1 ⟨x,H1,I1,r1,ty,q1⟩=>?_)
 obtain ⟨h1,h2⟩:=tyV_is I1 r1 ty
 refine ⟨T,id,pa,slot,hty,h1,h2,?_⟩
 have hA:=ha cpos pins s1 σ H1 _ I1 q1
 rw [hs] at hA ⊢
 refine Calls.callWith_builtin (by show (false || (backTo cpos (starEach es X.env)).any (·.1)) = false; rw [hplain] <;> rfl) (Calls.evalArgs_plain ?_)
 exact thn hA fun us s2 ⟨vs,H2,I2,r2,q2⟩=>hm pins s2 σ H2 x vs v us Q I2 r1 r2 q2
end
def MtM (X:Cx) (id:String) (r:V -> List V -> Hp -> VK -> Prop):Prop:=
 ∀ (pins:List (Addr × Obj)) (s:Shared) (σ:St) (H:Hp) (x:V) (xs:List V) (v:Value) (us:List Value) (Q:VK),Inv X pins σ H s -> RelV x v -> Vals xs us -> r x xs H Q ->
  wpAny (model X.prog X.w) X.A (call (.builtin id) (v :: us)) (EP X pins σ Q) X.xe s
theorem Vals.one:∀ {x:V} {us:List Value},Vals [x] us -> ∃ u,us = [u] /\ RelV x u
 | _,_,.cons r .nil=>⟨_,rfl,r⟩
theorem Vals.two:∀ {x y:V} {us:List Value},Vals [x,y] us -> ∃ u v,us = [u,v] /\ RelV x u /\ RelV y v
 | _,_,_,.cons r (.cons q .nil)=>⟨_,_,rfl,r,q⟩
theorem Vals.zero:∀ {us:List Value},Vals [] us -> us = []
 | _,.nil=>rfl
theorem Vals.eraseIdx:∀ {xs:List V} {us:List Value} (i:Nat),Vals xs us -> Vals (xs.eraseIdx i) (us.eraseIdx i)
 | _,_,_,.nil=>.nil
 | _,_,0,.cons _ t=>t
 | _,_,i + 1,.cons r t=>.cons r (Vals.eraseIdx i t)
theorem Vals.rep {xs:List V} {us:List Value} (h:Vals xs us):∀ k:Nat,Vals (List.replicate k xs).flatten (List.replicate k us).flatten
 | 0=>.nil
 | k + 1=>by
  rw [List.replicate_succ,List.replicate_succ,List.flatten_cons,List.flatten_cons]
  exact Vals.append h (Vals.rep h k)
theorem len_erase {α:Type}:∀ (l:List α) (i:Nat),(l.eraseIdx i).length <= l.length
 | [],_=>Nat.le_refl _
 | _ :: _,0=>Nat.le_succ _
 | _ :: r,i + 1=>Nat.succ_le_succ (len_erase r i)
theorem foldl_rep (its:List Value):∀ (k:Nat) (acc:List Value),
  List.foldl (fun x1 x2=>x1 ++ x2) acc.toArray (List.replicate k its.toArray) = (acc ++ (List.replicate k its).flatten).toArray
 | 0,acc=>by simp
 | k + 1,acc=>by
  have e:acc.toArray ++ its.toArray = (acc ++ its).toArray:=by simp
  have e2:(acc ++ its) ++ (List.replicate k its).flatten = acc ++ (List.replicate (k + 1) its).flatten:=by
   rw [List.replicate_succ,List.flatten_cons,List.append_assoc]
  rw [<- e2,<- foldl_rep its k (acc ++ its),<- e,List.replicate_succ,List.foldl_cons]
section
variable {X:Cx} {pins:List (Addr × Obj)} {σ:St} {H:Hp} {s:Shared} {l b:Addr} {xs ys zs:List V}
theorem Inv.lset {its its':List Value} {n:Nat} {f:Array Value -> Array Value} {t':Nat} (I:Inv X pins σ H s) (hH:H l = some (.lst xs))
  (e:s.heap.get? l = some { cls:=.type "list",data:=.seq its.toArray n }) (hf:f its.toArray = its'.toArray) (hv:Vals ys its') (hz:ys.length <= sizeLine) (ht:0 < t':=by first | assumption | exact Nat.succ_pos _ | (apply Inv.tk; assumption) | omega):
  Inv X pins σ (upd H l (.lst ys)) { s with heap:=s.heap.update l (Obj.mapSeq f),toks:=t' }:=by
 have q:=PySem.IsL.update e f
 rw [hf] at q
 refine I.write (x:=l) (e:=l) (by rw [hH]; exact trivial) (.inl rfl) (fun b' u hb hu=>(Heap.get?_update_other s.heap (Obj.mapSeq f) (Ne.symm hb)).trans hu) ⟨_,q⟩ ?_
 exact ⟨hz,its',_,hv,q⟩
theorem Inv.lnew {its:List Value} {t':Nat} (I:Inv X pins σ H s) (hv:Vals ys its) (hz:ys.length <= sizeLine) (ht:0 < t':=by first | assumption | exact Nat.succ_pos _ | (apply Inv.tk; assumption) | omega):
  Inv X pins σ (upd H s.heap.objs.size (.lst ys)) { s with heap:=s.heap.push { cls:=.type "list",data:=.seq its.toArray },toks:=t' }:=
 I.laid (fun _ _ q=>Heap.get?_push_of_some _ q) (Nat.le_refl _) ⟨hz,its,0,hv,Heap.get?_push_size _ rfl⟩
theorem Inv.fresh (I:Inv X pins σ H s):H s.heap.objs.size = none:=I.hok.fresh (Nat.le_refl _)
theorem Inv.lstM (I:Inv X pins σ H s) (hH:H l = some (.lst xs)):xs.length <= sizeLine /\ ∃ (its:List Value) (n:Nat),Vals xs its /\ xs.length = its.length /\ s.heap.get? l = some { cls:=.type "list",data:=.seq its.toArray n }:=by
 obtain ⟨z,its,n,r,e⟩:=I.hok l _ hH
 exact ⟨z,its,n,r,r.length,e⟩
theorem notLongL {n:Nat} (h:n <= sizeLine):Builtin.List.listTooLong n = false:=by
 unfold Builtin.List.listTooLong
 exact decide_eq_false (by omega)
end
section
variable {X:Cx}
noncomputable def rAppend:V -> List V -> Hp -> VK -> Prop:=fun x vs H Q=>∃ l xs y,x = .ref l /\ vs = [y] /\ H l = some (.lst xs) /\ xs.length < sizeLine /\ Q .non (upd H l (.lst (xs ++ [y])))
theorem mt_append:MtM X "list.append" rAppend:=by
 intro pins s σ H x vs v us Q I rx rv h
 obtain ⟨l,xs,y,rfl,rfl,hH,hz,q⟩:=h
 cases rx
 obtain ⟨u,rfl,ru⟩:=rv.one
 obtain ⟨z,its,n,r,hl,e⟩:=I.lstM hH
 refine call_meets F.slot_list_append ⟨_,e,rfl⟩ F.entry_list_append (F.args_list_append_2 _ _) (PySem.list_append l its.toArray n u (by rw [List.size_toArray]; omega)) ⟨e,?_⟩
 refine ⟨.non,_,I.lset (its':=its ++ [u]) hH e (by simp) (r.append (.cons ru .nil)) ?_,rfl,q⟩
 rw [List.length_append,List.length_singleton]
 omega
noncomputable def rExtend:V -> List V -> Hp -> VK -> Prop:=fun x vs H Q=>∃ l b xs zs,x = .ref l /\ vs = [.ref b] /\ H l = some (.lst xs) /\ H b = some (.lst zs) /\ xs.length + zs.length <= sizeLine /\ Q .non (upd H l (.lst (xs ++ zs)))
theorem mt_extend:MtM X "list.extend" rExtend:=by
 intro pins s σ H x vs v us Q I rx rv h
 obtain ⟨l,b,xs,zs,rfl,rfl,hH,hB,hz,q⟩:=h
 cases rx
 obtain ⟨u,rfl,ru⟩:=rv.one
 cases ru
 obtain ⟨z,its,n,r,hl,e⟩:=I.lstM hH
 obtain ⟨z2,its2,n2,r2,hl2,e2⟩:=I.lstM hB
 have hsz:its.toArray.size + its2.toArray.size <= sizeLine:=by rw [List.size_toArray,List.size_toArray]; omega
 have hlong:¬ (!its.toArray.isEmpty && Builtin.List.listTooLong (its.toArray.size + its2.toArray.size)) = true:=by
  rw [notLongL hsz,Bool.and_false]
  exact Bool.false_ne_true
 refine call_meets F.slot_list_extend ⟨_,e,rfl⟩ F.entry_list_extend (F.args_list_extend_2 _ _)
  (AutoSeq1.list_extend_list_list_0 l its.toArray n b its2.toArray n2 hlong (by rw [List.size_toArray]; omega) (by omega)) ⟨e,e2,?_⟩
 refine ⟨.non,_,I.lset (its':=its ++ its2) hH e (by simp) (r.append r2) ?_,rfl,q⟩
 rw [List.length_append]
 omega
noncomputable def rPopAt:V -> List V -> Hp -> VK -> Prop:=fun x vs H Q=>∃ l xs i k y,x = .ref l /\ vs = [.int i] /\ H l = some (.lst xs) /\ -(2 ^ 63) <= i /\ i < 2 ^ 63 /\ seqIndex? i xs.length = some k /\ xs[k]? = some y /\ Q y (upd H l (.lst (xs.eraseIdx k)))
theorem mt_popAt:MtM X "list.pop" rPopAt:=by
 intro pins s σ H x vs v us Q I rx rv h
 obtain ⟨l,xs,i,k,y,rfl,rfl,hH,h1,h2,hk,hy,q⟩:=h
 cases rx
 obtain ⟨u,rfl,ru⟩:=rv.one
 obtain ⟨t,rfl⟩:=ru
 obtain ⟨z,its,n,r,hl,e⟩:=I.lstM hH
 obtain ⟨w,hw,rw'⟩:=r.get hy
 refine call_meets F.slot_list_pop ⟨_,e,rfl⟩ F.entry_list_pop (F.args_list_pop_2 _ _)
  (MeetsSeq.list_pop_at l its.toArray n i t k w (fitsIndex_both h1 h2) (by rw [List.size_toArray,<- hl]; exact hk) (by rw [<- Array.getElem?_toList]; exact hw) (by rw [List.size_toArray]; omega)) ⟨e,?_⟩
 refine ⟨y,_,I.lset (its':=its.eraseIdx k) hH e ?_ (r.eraseIdx k) ?_,rw',q⟩
 ·show its.toArray.eraseIdxIfInBounds k = (its.eraseIdx k).toArray
  rw [List.eraseIdxIfInBounds_toArray]
 ·have:=len_erase xs k
  omega
noncomputable def rCat:R2:=fun x y H Q=>∃ l b xs zs,x = .ref l /\ y = .ref b /\ H l = some (.lst xs) /\ H b = some (.lst zs) /\ xs.length + zs.length <= sizeLine /\ ∀ p,H p = none -> Q (.ref p) (upd H p (.lst (xs ++ zs)))
theorem op_cat:OpR X (binaryOp .Add) rCat:=by
 intro pins s σ H x y v u Q I rx ry h
 obtain ⟨l,b,xs,zs,rfl,rfl,hH,hB,hz,q⟩:=h
 cases rx
 cases ry
 obtain ⟨z,its,n,r,hl,e⟩:=I.lstM hH
 obtain ⟨z2,its2,n2,r2,hl2,e2⟩:=I.lstM hB
 refine PySem.P.add_list e e2 ?_ (by rw [List.size_toArray,List.size_toArray]; omega)
 have ea:its.toArray ++ its2.toArray = (its ++ its2).toArray:=by simp
 rw [ea]
 exact ⟨.ref _,_,I.lnew (t':=s.toks) (r.append r2) (by rw [List.length_append]; omega),rfl,q _ I.fresh⟩
noncomputable def rRep:R2:=fun x y H Q=>∃ l k xs,x = .ref l /\ y = .int k /\ H l = some (.lst xs) /\ -(2 ^ 63) <= k /\ k < 2 ^ 63 /\ xs.length * k.toNat <= sizeLine /\
 ∀ p,H p = none -> Q (.ref p) (upd H p (.lst (List.replicate k.toNat xs).flatten))
theorem len_rep {α:Type} (xs:List α) (k:Nat):(List.replicate k xs).flatten.length = k * xs.length:=by
 induction k with
 | zero=>simp
 | succ k ih=>rw [List.replicate_succ,List.flatten_cons,List.length_append,ih,Nat.succ_mul,Nat.add_comm]
theorem op_rep:OpR X (binaryOp .Mult) rRep:=by
 intro pins s σ H x y v u Q I rx ry h
 obtain ⟨l,k,xs,rfl,rfl,hH,h1,h2,hz,q⟩:=h
 cases rx
 obtain ⟨t,rfl⟩:=ry
 obtain ⟨z,its,n,r,hl,e⟩:=I.lstM hH
 have hlen:its.toArray.size * k.toNat <= sizeLine:=by rw [List.size_toArray,<- hl]; exact hz
 have hcap:¬ its.toArray.size * k.toNat > (2 ^ 63 - 1) / 8:=by
  have:(sizeLine:Nat) <= (2 ^ 63 - 1) / 8:=by decide
  omega
 have hfit:¬ (!Builtin.List.listFitsIndex k) = true:=by
  rw [fitsIndex_both h1 h2]
  exact Bool.false_ne_true
 have hlong:¬ Builtin.List.listTooLong (its.toArray.size * k.toNat) = true:=by
  rw [notLongL hlen]
  exact Bool.false_ne_true
 have hnew:List.foldl (fun x1 x2=>x1 ++ x2) #[] (List.replicate (if its.toArray.isEmpty = true then 0 else k.toNat) its.toArray) = (List.replicate k.toNat its).flatten.toArray:=by
  have f0:∀ m:Nat,List.foldl (fun x1 x2=>x1 ++ x2) #[] (List.replicate m its.toArray) = (List.replicate m its).flatten.toArray:=fun m=>by
   have:=foldl_rep its m []
   rw [List.nil_append] at this
   exact this
  rw [f0]
  cases its with
  | nil=>simp
  | cons a r'=>rw [if_neg (by simp)]
 refine wpAny_binaryOp_repeat_ref (T := "list") (U := "int") (by decide) ⟨_,e,rfl⟩ (fun s'=>typeIs_int s' k t) noFill_list_mul F.fills_int_mul F.slot_int_rmul repeat_list F.slot_int_index.lookup
  (call_meets F.slot_int_rmul (typeIs_int s k t) F.entry_int_rmul (F.args_int_rmul_2 _ _) (int___rmul___int_list k t l its.toArray n)
   ⟨e,rfl,⟨_,e,rfl⟩,call_meets F.slot_list_mul ⟨_,e,rfl⟩ F.entry_list_mul (F.args_list_mul_2 _ _) (AutoListH.list___mul___list_int_3 l its.toArray n k t hfit hcap hlong) ⟨e,?_⟩⟩)
 rw [hnew]
 exact ⟨.ref _,_,I.lnew (t':=s.toks) (r.rep k.toNat) (by rw [len_rep,Nat.mul_comm]; exact hz),rfl,q _ I.fresh⟩
end
section
variable {prog:Program} {w:World} {A:Around} {E:Value -> Shared -> Prop} {s:Shared}
end
section
variable {X:Cx}
end
end L2
namespace Att
open PySem PySem.W PySem.Calls PyProof.Rows
theorem ints_of_wellAll {P:Params} {h:Heap}:∀ (ns:List Int) (vs:List Value),WellAll P h vs (ns.map WData.int) -> IntsAre vs ns:=by
 intro ns
 induction ns with
 | nil=>
  intro vs w
  rw [List.map_nil] at w
  cases w
  exact .nil
 | cons n ns ih=>
  intro vs w
  rw [List.map_cons] at w
  cases w with
  | cons a b=>
   cases a
   exact .cons _ _ (ih _ b)
theorem script_of {l:OpenLaw} {n:Nat} (hn:l.most = some n) {P:Params} {h:Heap} {args:List WData} {vals:List Value}
  (hpre:l.row.toRowW.claim.pre args = true) (hwl:WellAll P h vals args):
  ∃ a vs ns,vals = [Value.ref a] /\ args = [WData.list (ns.map WData.int)] /\ h.get? a = some { cls:=.type "list",data:=.seq vs.toArray } /\ IntsAre vs ns /\ ns.length <= n:=by
 have hsh:WShape.hasAll [] args [.list .int] = true:=(pre_splitW hpre).1
 have hc:l.pre.holds [] { args:=args } = true:=(pre_splitW hpre).2
 obtain ⟨d,r,rfl,h1,h2⟩:=hasAllW_cons hsh
 obtain rfl:=hasAllW_nil h2
 obtain ⟨xs,rfl,h3⟩:=hasW_list h1
 obtain ⟨ns,rfl⟩:=items_int h3
 have hlen:ns.length <= n:=by
  unfold OpenLaw.pre at hc
  have h4:(WTm.not (.lt (.lit (.int (n:Int))) (.len (.arg 0)))).holds [] { args:=[.list (ns.map .int)] } = true:=by
   have h4:=(holds_andW hc).1
   rw [hn] at h4
   exact h4
  have h5:=condW_of h4 (w_not (w_lt w_lit (w_len_list (w_arg rfl))))
  rw [List.length_map] at h5
  refine Nat.le_of_not_lt fun q=>?_
  have q':(n:Int) < ((ns.length:Nat):Int):=by omega
  first
   | (rw [decide_eq_true q'] at h5; exact absurd h5 (by decide))
   | (simp at h5; omega)
 cases hwl with
 | cons w1 w2=>
  cases w2
  cases w1 with
  | list ho hall=>exact ⟨_,_,ns,rfl,rfl,ho,ints_of_wellAll ns _ hall,hlen⟩
theorem post_true (l:OpenLaw) (args:List WData):l.row.toRowW.claim.post args (.bool true) args = true:=
 postW_of (r:=l.row.toRowW) (X:=(true == true))
  (show WShape.has [] (.bool true) .bool = true by first | rfl | decide | simp [WShape.has,WShape.arms,WShape.armsAll])
  (show (WTm.eq .res (.lit (.bool true))).value [] { args:=args,res:=some (.bool true),after:=args } = some (.bool (true == true)) from w_eq_bool (w_res rfl) w_lit) rfl
section
variable {prog:Program} {w:World} {A:Around} {E:Value -> Shared -> Prop} {s:Shared} {K:Frag}
noncomputable def ledger (h:Heap) (L d:Addr):List (Addr × Obj):=(List.range h.objs.size).filterMap fun a=>if a = L \/ a = d then none else (h.get? a).map fun o=>(a,o)
end
end Att
namespace L2
open PySem PySem.Spec PyProof.Rows
theorem vals_ints:∀ {vs:List Value} {ns:List Int},IntsAre vs ns -> Vals (ns.map V.int) vs
 | _,_,.nil=>.nil
 | _,_,.cons n t h=>.cons ⟨t,rfl⟩ (vals_ints h)
def Only (H:Hp):Prop:=∀ b,H b = none \/ ∃ o xs,H b = some (.frz o (.lst xs))
theorem law_call {P:Program} {w:World} {K:Frag} {mg mb:Str -> Option Value} {CX:CXT} {k:Nat} {fa a:Addr} {fd:FuncData} {x:Str} {sp:Sp} {s₁:Shared} {vs:List Value} {ns:List Int}
  (KX:K.In s₁.heap) (hns:s₁.heap.Ns mainGlobals mg) (hb:s₁.heap.Ns builtinsNs mb) (hbb:∀ x:Str,x ≠ "__name__" -> mb x = bootBuiltins x) (hlim:s₁.heap.NoLimit) (hg:s₁.gens = #[]) (htk:0 < s₁.toks)
  (ha:s₁.heap.get? a = some { cls:=.type "list",data:=.seq vs.toArray }) (hi:IntsAre vs ns) (hl:ns.length <= sizeLine) (hr:Room k callerA)
  (F:∀ base:Heap,K.In base -> base.Ns mainGlobals mg -> FnOk P w K mg base CX k fa fd [x] sp) (hbind:∀ (s:Shared) (u:Value),BindsTo s fd ⟨[u],[]⟩ [(x,u)])
  (hsp:∀ H:Hp,Only H -> SqL K H a (ns.map V.int) -> sp [.ref a] H (fun v _=>v = .bl true) fun _ _ _=>False)
  (hCX:∀ H e s',CX [] H s₁ (fun _ _ _=>False) e s' -> False):
  codeAny (model P w) callerA (.call (.ref fa) ⟨[.ref a],[]⟩) (fun r s'=>r = .ok (.ret (.bool true)) /\ OldK s₁.heap s'.heap /\ s'.os = s₁.os /\ AllBare s'.gens) s₁:=by
 have rv:=vals_ints hi
 have lenV:=hi.length
 have core:∀ H:Hp,Only H -> SqL K H a (ns.map V.int) -> HOk P w H s₁.heap -> (∀ b,H b ≠ none -> b = a) -> (H a ≠ none -> K.lookup a = none) ->
   codeAny (model P w) callerA (.call (.ref fa) ⟨[.ref a],[]⟩) (fun r s'=>r = .ok (.ret (.bool true)) /\ OldK s₁.heap s'.heap /\ s'.os = s₁.os /\ AllBare s'.gens) s₁:=by
  intro H hO hS hok hA hK
  have base_of:∀ {b:Addr} {o:Obj},s₁.heap.get? b = some o -> H b = none -> (hidT s₁.heap H).get? b = some o:=fun e n=>hidT_get e n
  have noA:∀ {b:Addr} {o:Obj} {es:Array DictEntry} {ep:Nat},s₁.heap.get? b = some o -> o.data = .dict es ep -> H b = none:=fun {b o es ep} e d=>by
   cases q:H b with
   | none=>rfl
   | some u=>
    have e':b = a:=hA b (by rw [q]; simp)
    subst e'
    rw [ha] at e; cases e
    have d':Data.seq vs.toArray _ = Data.dict es ep:=d
    cases d'
  have nsK:∀ {b:Addr} {m:Str -> Option Value},s₁.heap.Ns b m -> (hidT s₁.heap H).Ns b m:=fun {b m} ⟨o,es,ep,e,d,r⟩=>⟨o,es,ep,base_of e (noA e d),d,r⟩
  have hKb:K.In (hidT s₁.heap H):=fun b o e=>base_of (KX b o e) (by
   cases q:H b with
   | none=>rfl
   | some u=>
    have e':b = a:=hA b (by rw [q]; simp)
    subst e'
    rw [hK (by rw [q]; simp)] at e; cases e)
  have hM:Mod K mg (hidT s₁.heap H):=⟨hKb,nsK hns,⟨mb,nsK hb,hbb⟩,let ⟨mc,h1,h2⟩:=hlim; ⟨mc,nsK h1,h2⟩⟩
  have e0:Env0 P w K mg (hidT s₁.heap H) callerA [] s₁ H:=⟨rfl,hM,fun b o e=>of_hidT e,Nat.le_of_eq (hidT_size _ _),trivial,fun b hb=>absurd (show b ∈ ([]:List Addr) from hb) (by simp),hok,.of_eq hg,htk⟩
  refine codeAny_mono ((F _ hKb (nsK hns)).run callerA [] s₁ H ⟨[.ref a],[]⟩ [.ref a] [.ref a] _ _ hr e0 (hbind s₁ (.ref a)) (.cons rfl .nil) (hsp H hO hS)) fun r s' h=>?_
  cases r with
  | error e=>exact (hCX H e s' h).elim
  | ok fl=>
   cases fl with
   | next=>exact False.elim h
   | brk=>exact False.elim h
   | cont=>exact False.elim h
   | ret u=>
    obtain ⟨v,H',_,os,bare,un,hok',r',q⟩:=h
    have q':v = .bl true:=q
    subst q'
    obtain rfl:u = Value.bool true:=r'
    refine ⟨rfl,OldK.of_keep fun b o e=>?_,os,bare⟩
    cases q:H b with
    | none=>exact un.keep b o e q (by intro z; exact absurd (show b ∈ ([]:List Addr) from z) (by simp)) (by simp)
    | some u=>
     rcases hO b with z | ⟨ob,xs,z⟩
     ·rw [q] at z; cases z
     ·have z2:=un.frzs b ob _ z
      obtain ⟨e1,_⟩:=hok b _ z
      obtain ⟨e2,_⟩:=hok' b _ z2
      rw [e] at e1; cases e1
      exact e2
 cases hk:K.lookup a with
 | some o=>
  have e:=KX a o hk
  rw [ha] at e
  cases e
  refine core (fun _=>none) (fun _=>.inl rfl) (.inr ⟨_,vs.toArray,_,hk,rfl,rfl,rfl,by rw [List.size_toArray,lenV]; exact hl,by simpa using rv⟩) (fun b u z=>by have z':(none:Option HO) = some u:=z; cases z') (fun b z=>absurd rfl z) fun z=>absurd rfl z
 | none=>
  refine core (fun b=>if b = a then some (.frz { cls:=.type "list",data:=.seq vs.toArray } (.lst (ns.map V.int))) else none) (fun b=>?_) (.inl (.inr ⟨{ cls:=.type "list",data:=.seq vs.toArray },if_pos rfl⟩)) (fun b u z=>?_) (fun b z=>?_) fun _=>hk
  ·by_cases hb:b = a
   ·exact .inr ⟨_,_,if_pos hb⟩
   ·exact .inl (if_neg hb)
  ·by_cases hb:b = a
   ·have z':=(if_pos hb).symm.trans z
    cases z'
    subst hb
    exact ⟨ha,by rw [List.length_map]; exact hl,vs,_,rv,ha⟩
   ·have z':=(if_neg hb).symm.trans z
    cases z'
  ·by_cases hb:b = a
   ·exact hb
   ·exact absurd (if_neg hb) z
noncomputable abbrev KOf {K:Frag} {h:Heap} (_:K.In h):Frag:=K
theorem attach_callX {l:PySem.W.OpenLaw} {n:Nat} {q:Program} {loose:List Str} {XP:(Str -> Option Value) -> Heap -> Prop} {α:Type} {Yf:Shared -> α} {Ya:World -> α} {d:DefRec}
  (hn:l.most = some n) (hdf:d.params.defaults = [])
  (call:∀ (w:World) (s₀ s₁:Shared) (mg mb:Str -> Option Value) (fa a:Addr) (vs:List Value) (ns:List Int),
   PySem.W.Ground q loose [] XP w s₀ mg mb s₁.heap -> Yf s₀ = Ya w -> (∀ b o,s₀.heap.get? b = some o -> s₁.heap.get? b = some o) -> s₀.toks <= s₁.toks -> mg d.name = some (.ref fa) ->
   s₁.heap.get? a = some { cls:=.type "list",data:=.seq vs.toArray } -> IntsAre vs ns -> ns.length <= n -> s₁.gens = #[] ->
   codeAny (model l.prog w) callerA (.call (.ref fa) ⟨[.ref a],[]⟩) (fun r s'=>r = .ok (.ret (.bool true)) /\ OldK s₁.heap s'.heap /\ s'.os = s₁.os /\ AllBare s'.gens) s₁):
  PySem.W.WalkX q loose XP Yf Ya l.row.toRowW d [] (fun f vs=>PySem.call f vs):=by
 intro w s₀ s₁ mg mb G Y fa o pm cd doc dV kV ho hd hcd hD hmg hg args vals as L hpre hlay hrd hwl hlo
 obtain ⟨a,vs,ns,rfl,rfl,hobj,hints,hlen⟩:=Att.script_of hn hpre hwl
 have ht:s₀.toks <= s₁.toks:=by
  obtain ⟨ord,_,e⟩:=L.laid
  exact (PySem.W.layAllW_grows _ _ _ e).toks
 refine PySem.W.enter_call (codeAny_mono (call w s₀ s₁ mg mb fa a vs ns G Y L.keeps ht hmg hobj hints hlen hg) fun r s' hq=>?_)
 obtain ⟨rfl,h2,h3,h4⟩:=hq
 exact ⟨.inl ⟨.bool true,.bool true,[],rfl,fun _=>rfl,.bool true,Att.post_true l _,fun _=>⟨List.Pairwise.nil,fun _ hm=>(nomatch hm)⟩⟩,h2,h3,h4⟩
theorem walk_ofX {l:PySem.W.OpenLaw} {n k:Nat} {q:Program} {loose:List Str} {XP:(Str -> Option Value) -> Heap -> Prop} {α:Type} {Yf:Shared -> α} {Ya:World -> α} {d:DefRec} {K:Params -> Frag} {CX:World -> CXT} {sp:World -> Sp} {x:Str}
  (hn:l.most = some n) (hn2:n <= sizeLine) (hdf:d.params.defaults = []) (hr:Room k callerA)
  (hY:∀ (w:World) (s:Shared),Yf s = Ya w -> (K w.params).In s.heap /\ 0 < s.toks)
  (F:∀ (w:World) (mg:Str -> Option Value) (fa:Addr) (h:Heap),(K w.params).In h -> h.Ns mainGlobals mg -> mg d.name = some (.ref fa) ->
   ∃ fd:FuncData,(∀ (s:Shared) (u:Value),BindsTo s fd ⟨[u],[]⟩ [(x,u)]) /\
    ∀ base:Heap,(K w.params).In base -> base.Ns mainGlobals mg -> FnOk l.prog w (K w.params) mg base (CX w) k fa fd [x] (sp w))
  (hsp:∀ (w:World) (H:Hp) (a:Addr) (ns:List Int),ns.length <= n -> Only H -> SqL (K w.params) H a (ns.map V.int) -> sp w [.ref a] H (fun v _=>v = .bl true) fun _ _ _=>False)
  (hCX:∀ (w:World) (H:Hp) (s:Shared) (e:Value) (s':Shared),CX w [] H s (fun _ _ _=>False) e s' -> False):
  PySem.W.WalkX q loose XP Yf Ya l.row.toRowW d [] (fun f vs=>PySem.call f vs):=by
 refine attach_callX hn hdf fun w s₀ s₁ mg mb fa a vs ns G Y kp ht hmg hobj hints hlen hg=>?_
 obtain ⟨K0,t0⟩:=hY w s₀ Y
 have KX:(K w.params).In s₁.heap:=fun b o e=>kp b o (K0 b o e)
 obtain ⟨fd,hb,hF⟩:=F w mg fa _ KX G.T.g hmg
 exact law_call KX G.T.g G.T.b G.T.builtins G.T.nolimit hg (Nat.lt_of_lt_of_le t0 ht) hobj hints (Nat.le_trans hlen hn2) hr hF hb (fun H hO hS=>hsp w H a ns hlen hO hS) fun H e s'=>hCX w H s₁ e s'
noncomputable def defArgs (s:Stmt):Arguments:=match s with
 | .FunctionDef _ a _ _ _ _ _ _ _ _=>a
 | _=>{ posonlyargs:=[],args:=[],vararg:=none,kwonlyargs:=[],kw_defaults:=[],kwarg:=none,defaults:=[] }
noncomputable def defBody (s:Stmt):List Stmt:=match s with
 | .FunctionDef _ _ b _ _ _ _ _ _ _=>b
 | _=>[]
noncomputable def defScope (s:Stmt):Scope:=match s with
 | .FunctionDef _ _ _ _ _ _ sc _ _ _=>sc
 | _=>{ kind:=.function,names:=[],isGenerator:=false,isCoroutine:=false }
noncomputable abbrev CX0:CXT:=fun _ _ _ _ _ _=>False
noncomputable abbrev E0:XK:=fun _ _ _=>False
theorem pass0 {X:Cx}:Passes CX0 X E0:=fun _ _ _ _ _ _ _ h=>h.elim
structure Fun (K:Frag) (x qual:Str) (st:Stmt) (f:Addr) (fd:FuncData):Prop where
 ex:∃ (oc:Value) (od:Option Addr) (kV doc pm:Value) (an:Option Addr) (cdv ct:Value) (osl:Array (Option Value)),
  fd = fnOf x qual (defArgs st) (defBody st) (defScope st) .none kV doc pm an cdv ct /\ K.lookup f = some ⟨oc,od,.func fd,osl⟩ /\ codeIn K cdv qual = true
 kp:keepIn K (.ref f) = true
section
variable {P:Program} {w:World} {K:Frag} {mg:Str -> Option Value} {base:Heap}
theorem Fun.ok {x qual:Str} {st:Stmt} {f:Addr} {fd:FuncData} {N ps:List Str} {k:Nat} {sp:Sp} (F:Fun K x qual st f fd) (S:FnScope N ps (defScope st)) (len:∀ vs H Q E,sp vs H Q E -> vs.length = ps.length)
  (hbody:∀ (cdv:Value) (A:Around) (outer:List Env) (s:Shared) (H:Hp) (vs:List V) (Q:VK) (E:XK),Room k (A.deeper (envOfC qual (defScope st) s.heap.objs.size f cdv)) -> sp vs H Q E ->
   ∃ t,PSs (cxOf CX0 P w K mg base N qual (defScope st) f cdv A outer s H E).nox (defBody st) t /\ t { nx:=fun _ H'=>Q .non H',rt:=Q } (start N vs) H):FnOk P w K mg base CX0 (k + 1) f fd ps sp:=by
 obtain ⟨oc,od,kV,doc,pm,an,cdv,ct,osl,rfl,lk,hcd⟩:=F.ex
 refine fn_of lk hcd S len fun A outer s H vs Q E hr hsp=>?_
 obtain ⟨t,h,q⟩:=hbody cdv A outer s H vs Q E hr hsp
 exact ⟨t,h.nox,q⟩
theorem Fun.binds {x qual:Str} {st:Stmt} {f:Addr} {fd:FuncData} {ps:List Str} (F:Fun K x qual st f fd)
  (h:∀ (kV doc pm:Value) (an:Option Addr) (cdv ct:Value) (us:List Value),us.length = ps.length -> bindArgs (fnOf x qual (defArgs st) (defBody st) (defScope st) .none kV doc pm an cdv ct) ⟨us,[]⟩ = pure (ps.zip us)):Binds K fd ps []:=by
 obtain ⟨oc,od,kV,doc,pm,an,cdv,ct,osl,rfl,lk,hcd⟩:=F.ex
 exact .all (h kV doc pm an cdv ct)
theorem fun_mk {x qual:Str} {st:Stmt} {f:Addr} {oc:Value} {od an:Option Addr} {osl:Array (Option Value)} {kV doc pm cdv ct:Value} (l:K.lookup f = some ⟨oc,od,.func (fnOf x qual (defArgs st) (defBody st) (defScope st) .none kV doc pm an cdv ct),osl⟩)
  (c:codeIn K cdv qual = true) (k:keepIn K (.ref f) = true):Fun K x qual st f (fnOf x qual (defArgs st) (defBody st) (defScope st) .none kV doc pm an cdv ct):=⟨⟨oc,od,kV,doc,pm,an,cdv,ct,osl,rfl,l,c⟩,k⟩
end
section
variable {X:Cx}
theorem pv (i:Nat) {x:Str} {pos:Pos} (hN:X.N[i]? = some x:=by rfl) (hv:Vis X.env.scope x:=by first | exact Or.inl rfl | exact Or.inr (Or.inl rfl) | exact Or.inr (Or.inr rfl)) (hd:(x == ("__debug__" : Str)) = false:=by decide)
  (hcd:(x == ("__classdict__" : Str)) = false:=by decide):PE X (.Name x pos) (tVar i):=pe_var hN hv hd hcd
end
theorem ite2 {c A B:Prop} [Decidable c] (h1:c -> A) (h2:¬ c -> B):if c then A else B:=by
 by_cases h:c
 ·rw [if_pos h]
  exact h1 h
 ·rw [if_neg h]
  exact h2 h
def Same (H H':Hp):Prop:=∀ b o,H b = some o -> H' b = some o
theorem Same.refl (H:Hp):Same H H:=fun _ _ h=>h
theorem Same.trans {H H1 H2:Hp} (a:Same H H1) (b:Same H1 H2):Same H H2:=fun c o h=>b c o (a c o h)
theorem Same.free {H H':Hp} (e:Same H H') {l:Addr} (h:H' l = Option.none):H l = Option.none:=by
 cases q:H l with
 | none=>rfl
 | some o=>
  rw [e l o q] at h
  cases h
theorem Same.seq {K:Frag} {H H':Hp} {a:Addr} {xs:List V} (e:Same H H') (h:SqL K H a xs):SqL K H' a xs:=by
 rcases h with (h | ⟨o,h⟩) | h
 ·exact .inl (.inl (e _ _ h))
 ·exact .inl (.inr ⟨o,e _ _ h⟩)
 ·exact .inr h
section
variable {X:Cx} {pins:List (Addr × Obj)} {σ:St} {H H':Hp} {s:Shared} {h':Heap}
theorem Inv.turnedL {t':Nat} {its:List Addr} (I:Inv X pins σ H s) (k:∀ b o,b ∉ its -> s.heap.get? b = some o -> h'.get? b = some o) (hf:∀ b ∈ its,FpOk X pins H b) (ht:0 < t':=by first | assumption | exact Nat.succ_pos _ | (apply Inv.tk; assumption) | omega):Inv X pins σ H { s with heap:=h',toks:=t' }:=by
 have nit:∀ b u,H b = some u -> b ∉ its:=fun b u e z=>by
  have q:=(hf b z).1
  rw [q] at e
  cases e
 refine I.step (g':=s.gens) (d':=s.drawn) (ch:=its) (fun b hb=>?_) (fun b o _ _ hc e _=>k b o hc e) (fun b o _ _ hc e _=>⟨o.slots,k b o hc e⟩) (fun _ _ _ _ n=>n)
  (fun b o hc e=>⟨o,k b o hc e⟩) (fun _ _ e=>e) (fun _ _ _ e=>e) (fun b ps e=>⟨#[],by rw [e]; simp⟩) (fun m hm=>?_) (fun b u e=>?_) I.bare
 ·obtain ⟨f0,f1,f2,f3,f4,f5⟩:=hf b hb
  exact ⟨f3,f1,f4,f5⟩
 ·obtain ⟨o,es,ep,ho,r⟩:=hm
  exact ⟨o,es,ep,k _ o (fun z=>(hf _ z).2.1 rfl) ho,r⟩
 ·refine (I.hok b u e).stay (fun c v hc q=>k c v ?_ q) (fun _ q=>q) fun _ _ q=>q
  rcases hc with z | z
  ·rw [z]; exact nit b u e
  ·exact nit c _ z
end
theorem strIter_no (x:Str):["enumerate", "zip", "dict_itemiterator", "dict_reverseitemiterator", "odict_iterator", "itertools.zip_longest", "itertools.pairwise"].contains (strIterType x) = false:=by
 unfold strIterType
 split <;> decide
section
variable {prog:Program} {w:World} {A:Around} {E:Value -> Shared -> Prop} {s:Shared}
theorem strIterType_cases (x:Str):strIterType x = "str_ascii_iterator" \/ strIterType x = "str_iterator" := by
 unfold strIterType
 split
 ·exact .inl rfl
 ·exact .inr rfl
theorem next_str_item {it:Addr} {x:Str} {t:Tok} {i c:Nat} {Q:Option Value -> Shared -> Prop} (hit:s.heap.IsStrIter it (strIterType x) x t i) (hx:x.cps[i]? = some c)
  (hQ:∀ h',h'.IsStrIter it (strIterType x) x t (i + 1) -> Heap.SameBut it s.heap h' -> Q (some (.str ⟨#[c]⟩ s.toks)) { s with heap:=h',toks:=s.toks + 1 }):
  wpAny (model prog w) A (pyNext (.ref it)) Q E s:=by
 rcases strIterType_cases x with e | e
 ·rw [e] at hit
  simp only [e] at hQ
  exact wpAny_pyNext_ascii_item hit hx hQ
 ·rw [e] at hit
  simp only [e] at hQ
  exact wpAny_pyNext_wide_item hit hx hQ
theorem next_str_end {it:Addr} {x:Str} {t:Tok} {i:Nat} {Q:Option Value -> Shared -> Prop} (hh:A.handled = none) (hit:s.heap.IsStrIter it (strIterType x) x t i) (hx:x.cps[i]? = none)
  (hQ:∀ h',Heap.ExtBut it s.heap h' -> Q none { s with heap:=h' }):wpAny (model prog w) A (pyNext (.ref it)) Q E s:=by
 rcases strIterType_cases x with e | e
 ·rw [e] at hit
  exact wpAny_pyNext_ascii_end hh hit hx hQ
 ·rw [e] at hit
  exact wpAny_pyNext_wide_end hh hit hx hQ
theorem iter_str_self {it:Addr} {x:Str} {t:Tok} {i:Nat} {Q:Value -> Shared -> Prop} (hit:s.heap.IsStrIter it (strIterType x) x t i) (h:Q (.ref it) s):wpAny (model prog w) A (pyIter (.ref it)) Q E s:=by
 rcases strIterType_cases x with e | e
 ·rw [e] at hit
  exact wpAny_pyIter_striter_ascii hit h
 ·rw [e] at hit
  exact wpAny_pyIter_striter_wide hit h
theorem nextOf_str_item {it:Addr} {x:Str} {t:Tok} {i c:Nat} {Q:Value -> Shared -> Prop} (hit:s.heap.IsStrIter it (strIterType x) x t i) (hx:x.cps[i]? = some c)
  (hQ:∀ h',h'.IsStrIter it (strIterType x) x t (i + 1) -> Heap.SameBut it s.heap h' -> Q (.str ⟨#[c]⟩ s.toks) { s with heap:=h',toks:=s.toks + 1 }):
  wpAny (model prog w) A (Builtin.SmallTypes.nextOf (.ref it)) Q E s:=by
 rcases strIterType_cases x with e | e
 ·rw [e] at hit
  simp only [e] at hQ
  exact wpAny_nextOf_ascii_item hit hx hQ
 ·rw [e] at hit
  simp only [e] at hQ
  exact wpAny_nextOf_wide_item hit hx hQ
theorem nextOf_str_end {it:Addr} {x:Str} {t:Tok} {i:Nat} {Q:Value -> Shared -> Prop} (hh:A.handled = none) (hit:s.heap.IsStrIter it (strIterType x) x t i) (hx:x.cps[i]? = none)
  (hE:∀ h' e,Heap.ExtBut it s.heap h' -> (∃ o,h'.get? e = some o /\ o.cls = .type "StopIteration") -> E (.ref e) { s with heap:=h' }):wpAny (model prog w) A (Builtin.SmallTypes.nextOf (.ref it)) Q E s:=by
 rcases strIterType_cases x with e | e
 ·rw [e] at hit
  exact wpAny_nextOf_ascii_end hh hit hx hE
 ·rw [e] at hit
  exact wpAny_nextOf_wide_end hh hit hx hE
end
noncomputable def Its (x:Str):It:=⟨fun i _=>i < x.cps.size,fun i H v H'=>H' = H /\ ∃ c,x.cps[i]? = some c /\ v = .str ⟨#[c]⟩,fun i _=>x.cps.size <= i⟩
theorem strIter_obj {h:Heap} {it:Addr} {ty:String} {x:Str} {t:Tok} {i:Nat} (st:h.IsStrIter it ty x t i):∃ o,h.get? it = some o /\ ∀ v,o.data ≠ .cell v:=by
 obtain ⟨o,e,c,d⟩:=st
 exact ⟨o,e,fun v z=>by rw [d] at z; cases z⟩
theorem turn_str {P:Program} {w:World} {K:Frag} {tg:Expr} (x:Str) (t:Tok) (it:Addr):Turn P w K tg (Its x) [it] it (fun i h=>h.IsStrIter it (strIterType x) x t i) where
 mem:=by simp
 obj:=fun i h st b hb=>by
  have e:b = it:=by simpa using hb
  subst e
  exact strIter_obj st
 keep:=fun i h h' st k=>by
  obtain ⟨o,e,r⟩:=st
  exact ⟨o,k it (by simp) o e,r⟩
 item:=by
  intro X hP hw hK hc i pins s σ H E I hf st hg
  subst hP hw hK
  have hi:i < x.cps.size:=hg
  refine next_str_item st (c:=x.cps[i]) (by simp [hi]) fun h' st' sb=>?_
  have I1:Inv X pins σ H { s with heap:=h',toks:=s.toks + 1 }:=I.turnedL (its:=[it]) (fun b o hb e=>(sb.2 b (by simpa using hb)).trans e) hf
  obtain ⟨o,e,c,d⟩:=id st'
  exact ⟨_,rfl,go_of (s:={ s with heap:=h',toks:=s.toks + 1 }) e c d (strIter_no x) ⟨.str ⟨#[x.cps[i]]⟩,H,I1,⟨_,rfl⟩,⟨rfl,_,by simp [hi],rfl⟩,st',fun b hb=>(hf b hb).1⟩⟩
 done:=by
  intro X hP hw hK hc i pins s σ H E I hf st hg
  subst hP hw hK
  have hi:x.cps.size <= i:=hg
  exact next_str_end (I.ok.hd hc) st (by simp [hi]) fun h' eb=>⟨rfl,I.turnedL (t':=s.toks) (its:=[it]) (fun b o hb e=>eb b o (by simpa using hb) e) hf⟩
 self:=fun _ _ _ _ _ st h=>iter_str_self st h
section
variable {X:Cx} {tg e:Expr} {te:TE}
end
theorem for_it {J:It} {n:Nat} {g:TG} {tb:TS} {D:Ends} {σ:St} {H:Hp} (Pv:Nat -> St -> Hp -> Prop) (h0:Pv 0 σ H) (hgo:∀ i σ H,i < n -> Pv i σ H -> J.go i H) (hst:∀ σ H,Pv n σ H -> J.stop n H)
  (hs:∀ i σ H x H',i < n -> Pv i σ H -> J.yld i H x H' -> g x σ H' fun σ2 H2=>tb { D with nx:=Pv (i + 1),ct:=Pv (i + 1),bk:=D.nx } σ2 H2) (hd:∀ σ H,Pv n σ H -> D.nx σ H):
  ∃ W:Nat -> Nat -> St -> Hp -> Prop,(∃ m,W 0 m σ H) /\ ∀ i m σ H,W i m σ H ->
   (J.stop i H /\ D.nx σ H) \/ (J.go i H /\ ∃ N:St -> Hp -> Prop,(∀ σ' H',N σ' H' -> ∃ m',m' < m /\ W (i + 1) m' σ' H') /\ ∀ x H',J.yld i H x H' -> g x σ H' fun σ2 H2=>tb { D with nx:=N,ct:=N,bk:=D.nx } σ2 H2):=by
 refine ⟨fun i m σ H=>m = n - i /\ i <= n /\ Pv i σ H,⟨n,by simp,Nat.zero_le _,h0⟩,?_⟩
 rintro i m σ H ⟨rfl,hi,p⟩
 by_cases hlt:i < n
 ·exact .inr ⟨hgo i σ H hlt p,Pv (i + 1),fun σ' H' p'=>⟨n - (i + 1),by omega,rfl,hlt,p'⟩,fun x H' y=>hs i σ H x H' hlt p y⟩
 ·have e:i = n:=by omega
  subst e
  exact .inl ⟨hst σ H p,hd σ H p⟩
structure Nx (prog:Program) (w:World) (A:Around) (it:Addr) (f:List Addr) (Sa Sb:Heap -> Prop) (P:Value -> Prop):Prop where
 fra:∀ h h',Sa h -> (∀ b ∈ f,∀ o,h.get? b = some o -> h'.get? b = some o) -> Sa h'
 frb:∀ h h',Sb h -> (∀ b ∈ f,∀ o,h.get? b = some o -> h'.get? b = some o) -> Sb h'
 step:∀ (s:Shared) (Q:Value -> Shared -> Prop) (E:Value -> Shared -> Prop),Sa s.heap -> (∀ x h' tk,P x -> Sb h' -> Heap.SameBut it s.heap h' -> Q x { s with heap:=h',toks:=tk }) -> wpAny (model prog w) A (Builtin.SmallTypes.nextOf (.ref it)) Q E s
structure Nd (prog:Program) (w:World) (A:Around) (it:Addr) (f:List Addr) (Sa:Heap -> Prop):Prop where
 fra:∀ h h',Sa h -> (∀ b ∈ f,∀ o,h.get? b = some o -> h'.get? b = some o) -> Sa h'
 step:∀ (s:Shared) (Q:Value -> Shared -> Prop) (E:Value -> Shared -> Prop),Sa s.heap -> (∀ h' e,Heap.ExtBut it s.heap h' -> (∃ o,h'.get? e = some o /\ o.cls = .type "StopIteration") -> E (.ref e) { s with heap:=h' }) -> wpAny (model prog w) A (Builtin.SmallTypes.nextOf (.ref it)) Q E s
structure ZAp (z TI TO i1 i2:Addr):Prop where
 TIz:TI ≠ z
 TOz:TO ≠ z
 i1z:i1 ≠ z
 i2z:i2 ≠ z
 TITO:TI ≠ TO
 TIi1:TI ≠ i1
 TIi2:TI ≠ i2
 TOi1:TO ≠ i1
 TOi2:TO ≠ i2
 i12:i1 ≠ i2
section
variable {prog:Program} {w:World} {A:Around} {E:Value -> Shared -> Prop} {s:Shared}
theorem zip_next_itemN {z TI TO i1 i2:Addr} {f1 f2:List Addr} {Sa Sb Sc Sd:Heap -> Prop} {P1 P2:Value -> Prop} {a b:Value} {Q:Value -> Shared -> Prop} (D:ZAp z TI TO i1 i2)
  (n1:Nx prog w A i1 f1 Sa Sb P1) (n2:Nx prog w A i2 f2 Sc Sd P2) (hf1:∀ c ∈ f1,c ≠ z /\ c ≠ TO /\ c ≠ i2) (hf2:∀ c ∈ f2,c ≠ z /\ c ≠ TO /\ c ≠ i1)
  (hz:IsZip s.heap z TI TO .none) (hTI:IsPair s.heap TI (.ref i1) (.ref i2)) (hTO:IsPair s.heap TO a b) (h1:Sa s.heap) (h2:Sc s.heap)
  (hQ:∀ x y h' tk,P1 x -> P2 y -> IsZip h' z TI TO (rawInt s.heap.objs.size) -> IsPair h' TO x y -> Sb h' -> Sd h' -> IsPair h' s.heap.objs.size x y -> h'.objs.size = s.heap.objs.size + 1 ->
   (∀ c o,c ≠ z -> c ≠ TO -> c ≠ i1 -> c ≠ i2 -> s.heap.get? c = some o -> h'.get? c = some o) -> Q (.ref s.heap.objs.size) { s with heap:=h',toks:=tk }):
  wpAny (model prog w) A (Builtin.«zip.__next__» ⟨[.ref z],[]⟩) (fun fin s'=>∃ v,fin = .done (.ret v) /\ Q v s') E s:=by
 obtain ⟨hp,gs,dr,k0,os⟩:=s
 refine wpAny_bind (m:=slotArgs "__next__" 0 _) (wpAny_of_eq (a:=(Value.ref _,[])) rfl ?_)
 refine wpAny_bind (m:=field _ 2) (wpAny_field hz rfl (x:=Value.bool false) rfl (wpAny_bind (m:=field _ 3) (wpAny_field hz rfl (x:=Value.ref TI) rfl (wpAny_bind (m:=seqItems? _) (wpAny_seqItems hTI rfl ?_)))))
 refine wpAny_bind (m:=Builtin.SmallTypes.ownedTupleIsFree _) (wpAny_bind (wpAny_field hz rfl (x:=Value.none) rfl (wpAny_pure ?_)))
 refine wpAny_bind (wpAny_rule (wpAny_bind (wpAny_field hz rfl (x:=Value.ref TO) rfl (wpAny_bind (wpAny_setField_rec hz (by simp) fun g1 zg sg=>wpAny_bind ?_)))))
 simp only [List.zipIdx_cons,List.zipIdx_nil,List.forIn_cons,List.forIn_nil]
 have zg:IsZip g1 z TI TO .ellipsis:=zg
 have sg:Heap.SameBut z hp g1:=sg
 refine wpAny_bind (wpAny_bind (wpAny_onRaise (wpAny_bind (m:=Builtin.SmallTypes.nextOf (.ref i1)) (n1.step _ _ _ (n1.fra hp g1 h1 fun c hc o=>sg.extBut _ _ (hf1 c hc).1) fun x g2 k1 p1 b2 t2=>wpAny_pure ?_))))
 have t2:Heap.SameBut i1 g1 g2:=t2
 have o2:IsPair g2 TO a b:=t2.extBut _ _ D.TOi1 (sg.extBut _ _ D.TOz hTO)
 refine wpAny_bind (wpAny_seqItems o2 rfl (wpAny_bind (wpAny_updateSeq_pair o2 fun g3 o3 t3=>wpAny_bind (wpAny_letGo (wpAny_pure ?_)))))
 have o3:IsPair g3 TO x b:=o3
 have t3:Heap.SameBut TO g2 g3:=t3
 have to3:∀ c o,c ≠ z -> c ≠ TO -> c ≠ i1 -> hp.get? c = some o -> g3.get? c = some o:=fun c o e1 e2 e3 q=>t3.extBut _ _ e2 (t2.extBut _ _ e3 (sg.extBut _ _ e1 q))
 refine wpAny_bind (wpAny_bind (wpAny_onRaise (wpAny_bind (m:=Builtin.SmallTypes.nextOf (.ref i2)) (n2.step _ _ _ (n2.fra hp g3 h2 fun c hc o=>to3 c o (hf2 c hc).1 (hf2 c hc).2.1 (hf2 c hc).2.2) fun y g4 k2 p2 b4 t4=>wpAny_pure ?_))))
 have t4:Heap.SameBut i2 g3 g4:=t4
 have o4:IsPair g4 TO x b:=t4.extBut _ _ D.TOi2 o3
 refine wpAny_bind (wpAny_seqItems o4 rfl (wpAny_bind (wpAny_updateSeq_pair o4 fun g5 o5 t5=>wpAny_bind (wpAny_letGo (wpAny_pure (wpAny_pure ?_))))))
 have o5:IsPair g5 TO x y:=o5
 have t5:Heap.SameBut TO g4 g5:=t5
 have size5:g5.objs.size = hp.objs.size:=t5.1.trans (t4.1.trans (t3.1.trans (t2.1.trans sg.1)))
 have z5:IsZip g5 z TI TO .ellipsis:=t5.extBut _ _ D.TOz.symm (t4.extBut _ _ D.i2z.symm (t3.extBut _ _ D.TOz.symm (t2.extBut _ _ D.i1z.symm zg)))
 have zlt:z < g5.objs.size:=Heap.lt_size z5
 refine wpAny_bind (wpAny_seqItems o5 rfl (wpAny_bind (wpAny_newTuple (wpAny_bind (m:=Builtin.SmallTypes.ownedTupleHandOut _ _) ?_))))
 refine wpAny_bind (wpAny_setField_rec (Heap.get?_push_of_some _ z5) (by simp) fun g6 z6 t6=>wpAny_setField_rec z6 (by simp) fun g7 z7 t7=>wpAny_pure ⟨_,rfl,?_⟩)
 have t6:Heap.SameBut z (g5.push { cls:=.type "tuple",data:=.seq #[x,y] }) g6:=t6
 have t7:Heap.SameBut z g6 g7:=t7
 have z7:IsZip g7 z TI TO (rawInt g5.objs.size):=z7
 have over:∀ c o,c ≠ z -> g5.get? c = some o -> g7.get? c = some o:=fun c o e q=>t7.extBut _ _ e (t6.extBut _ _ e (Heap.get?_push_of_some _ q))
 have pair7:IsPair g7 g5.objs.size x y:=t7.extBut _ _ (Nat.ne_of_gt zlt) (t6.extBut _ _ (Nat.ne_of_gt zlt) (Heap.get?_push_size _ rfl))
 have size7:g7.objs.size = g5.objs.size + 1:=t7.1.trans (t6.1.trans (Heap.size_push ..))
 show Q (.ref g5.objs.size) _
 rw [size5] at z7 pair7 size7 ⊢
 refine hQ x y g7 k2 p1 p2 z7 (over _ _ D.TOz o5) (n1.frb g2 g7 b2 fun c hc o q=>?_) (n2.frb g4 g7 b4 fun c hc o q=>?_) pair7 size7 fun c o e1 e2 e3 e4 q=>over c o e1 (t5.extBut _ _ e2 (t4.extBut _ _ e4 (to3 c o e1 e2 e3 q)))
 ·obtain ⟨e1,e2,e3⟩:=hf1 c hc
  exact over c o e1 (t5.extBut _ _ e2 (t4.extBut _ _ e3 (t3.extBut _ _ e2 q)))
 ·obtain ⟨e1,e2,_⟩:=hf2 c hc
  exact over c o e1 (t5.extBut _ _ e2 q)
theorem zip_next_end1 {z TI TO i1 i2:Addr} {f1:List Addr} {Sa:Heap -> Prop} {Q:Fin -> Shared -> Prop} (D:ZAp z TI TO i1 i2)
  (n1:Nd prog w A i1 f1 Sa) (hf1:∀ c ∈ f1,c ≠ z /\ c ≠ TO /\ c ≠ i2)
  (hz:IsZip s.heap z TI TO .none) (hTI:IsPair s.heap TI (.ref i1) (.ref i2)) (h1:Sa s.heap)
  (hE:∀ h' e tk,(∀ c o,c ≠ z -> c ≠ TO -> c ≠ i1 -> c ≠ i2 -> s.heap.get? c = some o -> h'.get? c = some o) -> (∃ o,h'.get? e = some o /\ o.cls = .type "StopIteration") -> E (.ref e) { s with heap:=h',toks:=tk }):
  wpAny (model prog w) A (Builtin.«zip.__next__» ⟨[.ref z],[]⟩) Q E s:=by
 obtain ⟨hp,gs,dr,k0,os⟩:=s
 refine wpAny_bind (m:=slotArgs "__next__" 0 _) (wpAny_of_eq (a:=(Value.ref _,[])) rfl ?_)
 refine wpAny_bind (m:=field _ 2) (wpAny_field hz rfl (x:=Value.bool false) rfl (wpAny_bind (m:=field _ 3) (wpAny_field hz rfl (x:=Value.ref TI) rfl (wpAny_bind (m:=seqItems? _) (wpAny_seqItems hTI rfl ?_)))))
 refine wpAny_bind (m:=Builtin.SmallTypes.ownedTupleIsFree _) (wpAny_bind (wpAny_field hz rfl (x:=Value.none) rfl (wpAny_pure ?_)))
 refine wpAny_bind (wpAny_rule (wpAny_bind (wpAny_field hz rfl (x:=Value.ref TO) rfl (wpAny_bind (wpAny_setField_rec hz (by simp) fun g1 zg sg=>wpAny_bind ?_)))))
 simp only [List.zipIdx_cons,List.zipIdx_nil,List.forIn_cons,List.forIn_nil]
 have zg:IsZip g1 z TI TO .ellipsis:=zg
 have sg:Heap.SameBut z hp g1:=sg
 refine wpAny_bind (wpAny_bind (wpAny_onRaise (wpAny_bind (m:=Builtin.SmallTypes.nextOf (.ref i1)) (n1.step _ _ _ (n1.fra hp g1 h1 fun c hc o=>sg.extBut _ _ (hf1 c hc).1) fun g2 e t2 ⟨oe,qe,ce⟩=>?_))))
 have t2:Heap.ExtBut i1 g1 g2:=t2
 have z2:IsZip g2 z TI TO .ellipsis:=t2 _ _ D.i1z.symm zg
 have ne:e ≠ z:=fun q=>by subst q; rw [z2] at qe; cases qe; simp at ce
 refine wpAny_setField_rec z2 (by simp) fun g3 _ t3=>?_
 have t3:Heap.SameBut z g2 g3:=t3
 exact hE g3 e k0 (fun c o e1 _ e3 _ q=>t3.extBut _ _ e1 (t2 _ _ e3 (sg.extBut _ _ e1 q))) ⟨oe,t3.extBut _ _ ne qe,ce⟩
theorem zip_next_end2 {z TI TO i1 i2:Addr} {f1 f2:List Addr} {Sa Sb Sc:Heap -> Prop} {P1:Value -> Prop} {a b:Value} {Q:Fin -> Shared -> Prop} (D:ZAp z TI TO i1 i2)
  (n1:Nx prog w A i1 f1 Sa Sb P1) (n2:Nd prog w A i2 f2 Sc) (hf1:∀ c ∈ f1,c ≠ z /\ c ≠ TO /\ c ≠ i2) (hf2:∀ c ∈ f2,c ≠ z /\ c ≠ TO /\ c ≠ i1)
  (hz:IsZip s.heap z TI TO .none) (hTI:IsPair s.heap TI (.ref i1) (.ref i2)) (hTO:IsPair s.heap TO a b) (h1:Sa s.heap) (h2:Sc s.heap)
  (hE:∀ h' e tk,(∀ c o,c ≠ z -> c ≠ TO -> c ≠ i1 -> c ≠ i2 -> s.heap.get? c = some o -> h'.get? c = some o) -> (∃ o,h'.get? e = some o /\ o.cls = .type "StopIteration") -> E (.ref e) { s with heap:=h',toks:=tk }):
  wpAny (model prog w) A (Builtin.«zip.__next__» ⟨[.ref z],[]⟩) Q E s:=by
 obtain ⟨hp,gs,dr,k0,os⟩:=s
 refine wpAny_bind (m:=slotArgs "__next__" 0 _) (wpAny_of_eq (a:=(Value.ref _,[])) rfl ?_)
 refine wpAny_bind (m:=field _ 2) (wpAny_field hz rfl (x:=Value.bool false) rfl (wpAny_bind (m:=field _ 3) (wpAny_field hz rfl (x:=Value.ref TI) rfl (wpAny_bind (m:=seqItems? _) (wpAny_seqItems hTI rfl ?_)))))
 refine wpAny_bind (m:=Builtin.SmallTypes.ownedTupleIsFree _) (wpAny_bind (wpAny_field hz rfl (x:=Value.none) rfl (wpAny_pure ?_)))
 refine wpAny_bind (wpAny_rule (wpAny_bind (wpAny_field hz rfl (x:=Value.ref TO) rfl (wpAny_bind (wpAny_setField_rec hz (by simp) fun g1 zg sg=>wpAny_bind ?_)))))
 simp only [List.zipIdx_cons,List.zipIdx_nil,List.forIn_cons,List.forIn_nil]
 have zg:IsZip g1 z TI TO .ellipsis:=zg
 have sg:Heap.SameBut z hp g1:=sg
 refine wpAny_bind (wpAny_bind (wpAny_onRaise (wpAny_bind (m:=Builtin.SmallTypes.nextOf (.ref i1)) (n1.step _ _ _ (n1.fra hp g1 h1 fun c hc o=>sg.extBut _ _ (hf1 c hc).1) fun x g2 k1 p1 b2 t2=>wpAny_pure ?_))))
 have t2:Heap.SameBut i1 g1 g2:=t2
 have o2:IsPair g2 TO a b:=t2.extBut _ _ D.TOi1 (sg.extBut _ _ D.TOz hTO)
 refine wpAny_bind (wpAny_seqItems o2 rfl (wpAny_bind (wpAny_updateSeq_pair o2 fun g3 _ t3=>wpAny_bind (wpAny_letGo (wpAny_pure ?_)))))
 have t3:Heap.SameBut TO g2 g3:=t3
 have to3:∀ c o,c ≠ z -> c ≠ TO -> c ≠ i1 -> hp.get? c = some o -> g3.get? c = some o:=fun c o e1 e2 e3 q=>t3.extBut _ _ e2 (t2.extBut _ _ e3 (sg.extBut _ _ e1 q))
 refine wpAny_bind (wpAny_bind (wpAny_onRaise (wpAny_bind (m:=Builtin.SmallTypes.nextOf (.ref i2)) (n2.step _ _ _ (n2.fra hp g3 h2 fun c hc o=>to3 c o (hf2 c hc).1 (hf2 c hc).2.1 (hf2 c hc).2.2) fun g4 e t4 ⟨oe,qe,ce⟩=>?_))))
 have t4:Heap.ExtBut i2 g3 g4:=t4
 have z4:IsZip g4 z TI TO .ellipsis:=t4 _ _ D.i2z.symm (t3.extBut _ _ D.TOz.symm (t2.extBut _ _ D.i1z.symm zg))
 have ne:e ≠ z:=fun q=>by subst q; rw [z4] at qe; cases qe; simp at ce
 refine wpAny_setField_rec z4 (by simp) fun g5 _ t5=>?_
 have t5:Heap.SameBut z g4 g5:=t5
 exact hE g5 e k1 (fun c o e1 e2 e3 e4 q=>t5.extBut _ _ e1 (t4 _ _ e4 (to3 c o e1 e2 e3 q))) ⟨oe,t5.extBut _ _ ne qe,ce⟩
theorem pyNext_zip_item {z:Addr} {o:Obj} {Q:Option Value -> Shared -> Prop} (hz:s.heap.get? z = some o) (hc:o.cls = .type "zip")
  (h:wpAny (model prog w) A.in1 (Builtin.«zip.__next__» ⟨[.ref z],[]⟩) (fun fin s'=>∃ v,fin = .done (.ret v) /\ Q (some v) s') (fun _ _=>False) s):wpAny (model prog w) A (pyNext (.ref z)) Q E s:=by
 have hT:s.TypeIs (.ref z) "zip" := ⟨_,hz,hc⟩
 unfold pyNext
 exact wpAny_bind (wpAny_attempt (wpAny_callSpecial?_slot (name:=Str.ofString "__next__") hT F.slot_zip_next
  (wpAny_call_entry F.slot_zip_next hT F.entry_zip_next (wpAny_mono h (fun fin s' ⟨v,e,q⟩=>⟨v,e,wpAny_pure q⟩) fun _ _ f=>f.elim) (F.args_zip_next_1 _))))
theorem pyNext_zip_end {z:Addr} {o:Obj} {Q:Option Value -> Shared -> Prop} (hz:s.heap.get? z = some o) (hc:o.cls = .type "zip")
  (h:wpAny (model prog w) A.in1 (Builtin.«zip.__next__» ⟨[.ref z],[]⟩) (fun _ _=>False) (fun e s'=>∃ a,e = .ref a /\ (∃ o,s'.heap.get? a = some o /\ o.cls = .type "StopIteration") /\ Q none s') s):wpAny (model prog w) A (pyNext (.ref z)) Q E s:=by
 have hT:s.TypeIs (.ref z) "zip" := ⟨_,hz,hc⟩
 unfold pyNext
 refine wpAny_bind (wpAny_attempt (wpAny_callSpecial?_slot (name:=Str.ofString "__next__") hT F.slot_zip_next
  (wpAny_call_entry F.slot_zip_next hT F.entry_zip_next (wpAny_mono h (fun _ _ f=>f.elim) fun e s' he=>?_) (F.args_zip_next_1 _))))
 obtain ⟨a,rfl,⟨o,ho,hc⟩,q⟩:=he
 refine wpAny_bind (wpAny_isInstance (T := "StopIteration") (b:=true) ⟨o,ho,hc⟩ isSubtype_stop ?_)
 exact wpAny_pure q
end
inductive Src where
 | str (x:Str) | lst (a:Addr)
noncomputable def SrcGo (K:Frag) (H:Hp):Src -> Nat -> Prop
 | .str x,i=>i < x.cps.size
 | .lst a,i=>∃ xs v,SqL K H a xs /\ xs[i]? = some v
noncomputable def SrcAt (K:Frag) (H:Hp):Src -> Nat -> V -> Prop
 | .str x,i,v=>∃ c,x.cps[i]? = some c /\ v = .str ⟨#[c]⟩
 | .lst a,i,v=>∀ xs,SqL K H a xs -> xs[i]? = some v
noncomputable def SrcEnd (K:Frag) (H:Hp):Src -> Nat -> Prop
 | .str x,i=>x.cps.size <= i
 | .lst a,i=>∃ xs,SqL K H a xs /\ xs.length <= i
noncomputable def SrcIt (h:Heap):Src -> Addr -> Nat -> Prop
 | .str x,it,i=>∃ t,h.IsStrIter it (strIterType x) x t i
 | .lst a,it,i=>h.IsListIter it a i
noncomputable def SrcOf (K:Frag) (H:Hp):Src -> V -> Prop
 | .str x,v=>v = .str x
 | .lst a,v=>v = .ref a /\ ∃ xs,SqL K H a xs
theorem SrcIt.obj {h:Heap} {S:Src} {it:Addr} {i:Nat} (st:SrcIt h S it i):∃ o,h.get? it = some o /\ (∀ v,o.data ≠ .cell v) /\ o.cls ≠ .type "list" /\ o.cls ≠ .type "zip" /\ o.cls ≠ .type "tuple" := by
 cases S with
 | str x=>
  obtain ⟨t,o,e,c,d⟩:=st
  refine ⟨o,e,(fun v z=>by rw [d] at z; cases z),?_⟩
  rw [c]
  rcases strIterType_cases x with q | q <;> rw [q] <;> decide
 | lst a=>
  obtain ⟨o,e,c,d⟩:=(show h.IsListIter it a i from st)
  refine ⟨o,e,(fun v z=>by rw [d] at z; cases z),?_⟩
  rw [c]
  decide
theorem SrcIt.keep {h h':Heap} {S:Src} {it:Addr} {i:Nat} (st:SrcIt h S it i) (k:∀ o,h.get? it = some o -> h'.get? it = some o):SrcIt h' S it i:=by
 cases S with
 | str x=>
  obtain ⟨t,o,e,r⟩:=st
  exact ⟨t,o,k o e,r⟩
 | lst a=>exact Heap.IsListIter.at (show h.IsListIter it a i from st) k
section
variable {X:Cx} {pins:List (Addr × Obj)} {σ:St} {H:Hp} {s:Shared} {A:Around}
theorem src_nx (I:Inv X pins σ H s) (S:Src) {it:Addr} {i:Nat} (st:SrcIt s.heap S it i) (go:SrcGo X.K H S i):
  ∃ (f:List Addr) (Sa Sb:Heap -> Prop) (P:Value -> Prop),Nx X.prog X.w A it f Sa Sb P /\ Sa s.heap /\ (∀ c ∈ f,c = it \/ ∃ o,s.heap.get? c = some o /\ o.cls = .type "list") /\ (∀ h,Sb h -> SrcIt h S it (i + 1)) /\ ∀ v,P v -> ∃ x,RelV x v /\ SrcAt X.K H S i x:=by
 cases S with
 | str x=>
  obtain ⟨t,st⟩:=st
  have hi:i < x.cps.size:=go
  refine ⟨[it],fun h=>h.IsStrIter it (strIterType x) x t i,fun h=>h.IsStrIter it (strIterType x) x t (i + 1),fun v=>∃ u,v = .str ⟨#[x.cps[i]]⟩ u,⟨?_,?_,?_⟩,st,fun c hc=>.inl (by simpa using hc),fun h q=>⟨t,q⟩,?_⟩
  ·rintro h h' ⟨o,e,r⟩ k
   exact ⟨o,k it (by simp) o e,r⟩
  ·rintro h h' ⟨o,e,r⟩ k
   exact ⟨o,k it (by simp) o e,r⟩
  ·intro s Q E st hQ
   exact nextOf_str_item st (c:=x.cps[i]) (by simp [hi]) fun h' st' sb=>hQ _ h' _ ⟨_,rfl⟩ st' sb
  ·rintro v ⟨u,rfl⟩
   exact ⟨.str ⟨#[x.cps[i]]⟩,⟨u,rfl⟩,_,by simp [hi],rfl⟩
 | lst a=>
  obtain ⟨xs,v,hq,hv⟩:=go
  obtain ⟨its,rv,pl,hz⟩:=I.list hq
  obtain ⟨u,hu,ru⟩:=rv.get hv
  have st':s.heap.IsListIter it a i:=st
  obtain ⟨o,e,c,n,hd⟩:=id pl.isList
  have hne:a ≠ it:=by
   rintro rfl
   obtain ⟨o',e',c',_⟩:=st'
   rw [e] at e'
   cases e'
   rw [c] at c'
   exact absurd c' (by decide)
  refine ⟨[it,a],fun h=>h.IsListIter it a i /\ h.IsList a its.toArray,fun h=>h.IsListIter it a (i + 1) /\ h.IsList a its.toArray,fun z=>z = u,⟨?_,?_,?_⟩,⟨st',pl.isList⟩,?_,fun h q=>q.1,?_⟩
  ·rintro h h' ⟨s1,s2⟩ k
   exact ⟨s1.at fun o e=>k it (by simp) o e,s2.at fun o e=>k a (by simp) o e⟩
  ·rintro h h' ⟨s1,s2⟩ k
   exact ⟨s1.at fun o e=>k it (by simp) o e,s2.at fun o e=>k a (by simp) o e⟩
  ·intro s Q E st hQ
   exact wpAny_nextOf_list_item st.1 st.2 (x:=u) (by simpa using hu) fun h' st' sb=>hQ _ h' s.toks rfl ⟨st',st.2.extBut sb.extBut hne⟩ sb
  ·intro c' hc
   rcases (by simpa using hc:c' = it \/ c' = a) with z | z
   ·exact .inl z
   ·subst z
    exact .inr ⟨o,e,c⟩
  ·rintro z rfl
   exact ⟨v,ru,fun ys hy=>by rw [I.list_inj hy hq]; exact hv⟩
theorem src_nd (I:Inv X pins σ H s) (hh:A.handled = none) (S:Src) {it:Addr} {i:Nat} (st:SrcIt s.heap S it i) (en:SrcEnd X.K H S i):
  ∃ (f:List Addr) (Sa:Heap -> Prop),Nd X.prog X.w A it f Sa /\ Sa s.heap /\ (∀ c ∈ f,c = it \/ ∃ o,s.heap.get? c = some o /\ o.cls = .type "list"):=by
 cases S with
 | str x=>
  obtain ⟨t,st⟩:=st
  have hi:x.cps.size <= i:=en
  refine ⟨[it],fun h=>h.IsStrIter it (strIterType x) x t i,⟨?_,?_⟩,st,fun c hc=>.inl (by simpa using hc)⟩
  ·rintro h h' ⟨o,e,r⟩ k
   exact ⟨o,k it (by simp) o e,r⟩
  ·intro s Q E st hE
   exact nextOf_str_end hh st (by simp [hi]) hE
 | lst a=>
  obtain ⟨xs,hq,hv⟩:=en
  obtain ⟨its,rv,pl,hz⟩:=I.list hq
  have st':s.heap.IsListIter it a i:=st
  obtain ⟨o,e,c,n,hd⟩:=id pl.isList
  have hl:=rv.length
  refine ⟨[it,a],fun h=>h.IsListIter it a i /\ h.IsList a its.toArray,⟨?_,?_⟩,⟨st',pl.isList⟩,?_⟩
  ·rintro h h' ⟨s1,s2⟩ k
   exact ⟨s1.at fun o e=>k it (by simp) o e,s2.at fun o e=>k a (by simp) o e⟩
  ·intro s Q E st hE
   exact wpAny_nextOf_list_end hh st.1 st.2 (by simp; omega) hE
  ·intro c' hc
   rcases (by simpa using hc:c' = it \/ c' = a) with z | z
   ·exact .inl z
   ·subst z
    exact .inr ⟨o,e,c⟩
theorem Inv.turnedLaid {t':Nat} {its:List Addr} {h':Heap} {a:Addr} {o:HO} (I:Inv X pins σ H s) (k:∀ b ob,b ∉ its -> s.heap.get? b = some ob -> h'.get? b = some ob) (hf:∀ b ∈ its,FpOk X pins H b) (hp:s.heap.objs.size <= a)
  (new:ObjOk X.prog X.w (upd H a o) h' a o) (ht:0 < t':=by first | assumption | exact Nat.succ_pos _ | (apply Inv.tk; assumption) | omega):Inv X pins σ (upd H a o) { s with heap:=h',toks:=t' }:=by
 have hn:H a = none:=I.hok.fresh hp
 have nit:∀ b u,H b = some u -> b ∉ its:=fun b u e z=>by
  have q:=(hf b z).1
  rw [q] at e
  cases e
 have nea:∀ b ob,s.heap.get? b = some ob -> b ≠ a:=fun b ob e=>Nat.ne_of_lt (Nat.lt_of_lt_of_le (Heap.lt_size e) hp)
 refine I.step (g':=s.gens) (d':=s.drawn) (ch:=its) (fun b hb=>?_) (fun b o _ _ hc e _=>k b o hc e) (fun b o _ _ hc e _=>⟨o.slots,k b o hc e⟩) (fun b ob _ e n=>by rw [upd_ne (nea b ob e)]; exact n)
  (fun b o hc e=>⟨o,k b o hc e⟩) (fun _ _ e=>by rw [upd_ne (ne_of_none e hn)]; exact e) (fun _ _ _ e=>by rw [upd_ne (ne_of_none e hn)]; exact e) (fun b ps e=>⟨#[],by rw [upd_ne (ne_of_none e hn),e]; simp⟩) (fun m hm=>?_) (fun b u e=>?_) I.bare
 ·obtain ⟨f0,f1,f2,f3,f4,f5⟩:=hf b hb
  exact ⟨f3,f1,f4,f5⟩
 ·obtain ⟨o,es,ep,ho,r⟩:=hm
  exact ⟨o,es,ep,k _ o (fun z=>(hf _ z).2.1 rfl) ho,r⟩
 ·by_cases hb:b = a
  ·subst hb
   rw [upd_same] at e
   cases e
   exact new
  ·rw [upd_ne hb] at e
   refine (I.hok b u e).stay (fun c v hc q=>k c v ?_ q) (fun c q=>by rw [upd_ne (ne_of_none q hn)]; exact q) fun c xs q=>by rw [upd_ne (ne_of_none q hn)]; exact q
   rcases hc with z | z
   ·rw [z]; exact nit b u e
   ·exact nit c _ z
end
noncomputable def Itz (K:Frag) (S1 S2:Src):It:=⟨fun i H=>SrcGo K H S1 i /\ SrcGo K H S2 i,fun i H v H'=>∃ T x y,v = .ref T /\ H T = none /\ H' = upd H T (.tup [x,y]) /\ SrcAt K H S1 i x /\ SrcAt K H S2 i y,
 fun i H=>SrcEnd K H S1 i \/ (SrcGo K H S1 i /\ SrcEnd K H S2 i)⟩
def ZipSt (z TI TO i1 i2:Addr) (S1 S2:Src) (i:Nat) (h:Heap):Prop:=∃ a b,IsZip h z TI TO .none /\ IsPair h TI (.ref i1) (.ref i2) /\ IsPair h TO a b /\ SrcIt h S1 i1 i /\ SrcIt h S2 i2 i
theorem off_of {h:Heap} {f:List Addr} {z TI TO i1 i2:Addr} {a b:Value} {S2:Src} {k:Nat} (hz:IsZip h z TI TO .none) (hTO:IsPair h TO a b) (h2:SrcIt h S2 i2 k) (n1:i1 ≠ z) (n2:i1 ≠ TO) (n3:i1 ≠ i2)
  (m:∀ c ∈ f,c = i1 \/ ∃ o,h.get? c = some o /\ o.cls = .type "list"):∀ c ∈ f,c ≠ z /\ c ≠ TO /\ c ≠ i2:=fun c hc=>by
 rcases m c hc with e | ⟨o,e,c1⟩
 ·subst e
  exact ⟨n1,n2,n3⟩
 ·refine ⟨?_,?_,?_⟩
  ·rintro rfl
   rw [hz] at e
   cases e
   exact absurd (show Value.type "zip" = Value.type "list" from c1) (by decide)
  ·rintro rfl
   rw [hTO] at e
   cases e
   exact absurd (show Value.type "tuple" = Value.type "list" from c1) (by decide)
  ·rintro rfl
   obtain ⟨o',e',_,q,_⟩:=h2.obj
   rw [e] at e'
   cases e'
   exact q c1
theorem turn_zip {P:Program} {w:World} {K:Frag} {elts:List Expr} {kk:Nat} {pos:Pos} {z TI TO i1 i2:Addr} (D:ZAp z TI TO i1 i2) (S1 S2:Src):
  Turn P w K (.Tuple elts kk pos) (Itz K S1 S2) [z,TI,TO,i1,i2] z (ZipSt z TI TO i1 i2 S1 S2) where
 mem:=by simp
 obj:=fun i h st b hb=>by
  obtain ⟨a,c,hz,hTI,hTO,h1,h2⟩:=st
  simp only [List.mem_cons,List.not_mem_nil,or_false] at hb
  rcases hb with rfl | rfl | rfl | rfl | rfl
  ·exact ⟨_,hz,fun v q=>by have q':Data.fields _ = Data.cell v:=q; cases q'⟩
  ·exact ⟨_,hTI,fun v q=>by have q':Data.seq _ _ = Data.cell v:=q; cases q'⟩
  ·exact ⟨_,hTO,fun v q=>by have q':Data.seq _ _ = Data.cell v:=q; cases q'⟩
  ·obtain ⟨o,e,q,_⟩:=h1.obj
   exact ⟨o,e,q⟩
  ·obtain ⟨o,e,q,_⟩:=h2.obj
   exact ⟨o,e,q⟩
 keep:=fun i h h' st k=>by
  obtain ⟨a,c,hz,hTI,hTO,h1,h2⟩:=st
  exact ⟨a,c,k z (by simp) _ hz,k TI (by simp) _ hTI,k TO (by simp) _ hTO,h1.keep fun o e=>k i1 (by simp) o e,h2.keep fun o e=>k i2 (by simp) o e⟩
 item:=by
  intro X hP hw hK hc i pins s σ H E I hf st hg
  subst hP hw hK
  obtain ⟨a,b,hz,hTI,hTO,h1,h2⟩:=st
  obtain ⟨g1,g2⟩:=hg
  obtain ⟨f1,Sa,Sb,P1,n1,a1,m1,b1,r1⟩:=src_nx (A:=X.A.in1) I S1 h1 g1
  obtain ⟨f2,Sc,Sd,P2,n2,a2,m2,b2,r2⟩:=src_nx (A:=X.A.in1) I S2 h2 g2
  refine tokQ I.tk (pyNext_zip_item hz rfl (zip_next_itemN D n1 n2 (off_of hz hTO h2 D.i1z D.TOi1.symm D.i12 m1) (off_of hz hTO h1 D.i2z D.TOi2.symm D.i12.symm m2) hz hTI hTO a1 a2 fun x y h' tk p1 p2 z1 z2 q1 q2 z3 z4 kp (htk:0 < tk)=>?_))
  obtain ⟨vx,rx,ax⟩:=r1 x p1
  obtain ⟨vy,ry,ay⟩:=r2 y p2
  have fresh:H s.heap.objs.size = none:=I.hok.fresh (Nat.le_refl _)
  have off:∀ {c o},s.heap.get? c = some o -> c ≠ s.heap.objs.size:=fun e=>Nat.ne_of_lt (Heap.lt_size e)
  refine ⟨_,rfl,wpAny_letOwnedTupleGo_zip z1 fun h'' z1' sb=>?_⟩
  replace sb:Heap.SameBut z h' h'':=sb
  have hT:IsPair h'' s.heap.objs.size x y:=sb.extBut _ _ (Ne.symm (off hz)) z3
  have I1:Inv X pins σ (upd H s.heap.objs.size (.tup [vx,vy])) { s with heap:=h'',toks:=tk }:=by
   refine I.turnedLaid (its:=[z,TO,i1,i2]) (fun c o hc' e=>?_) (fun c hc'=>hf c ?_) (Nat.le_refl _) ?_
   ·simp only [List.mem_cons,List.not_mem_nil,or_false,not_or] at hc'
    exact sb.extBut _ _ hc'.1 (kp c o hc'.1 hc'.2.1 hc'.2.2.1 hc'.2.2.2 e)
   ·simp only [List.mem_cons,List.not_mem_nil,or_false] at hc' ⊢
    rcases hc' with q | q | q | q
    ·exact .inl q
    ·exact .inr (.inr (.inl q))
    ·exact .inr (.inr (.inr (.inl q)))
    ·exact .inr (.inr (.inr (.inr q)))
   ·exact ⟨by show 2 <= sizeLine; decide,[x,y],.cons rx (.cons ry .nil),_,hT,rfl,_,rfl⟩
  refine ⟨.ref s.heap.objs.size,_,I1,rfl,⟨_,vx,vy,rfl,fresh,rfl,ax,ay⟩,⟨x,y,z1',?_,?_,?_,?_⟩,fun c hc'=>?_⟩
  ·exact sb.extBut _ _ D.TIz (kp _ _ D.TIz D.TITO D.TIi1 D.TIi2 hTI)
  ·exact sb.extBut _ _ D.TOz z2
  ·exact (b1 h' q1).keep fun o e=>sb.extBut _ _ D.i1z e
  ·exact (b2 h' q2).keep fun o e=>sb.extBut _ _ D.i2z e
  ·have ne:c ≠ s.heap.objs.size:=by
    simp only [List.mem_cons,List.not_mem_nil,or_false] at hc'
    rcases hc' with rfl | rfl | rfl | rfl | rfl
    ·exact off hz
    ·exact off hTI
    ·exact off hTO
    ·obtain ⟨o,e,_⟩:=h1.obj
     exact off e
    ·obtain ⟨o,e,_⟩:=h2.obj
     exact off e
   rw [upd_ne ne]
   exact (hf c hc').1
 done:=by
  intro X hP hw hK hc i pins s σ H E I hf st hg
  subst hP hw hK
  obtain ⟨a,b,hz,hTI,hTO,h1,h2⟩:=st
  have hh:X.A.in1.handled = none:=I.ok.hd hc
  have fin:∀ (h':Heap) (tk:Nat),0 < tk -> (∀ c o,c ≠ z -> c ≠ TO -> c ≠ i1 -> c ≠ i2 -> s.heap.get? c = some o -> h'.get? c = some o) -> Inv X pins σ H { s with heap:=h',toks:=tk }:=fun h' tk htk kp=>
   I.turnedL (its:=[z,TO,i1,i2]) (fun c o hc' e=>by
    simp only [List.mem_cons,List.not_mem_nil,or_false,not_or] at hc'
    exact kp c o hc'.1 hc'.2.1 hc'.2.2.1 hc'.2.2.2 e) (fun c hc'=>hf c (by
    simp only [List.mem_cons,List.not_mem_nil,or_false] at hc' ⊢
    rcases hc' with q | q | q | q
    ·exact .inl q
    ·exact .inr (.inr (.inl q))
    ·exact .inr (.inr (.inr (.inl q)))
    ·exact .inr (.inr (.inr (.inr q)))))
  rcases hg with e1 | ⟨g1,e2⟩
  ·obtain ⟨f1,Sa,n1,a1,m1⟩:=src_nd I hh S1 h1 e1
   exact tokQ I.tk (pyNext_zip_end hz rfl (zip_next_end1 D n1 (off_of hz hTO h2 D.i1z D.TOi1.symm D.i12 m1) hz hTI a1 fun h' e tk kp he=>⟨e,rfl,he,fun htk=>⟨rfl,fin h' tk htk kp⟩⟩))
  ·obtain ⟨f1,Sa,Sb,P1,n1,a1,m1,b1,r1⟩:=src_nx (A:=X.A.in1) I S1 h1 g1
   obtain ⟨f2,Sc,n2,a2,m2⟩:=src_nd I hh S2 h2 e2
   exact tokQ I.tk (pyNext_zip_end hz rfl (zip_next_end2 D n1 n2 (off_of hz hTO h2 D.i1z D.TOi1.symm D.i12 m1) (off_of hz hTO h1 D.i2z D.TOi2.symm D.i12.symm m2) hz hTI hTO a1 a2 fun h' e tk kp he=>⟨e,rfl,he,fun htk=>⟨rfl,fin h' tk htk kp⟩⟩))
 self:=fun _ _ _ _ _ st h=>by
  obtain ⟨a,b,hz,_⟩:=st
  exact wpAny_pyIter_zip hz h
noncomputable def srcVal:Src -> Tok -> Value
 | .str x,t=>.str x t
 | .lst a,_=>.ref a
noncomputable def srcObj:Src -> Tok -> Obj
 | .str x,t=>{ cls:=.type (strIterType x),data:=.fields #[.str x t,.int 0 0] }
 | .lst a,_=>{ cls:=.type "list_iterator",data:=.fields #[.ref a,.int 0 0] }
noncomputable def srcOk (h:Heap):Src -> Prop
 | .str _=>True
 | .lst a=>∃ its,h.IsList a its
theorem srcOk.push {h:Heap} {S:Src} (ok:srcOk h S) (o:Obj):srcOk (h.push o) S:=by
 cases S with
 | str x=>trivial
 | lst a=>
  obtain ⟨its,q⟩:=ok
  exact ⟨its,Heap.IsList.push q _⟩
theorem srcObj_freed (S:Src) (t:Tok):(srcObj S t).isFreed = false:=by cases S <;> rfl
theorem srcObj_it {h:Heap} {S:Src} {t:Tok} {it:Addr} (e:h.get? it = some (srcObj S t)):SrcIt h S it 0:=by
 cases S with
 | str x=>exact ⟨t,_,e,rfl,rfl⟩
 | lst a=>exact ⟨_,e,rfl,rfl⟩
section
variable {prog:Program} {w:World} {A:Around} {E:Value -> Shared -> Prop} {s:Shared}
theorem pyIter_src {S:Src} {t:Tok} {Q:Value -> Shared -> Prop} (ok:srcOk s.heap S) (hQ:Q (.ref s.heap.objs.size) { s with heap:=s.heap.push (srcObj S t) }):wpAny (model prog w) A (pyIter (srcVal S t)) Q E s:=by
 cases S with
 | str x=>exact wpAny_pyIter_strU hQ
 | lst a=>
  obtain ⟨its,q⟩:=ok
  exact wpAny_pyIter_list q hQ
end
noncomputable abbrev zH1 (h:Heap) (S1:Src) (t1:Tok):Heap:=h.push (srcObj S1 t1)
noncomputable abbrev zH2 (h:Heap) (S1 S2:Src) (t1 t2:Tok):Heap:=(zH1 h S1 t1).push (srcObj S2 t2)
noncomputable abbrev zH3 (h:Heap) (S1 S2:Src) (t1 t2:Tok):Heap:=(zH2 h S1 S2 t1 t2).push { cls:=.type "tuple",data:=.seq #[.ref h.objs.size,.ref (zH1 h S1 t1).objs.size] }
noncomputable abbrev zH4 (h:Heap) (S1 S2:Src) (t1 t2:Tok):Heap:=(zH3 h S1 S2 t1 t2).push { cls:=.type "tuple",data:=.seq #[.none,.none] }
noncomputable abbrev zH5 (h:Heap) (S1 S2:Src) (t1 t2:Tok):Heap:=(zH4 h S1 S2 t1 t2).push { cls:=.type "zip",data:=.fields #[.none,.bool false,.bool false,.ref (zH2 h S1 S2 t1 t2).objs.size,.ref (zH3 h S1 S2 t1 t2).objs.size] }
theorem meets_zip_newS (S1 S2:Src) (t1 t2:Tok):
  Meets (Builtin.«zip.__new__» ⟨[.type "zip",srcVal S1 t1,srcVal S2 t2],[]⟩) (fun _ R s=>srcOk s.heap S1 /\ srcOk s.heap S2 /\
   R (.ok (.ret (.ref (zH4 s.heap S1 S2 t1 t2).objs.size))) { s with heap:=zH5 s.heap S1 S2 t1 t2 }):=
 .of_wp fun prog w A R s h=>by
  obtain ⟨hp,g,d,tk,os⟩:=s; obtain ⟨hl1,hl2,h⟩:=h
  have hsub:=sub_zip
  have hL1:srcOk (Shared.heap ⟨hp,g,d,tk,os⟩) S1:=hl1
  have hL2:srcOk (Shared.heap ⟨hp.push (srcObj S1 t1),g,d,tk,os⟩) S2:=hl2.push _
  wp_walk using pyIter_src hL1,pyIter_src hL2
  exact ⟨_,rfl,h⟩
section
variable {prog:Program} {w:World} {A:Around} {E:Value -> Shared -> Prop} {s:Shared}
theorem call_zipS {S1 S2:Src} {t1 t2:Tok} {Q:Value -> Shared -> Prop} (hl1:srcOk s.heap S1) (hl2:srcOk s.heap S2)
  (h:∀ h',ZipSt (s.heap.objs.size + 4) (s.heap.objs.size + 2) (s.heap.objs.size + 3) s.heap.objs.size (s.heap.objs.size + 1) S1 S2 0 h' -> (∀ c o,s.heap.get? c = some o -> h'.get? c = some o) -> Q (.ref (s.heap.objs.size + 4)) { s with heap:=h' }):
  wpAny (model prog w) A (call (.type "zip") [srcVal S1 t1,srcVal S2 t2]) Q E s:=by
 refine callType_new F.called_zip (by decide) (F.typeCall_zip_2 _ _) (F.newCall_zip_2 _ _) (fun obj=>F.args_object_init_3 obj _ _) F.entry_zip_new
  (meets_zip_newS S1 S2 t1 t2) ⟨hl1,hl2,?_⟩
 have z1:(zH1 s.heap S1 t1).objs.size = s.heap.objs.size + 1:=Heap.size_push ..
 have z2:(zH2 s.heap S1 S2 t1 t2).objs.size = s.heap.objs.size + 2:=by rw [Heap.size_push,z1]
 have z3:(zH3 s.heap S1 S2 t1 t2).objs.size = s.heap.objs.size + 3:=by rw [Heap.size_push,z2]
 have z4:(zH4 s.heap S1 S2 t1 t2).objs.size = s.heap.objs.size + 4:=by rw [Heap.size_push,z3]
 have g5:(zH5 s.heap S1 S2 t1 t2).get? (zH4 s.heap S1 S2 t1 t2).objs.size = some _:=Heap.get?_push_size _ rfl
 have g4:(zH5 s.heap S1 S2 t1 t2).get? (zH3 s.heap S1 S2 t1 t2).objs.size = some _:=Heap.get?_push_of_some _ (Heap.get?_push_size _ rfl)
 have g3:(zH5 s.heap S1 S2 t1 t2).get? (zH2 s.heap S1 S2 t1 t2).objs.size = some _:=Heap.get?_push_of_some _ (Heap.get?_push_of_some _ (Heap.get?_push_size _ rfl))
 have g2:(zH5 s.heap S1 S2 t1 t2).get? (zH1 s.heap S1 t1).objs.size = some (srcObj S2 t2):=Heap.get?_push_of_some _ (Heap.get?_push_of_some _ (Heap.get?_push_of_some _ (Heap.get?_push_size _ (srcObj_freed _ _))))
 have g1:(zH5 s.heap S1 S2 t1 t2).get? s.heap.objs.size = some (srcObj S1 t1):=Heap.get?_push_of_some _ (Heap.get?_push_of_some _ (Heap.get?_push_of_some _ (Heap.get?_push_of_some _ (Heap.get?_push_size _ (srcObj_freed _ _)))))
 show _ /\ _
 rw [z2,z3,z4] at g5
 rw [z1,z2] at g3
 rw [z3] at g4
 rw [z1] at g2
 rw [z4]
 exact ⟨⟨_,g5,rfl⟩,h _ ⟨_,_,g5,g3,g4,srcObj_it g1,srcObj_it g2⟩ fun c o x=>
  Heap.get?_push_of_some _ (Heap.get?_push_of_some _ (Heap.get?_push_of_some _ (Heap.get?_push_of_some _ (Heap.get?_push_of_some _ x))))⟩
theorem zap_new (n:Nat):ZAp (n + 4) (n + 2) (n + 3) n (n + 1):=by
 constructor <;> exact fun h=>absurd (show (_:Nat) = _ from h) (by omega)
end
section
variable {X:Cx}
theorem srcOf_val {pins:List (Addr × Obj)} {σ:St} {H:Hp} {s:Shared} {S:Src} {v:V} {u:Value} (I:Inv X pins σ H s) (h:SrcOf X.K H S v) (r:RelV v u):∃ t,u = srcVal S t /\ srcOk s.heap S:=by
 cases S with
 | str x=>
  have e:v = .str x:=h
  subst e
  obtain ⟨t,rfl⟩:=r
  exact ⟨t,rfl,trivial⟩
 | lst a=>
  obtain ⟨e,xs,hq⟩:=h
  subst e
  cases r
  obtain ⟨its,rv,pl,hz⟩:=I.list hq
  exact ⟨0,rfl,_,pl.isList⟩
theorem boot_zip:bootBuiltins "zip" = some (.type "zip"):=by decide +kernel
end
noncomputable def clOf (cells:List (Str × Addr)):List (Str × NameKind) -> List (Str × Addr) -> List (Str × Addr)
 | [],cs=>cs
 | (n,k) :: r,cs=>clOf cells r (if (k == NameKind.free) = true then (n,(cells.lookup n).getD 0) :: cs else cs)
theorem closureFor_some {scope:Scope} {env:Env} (h:∀ y ∈ scope.names,y.2 = .free -> ∃ c,env.cells.lookup y.1 = some c):closureFor scope env = pure (clOf env.cells scope.names []):=by
 unfold closureFor
 have key:∀ (names:List (Str × NameKind)) (cs:List (Str × Addr)),(∀ y ∈ names,y.2 = .free -> ∃ c,env.cells.lookup y.1 = some c) ->
   (forIn names cs (fun x r=>match x with
    | (name,kind)=>if (kind == NameKind.free) = true then (do let __do_lift <- cellOf env name; pure (ForInStep.yield ((name,__do_lift) :: r))) else pure (ForInStep.yield r)):Sem (List (Str × Addr))) = pure (clOf env.cells names cs):=by
  intro names
  induction names with
  | nil=>intro cs _; rfl
  | cons y r ih=>
   intro cs hy
   obtain ⟨n,k⟩:=y
   rw [List.forIn_cons]
   have hr:∀ y ∈ r,y.2 = .free -> ∃ c,env.cells.lookup y.1 = some c:=fun y hm=>hy y (List.mem_cons_of_mem _ hm)
   cases hk:(k == NameKind.free) with
   | true=>
    have hk':k = .free:=by simpa using hk
    obtain ⟨c,hc⟩:=hy (n,k) List.mem_cons_self hk'
    have ec:cellOf env n = pure c:=by unfold cellOf; rw [hc]
    have e1:(clOf env.cells ((n,k) :: r) cs) = clOf env.cells r ((n,c) :: cs):=by
     show clOf env.cells r (if (k == NameKind.free) = true then (n,(env.cells.lookup n).getD 0) :: cs else cs) = _
     rw [hk,if_pos rfl,show env.cells.lookup n = some c from hc]
     rfl
    rw [e1,<- ih _ hr]
    simp only [ec,hk,if_true,pure_bind]
   | false=>
    have e1:(clOf env.cells ((n,k) :: r) cs) = clOf env.cells r cs:=by
     show clOf env.cells r (if (k == NameKind.free) = true then (n,(env.cells.lookup n).getD 0) :: cs else cs) = _
     rw [hk,if_neg Bool.false_ne_true]
    rw [e1,<- ih _ hr]
    simp only [hk,Bool.false_eq_true,if_false,pure_bind]
 have q:=key scope.names [] h
 first
  | exact q
  | (simp only [bind_pure]; exact q)
  | (rw [q]; rfl)
theorem clOf_sound {cells:List (Str × Addr)} {x:Str} {c:Addr}:∀ (names:List (Str × NameKind)) (cs:List (Str × Addr)),(∀ y ∈ names,y.2 = .free -> ∃ c,cells.lookup y.1 = some c) -> (∀ x c,cs.lookup x = some c -> cells.lookup x = some c) ->
  (clOf cells names cs).lookup x = some c -> cells.lookup x = some c
 | [],cs,_,h,e=>h x c e
 | (n,k) :: r,cs,hn,h,e=>by
  unfold clOf at e
  refine clOf_sound r _ (fun y hm=>hn y (List.mem_cons_of_mem _ hm)) (fun x c q=>?_) e
  split at q
  ·rename_i hk
   have hk':k = .free:=by simpa using hk
   obtain ⟨c',hc⟩:=hn (n,k) List.mem_cons_self hk'
   rw [List.lookup_cons] at q
   cases hx:(x == n) with
   | true=>
    rw [hx] at q
    have hx':x = n:=by simpa using hx
    subst hx'
    rw [hc] at q
    simp at q
    rw [hc,q]
   | false=>
    rw [hx] at q
    exact h x c q
  ·exact h x c q
theorem clOf_keeps {cells:List (Str × Addr)} {x:Str}:∀ (names:List (Str × NameKind)) (cs:List (Str × Addr)),(cs.lookup x).isSome = true -> ((clOf cells names cs).lookup x).isSome = true
 | [],cs,h=>h
 | (n,k) :: r,cs,h=>by
  unfold clOf
  refine clOf_keeps r _ ?_
  split
  ·rw [List.lookup_cons]
   split
   ·rfl
   ·exact h
  ·exact h
theorem clOf_has {cells:List (Str × Addr)} {x:Str}:∀ (names:List (Str × NameKind)) (cs:List (Str × Addr)),(x,NameKind.free) ∈ names -> ((clOf cells names cs).lookup x).isSome = true
 | [],_,h=>by cases h
 | (n,k) :: r,cs,h=>by
  unfold clOf
  rcases List.mem_cons.mp h with e | e
  ·cases e
   refine clOf_keeps r _ ?_
   simp
  ·exact clOf_has r _ e
theorem lookup_relabel (env:Env) (x:Str):∀ names:List (Str × NameKind),
  (names.map fun (n,k)=>if (k == NameKind.free && env.scope.kind == .function && env.kindOf n == some .cell) then (n,NameKind.cell) else (n,k)).lookup x =
   (names.lookup x).map fun k=>if (k == NameKind.free && env.scope.kind == .function && env.kindOf x == some .cell) = true then .cell else k
 | []=>rfl
 | (n,k) :: r=>by
  have ih:=lookup_relabel env x r
  simp only [List.map_cons]
  cases hx:(x == n) with
  | true=>
   have hx':x = n:=by simpa using hx
   subst hx'
   by_cases hc:(k == NameKind.free && env.scope.kind == .function && env.kindOf x == some .cell) = true
   ·rw [if_pos hc,List.lookup_cons,List.lookup_cons,hx]
    show some NameKind.cell = some (if (k == NameKind.free && env.scope.kind == .function && env.kindOf x == some .cell) = true then NameKind.cell else k)
    rw [if_pos hc]
   ·rw [if_neg hc,List.lookup_cons,List.lookup_cons,hx]
    show some k = some (if (k == NameKind.free && env.scope.kind == .function && env.kindOf x == some .cell) = true then NameKind.cell else k)
    rw [if_neg hc]
  | false=>
   by_cases hc:(k == NameKind.free && env.scope.kind == .function && env.kindOf n == some .cell) = true
   ·rw [if_pos hc]
    simp only [List.lookup_cons,hx]
    exact ih
   ·rw [if_neg hc]
    simp only [List.lookup_cons,hx]
    exact ih
structure CScope (scope:Scope):Prop where
 kind:scope.kind = .function
 nocell:∀ y ∈ scope.names,y.2 ≠ .cell
 loc:∀ y ∈ scope.names,y.2 = .local -> scope.names.lookup y.1 = some .local
noncomputable def cxC (X:Cx) (scope:Scope) (cl:List (Str × Addr)) (N':List Str) (C:Addr) (s:Shared) (H:Hp) (ex:List Addr):Cx:=
 { X with N:=N',s₀:=s,H₀:=H,env:=compEnvC scope cl C X.env,outer:=X.stack,ex:=ex,fn:=fun _=>false,pn:=[],xe:=fun _ _=>False }
noncomputable def compσ (nt:Nat) (fi:List Nat) (σ:St):St:=List.replicate nt none ++ fi.map fun j=>(σ[j]?).getD none
structure CNames (X:Cx) (scope:Scope) (nt:Nat) (fi:List Nat) (N':List Str):Prop where
 len:N'.length = nt + fi.length
 cap:∀ k j:Nat,fi[k]? = some j -> ∃ x,N'[nt + k]? = some x /\ X.N[j]? = some x /\ scope.names.lookup x = some .free
 fre:∀ y ∈ scope.names,y.2 = .free -> X.env.scope.names.lookup y.1 = some .cell \/ X.env.scope.names.lookup y.1 = some .free
def GK (nt:Nat) (g:TG):Prop:=∀ x σ H Q,g x σ H Q -> g x σ H fun σ' H'=>Q σ' H' /\ σ'.length = σ.length /\ σ'.drop nt = σ.drop nt
def PIf (X:Cx) (ifs:List Expr) (t:TT):Prop:=
 ∀ (pins:List (Addr × Obj)) (s:Shared) (σ:St) (H:Hp) (Q:Bool -> Hp -> Prop),Inv X pins σ H s -> t σ H Q ->
  wpAny (model X.prog X.w) X.A (forIn ifs true fun c r=>if r = true then do let ok <- isTrue c X.env (eval c X.env); pure (ForInStep.yield ok) else pure (ForInStep.yield r)) (TP X pins σ Q) X.xe s
noncomputable def tYes:TT:=fun _ H Q=>Q true H
theorem pif_nil {X:Cx}:PIf X [] tYes:=fun pins s σ H Q I h=>wpAny_tests_nil ⟨H,I,h⟩
theorem pif_one {X:Cx} {c:Expr} {t:TT} (h:PT X c t):PIf X [c] t:=fun pins s σ H Q I q=>wpAny_tests_one (h pins s σ H Q I q)
theorem gk_name {nt i:Nat} (hi:i < nt):GK nt (gName i):=fun x σ H Q h=>by
 refine ⟨h,?_,?_⟩
 ·rw [List.length_set]
 ·rw [List.drop_set_of_lt hi]
theorem gk_tup2 {K:Frag} {nt i j n:Nat} (hi:i < nt) (hj:j < nt):GK nt (gTup K n (gCons (gName i) (gCons (gName j) gNil))):=fun x σ H Q h=>by
 obtain ⟨a,xs,e,hq,hl,v,r,e1,v',r',e2,e3,q⟩:=h
 refine ⟨a,xs,e,hq,hl,v,r,e1,v',r',e2,e3,q,?_,?_⟩
 ·rw [List.length_set,List.length_set]
 ·rw [List.drop_set_of_lt hj,List.drop_set_of_lt hi]
section
variable {prog:Program} {w:World} {A:Around} {R:Result -> Shared -> Prop} {s:Shared}
theorem thnF {α:Type} {t:Sem α} {Q Q':α -> Shared -> Prop} {M:Model} {E:Value -> Shared -> Prop} (h:wpAny M A t Q (fun _ _=>False) s) (hQ:∀ a s,Q a s -> Q' a s):wpAny M A t Q' E s:=wpAny_mono h hQ fun _ _ f=>f.elim
theorem compLoop_any {elt target iter:Expr} {ifs:List Expr} {scope:Scope} {pos:Pos} {it acc:Value} {env:Env} (I:Nat -> Shared -> Prop)
  (turn:∀ n s,I n s -> wpAny (model prog w) A (pyNext it) (fun r s₁=>match r with
   | none=>R (.ok .next) s₁
   | some v=>wpAny (model prog w) A (letOwnedTupleGo target it v) (fun _ s₂=>wpAny (model prog w) A (assign target env v) (fun _ s₃=>
     wpAny (model prog w) A (forIn ifs true fun c r=>if r = true then do let ok <- isTrue c env (eval c env); pure (ForInStep.yield ok) else pure (ForInStep.yield r)) (fun ok s₄=>
      if ok = true then wpAny (model prog w) A (eval elt env) (fun x s₅=>wpAny (model prog w) A (call (.builtin "list.append") [acc,x]) (fun _ s₆=>∃ m,m < n /\ I m s₆) (fun _ _=>False) s₅) (fun _ _=>False) s₄
      else ∃ m,m < n /\ I m s₄) (fun _ _=>False) s₃) (fun _ _=>False) s₂) (fun _ _=>False) s₁) (fun _ _=>False) s)
  (n:Nat) (h:I n s):codeAny (model prog w) A (.compLoop (.ListComp elt [⟨target,iter,ifs,0⟩] scope pos) 0 it acc env) R s:=by
 refine codeAny_loop rfl I (fun n s hI=>?_) n h
 show wpAny _ A ((compTurn (.ListComp elt [⟨target,iter,ifs,0⟩] scope pos) 0 it acc env).onRaise (fun x=>do noteFrame x env; theTreesLotGoes x)) _ _ s
 refine wpAny_noted ?_
 rw [compTurn_list]
 refine wpAny_bind (wpAny_standAt (wpAny_bind (thnF (turn n s hI) fun r s₁ h₁=>?_)))
 cases r with
 | none=>exact wpAny_pure h₁
 | some v=>
  refine wpAny_bind (thnF h₁ fun _ s₂ h₂=>wpAny_bind (thnF h₂ fun _ s₃ h₃=>wpAny_bind (thnF h₃ fun ok s₄ h₄=>?_)))
  cases ok with
  | false=>exact wpAny_pure ⟨rfl,h₄⟩
  | true=>exact wpAny_bind (wpAny_bind (thnF h₄ fun x s₅ h₅=>wpAny_bind (thnF h₅ fun _ s₆ h₆=>wpAny_pure (wpAny_pure ⟨rfl,h₆⟩))))
end
noncomputable def tComp (nt:Nat) (fi:List Nat) (wi:TI) (g:TG) (tc:TT) (te:TE):TE:=fun σ H Q=>wi σ H fun J H1=>∀ D,H1 D = none ->
 ∃ W:Nat -> Nat -> List V -> Hp -> Prop,(∃ m,W 0 m [] (upd H1 D (.lst []))) /\ ∀ i m acc H2,W i m acc H2 ->
  (J.stop i H2 /\ Q (.ref D) H2) \/ (J.go i H2 /\ ∀ x H3,J.yld i H2 x H3 -> g x (compσ nt fi σ) H3 fun σ4 H4=>tc σ4 H4 fun b H5=>if b = true then
   te σ4 H5 fun v H6=>H6 D = some (.lst acc) /\ acc.length < sizeLine /\ ∃ m',m' < m /\ W (i + 1) m' (acc ++ [v]) (upd H6 D (.lst (acc ++ [v]))) else ∃ m',m' < m /\ W (i + 1) m' acc H5)
theorem compσ_weak {nt:Nat} {fi:List Nat} {σ σ':St} (hl:σ'.length = (compσ nt fi σ).length) (hd:σ'.drop nt = (compσ nt fi σ).drop nt):∀ (i:Nat) v,(compσ nt fi σ)[i]? = some (some v) -> σ'[i]? = some (some v):=fun i v e=>by
 by_cases hi:i < nt
 ·unfold compσ at e
  rw [List.getElem?_append_left (by simpa using hi),List.getElem?_replicate] at e
  split at e <;> cases e
 ·have ei:i = nt + (i - nt):=by omega
  have q:=congrArg (fun l=>l[i - nt]?) hd
  simp only [List.getElem?_drop] at q
  rw [<- ei] at q
  rw [q]
  exact e
section
variable {X:Cx}
theorem inv_comp {pins:List (Addr × Obj)} {σ:St} {H:Hp} {s:Shared} {scope:Scope} {nt:Nat} {fi:List Nat} {N':List Str} {fp:List Addr} {h₁:Heap} {m:Str -> Option Value} {tk:Nat}
  (I:Inv X pins σ H s) (S:CScope scope) (cn:CNames X scope nt fi N') (hf:∀ b ∈ fp,FpOk X pins H b) (ho:∀ b ∈ fp,∃ o,s.heap.get? b = some o)
  (hns:h₁.Ns s.heap.objs.size m) (kp:∀ b o,s.heap.get? b = some o -> h₁.get? b = some o) (htk:0 < tk):
  Inv (cxC X scope (clOf X.env.cells scope.names []) N' s.heap.objs.size s H fp) (X.pn ++ pins) (compσ nt fi σ) H { s with heap:=h₁,toks:=tk }:=by
 have hfr:∀ y ∈ scope.names,y.2 = .free -> ∃ c,X.env.cells.lookup y.1 = some c:=fun y hy e=>I.ok.has y.1 (cn.fre y hy e)
 have snd:∀ x c,(clOf X.env.cells scope.names []).lookup x = some c -> X.env.cells.lookup x = some c:=fun x c e=>clOf_sound scope.names [] hfr (fun _ _ q=>by simp at q) e
 have offstk:∀ b,b ≠ X.env.locals -> b ∉ X.fs -> b ∉ frs X.stack:=fun b h1 h2 h3=>by
  rcases List.mem_cons.mp (I.stkSub b h3) with e | e
  ·exact h1 e
  ·exact h2 e
 have lt:∀ {b o},s.heap.get? b = some o -> b ≠ s.heap.objs.size:=fun e=>Nat.ne_of_lt (Heap.lt_size e)
 have kinds:∀ x k,(relabel scope X.env).names.lookup x = some k -> (k = .cell \/ k = .free) -> (x,NameKind.free) ∈ scope.names:=fun x k e hk=>by
  have e':(scope.names.map fun (n,k)=>if (k == NameKind.free && X.env.scope.kind == .function && X.env.kindOf n == some .cell) then (n,NameKind.cell) else (n,k)).lookup x = some k:=e
  rw [lookup_relabel] at e'
  cases q:scope.names.lookup x with
  | none=>rw [q] at e'; cases e'
  | some k'=>
   have mem:(x,k') ∈ scope.names:=PySem.mem_of_lookup q
   rw [q] at e'
   simp only [Option.map_some,Option.some.injEq] at e'
   split at e'
   ·rename_i hc
    simp only [Bool.and_eq_true,beq_iff_eq] at hc
    rw [hc.1.1] at mem
    exact mem
   ·subst e'
    rcases hk with z | z
    ·subst z
     exact absurd rfl (S.nocell _ mem)
    ·subst z
     exact mem
 refine ⟨⟨I.ok.mod,S.kind,I.ok.glob,I.ok.blt,Nat.le_refl _,fun x y c e1 e2=>I.ok.inj x y c (snd x c e1) (snd y c e2),fun x hx=>?_,fun x c e=>(nomatch e),I.ok.hd,I.ok.frames,.inl rfl,fun b hb=>⟨?_,fun x c e=>(hf b hb).2.2.2.2.1 x c (snd x c e)⟩,I.bs,?_,fun b o e hb=>?_,fun b hb=>offstk b (hf b hb).2.1 (hf b hb).2.2.1,I.stack,I.stkFree⟩,
  rfl,I.bare,Un.kept kp,⟨m,hns,fun i x v e1 e2 e3=>?_⟩,fun x c e=>?_,I.hok.fresh (Nat.le_refl _),fun x c e=>I.freeC x c (snd x c e),fun p hp=>?_,I.hok.kept kp,?_,htk⟩
 ·have hx':(relabel scope X.env).names.lookup x = some .cell \/ (relabel scope X.env).names.lookup x = some .free:=hx
  have mem:(x,NameKind.free) ∈ scope.names:=by
   rcases hx' with q | q
   ·exact kinds x _ q (.inl rfl)
   ·exact kinds x _ q (.inr rfl)
  exact Option.isSome_iff_exists.mp (clOf_has scope.names [] mem)
 ·obtain ⟨o,e⟩:=ho b hb
  exact lt e
 ·exact Nat.le_trans I.ok.bsz I.sz
 ·rcases (hf b hb).2.2.2.1 with q | q
  ·exact I.ok.noex b o e q
  ·exact absurd (Nat.lt_of_lt_of_le (Heap.lt_size e) (Nat.le_trans I.ok.bsz q)) (Nat.lt_irrefl _)
 ·have hi:¬ i < nt:=fun hi=>by
   unfold compσ at e2
   rw [List.getElem?_append_left (by simpa using hi),List.getElem?_replicate] at e2
   split at e2 <;> cases e2
  have ei:i = nt + (i - nt):=by omega
  have e2':(fi.map fun j=>(σ[j]?).getD none)[i - nt]? = some (some v):=by
   unfold compσ at e2
   rw [List.getElem?_append_right (by simpa using Nat.le_of_not_lt hi)] at e2
   simpa using e2
  rw [List.getElem?_map] at e2'
  cases ej:fi[i - nt]? with
  | none=>rw [ej] at e2'; cases e2'
  | some j=>
   rw [ej] at e2'
   obtain ⟨x',n1,n2,n3⟩:=cn.cap (i - nt) j ej
   rw [<- ei] at n1
   have e1':N'[i]? = some x:=e1
   rw [n1] at e1'
   cases e1'
   have ev:σ[j]? = some (some v):=by
    have e2':some ((σ[j]?).getD none) = some (some v):=e2'
    cases q:σ[j]? with
    | none=>rw [q] at e2'; simp at e2'
    | some w=>rw [q] at e2'; simp at e2'; rw [e2']
   have mem:(x,NameKind.free) ∈ scope.names:=PySem.mem_of_lookup n3
   have vis:=cn.fre _ mem rfl
   obtain ⟨m0,hn0,hl0⟩:=I.loc
   obtain ⟨u,ru,lk⟩:=hl0 j x v n2 ev (.inr vis)
   refine ⟨u,ru,?_⟩
   rcases lk with ⟨q,_⟩ | ⟨q,c,ec,o,hoc,hod⟩
   ·have q':X.env.scope.names.lookup x = some .local:=q
    rcases vis with z | z
    ·have z':X.env.scope.names.lookup x = some .cell:=z
     rw [q'] at z'; cases z'
    ·have z':X.env.scope.names.lookup x = some .free:=z
     rw [q'] at z'; cases z'
   ·obtain ⟨c',ec'⟩:=Option.isSome_iff_exists.mp (clOf_has (cells:=X.env.cells) scope.names [] mem)
    have ecc:=snd x c' ec'
    rw [ec] at ecc
    cases ecc
    refine .inr ⟨?_,c,ec',o,kp c o hoc,hod⟩
    show (relabel scope X.env).names.lookup x = some .cell \/ (relabel scope X.env).names.lookup x = some .free
    have e4:(relabel scope X.env).names.lookup x = (scope.names.lookup x).map fun k=>if (k == NameKind.free && X.env.scope.kind == .function && X.env.kindOf x == some .cell) = true then .cell else k:=lookup_relabel X.env x scope.names
    rw [e4,n3]
    simp only [Option.map_some]
    split
    ·exact .inl rfl
    ·exact .inr rfl
 ·obtain ⟨v,o,hoc,hod⟩:=I.cell x c (snd x c e)
  exact ⟨v,o,kp c o hoc,hod⟩
 ·have hp':p ∈ X.pn ++ pins:=by
   have hp'':p ∈ ([]:List (Addr × Obj)) ++ (X.pn ++ pins):=hp
   simpa using hp''
  obtain ⟨e,n,ne,nf,d⟩:=I.pin p hp'
  exact ⟨kp _ _ e,n,lt e,offstk _ ne nf,d⟩
 ·show (compσ nt fi σ).length = N'.length
  unfold compσ
  rw [cn.len,List.length_append,List.length_replicate,List.length_map]
theorem inv_back {pins:List (Addr × Obj)} {σ σ':St} {H H':Hp} {s s':Shared} {scope:Scope} {cl:List (Str × Addr)} {N':List Str} {fp:List Addr} {C:Addr} {P:List (Addr × Obj)} {h'':Heap}
  (I:Inv X pins σ H s) (hf:∀ b ∈ fp,FpOk X pins H b) (hC:s.heap.objs.size <= C) (J:Inv (cxC X scope cl N' C s H fp) P σ' H' s') (sb:Heap.SameBut C s'.heap h''):Inv X pins σ H' { s' with heap:=h'' }:=by
 have ne:∀ {b o},s.heap.get? b = some o -> b ≠ C:=fun e=>Nat.ne_of_lt (Nat.lt_of_lt_of_le (Heap.lt_size e) hC)
 have u:Un (frs X.stack) fp H H' s.heap s'.heap:=J.base
 refine I.call' (s':={ s' with heap:=h'' }) (ch:=fp) J.os ⟨fun b o e n hb hx=>?_,fun b o e n hb hx=>?_,u.free,fun b o e hx=>?_,u.tups,u.frzs,u.tbls⟩ (fun b o e=>?_) J.bare (fun b hb=>?_) J.tk
 ·exact (sb.2 b (ne e)).trans (u.keep b o e n hb hx)
 ·obtain ⟨sl,q⟩:=u.slot b o e n hb hx
  exact ⟨sl,(sb.2 b (ne e)).trans q⟩
 ·obtain ⟨o',q⟩:=u.there b o e hx
  exact ⟨o',(sb.2 b (ne e)).trans q⟩
 ·have fr:H' C = none:=J.free
  refine (J.hok b o e).stay (fun c v hc q=>(sb.2 c ?_).trans q) (fun _ q=>q) fun _ _ q=>q
  rintro rfl
  rcases hc with z | z
  ·subst z
   rw [fr] at e
   cases e
  ·rw [fr] at z
   cases z
 ·obtain ⟨f0,f1,f2,f3,f4,f5⟩:=hf b hb
  exact ⟨f3,f1,f4,f5⟩
theorem pe_comp {elt tg iter:Expr} {ifs:List Expr} {scope:Scope} {pos:Pos} {wi:TI} {g:TG} {tc:TT} {te:TE} {nt:Nat} {fi:List Nat} {N':List Str} (hcalm:X.calm = true)
  (S:CScope scope) (cn:CNames X scope nt fi N') (gk:GK nt g) (hi:PI X tg iter wi)
  (hg:∀ cl C s H ex,PG (cxC X scope cl N' C s H ex) tg g) (hc:∀ cl C s H ex,PIf (cxC X scope cl N' C s H ex) ifs tc) (he:∀ cl C s H ex,PE (cxC X scope cl N' C s H ex) elt te)
  (hs:∀ x,foldedSetIterable iter X.env x = pure x:=by intro _; rfl):PE X (.ListComp elt [⟨tg,iter,ifs,0⟩] scope pos) (tComp nt fi wi g tc te):=by
 intro pins s σ H Q I h
 have hfr:∀ y ∈ scope.names,y.2 = .free -> ∃ c,X.env.cells.lookup y.1 = some c:=fun y hy e=>I.ok.has y.1 (cn.fre y hy e)
 rw [eval_ListComp]
 refine wpAny_comprehension_free (use:=none) rfl hs (closureFor_some hfr) S.kind S.loc (thn (hi pins s σ H _ I h) fun v s1 h1=>thn h1 fun itv s2 h2=>?_)
 obtain ⟨it,fp,tn,J,H2,e,I2,T,st2,f2,hW⟩:=h2
 subst e
 have fD:H2 s2.heap.objs.size = none:=I2.hok.fresh (Nat.le_refl _)
 obtain ⟨W,⟨m0,w0⟩,turn⟩:=hW s2.heap.objs.size fD
 refine wpAny_newObj_type (wpAny_newFunctionEnv S.nocell (by intro y hy; simp at hy) (fun h₁ hns₁ hsb₁=>?_) S.kind)
 have I3:Inv X pins σ (upd H2 s2.heap.objs.size (.lst [])) { s2 with heap:=s2.heap.push { cls:=.type "list",dict:=none,data:=.seq ([]:List Value).toArray } }:=I2.lnew (its:=[]) (t':=s2.toks) .nil (Nat.zero_le _)
 generalize hs3:({ s2 with heap:=s2.heap.push { cls:=.type "list",dict:=none,data:=.seq ([]:List Value).toArray } }:Shared) = s3 at I3 hns₁ hsb₁ ⊢
 have hsz:s3.heap.objs.size = s2.heap.objs.size + 1:=by rw [<- hs3]; exact Heap.size_push ..
 have ob2:∀ b ∈ fp,∃ o,s3.heap.get? b = some o:=fun b hb=>by
  obtain ⟨o,e,_⟩:=T.obj _ _ st2 b hb
  rw [<- hs3]
  exact ⟨o,Heap.get?_push_of_some _ e⟩
 have f3:∀ b ∈ fp,FpOk X pins (upd H2 s2.heap.objs.size (.lst [])) b:=fun b hb=>by
  obtain ⟨o,e,_⟩:=T.obj _ _ st2 b hb
  refine ⟨?_,(f2 b hb).2⟩
  rw [upd_ne (Nat.ne_of_lt (Heap.lt_size e))]
  exact (f2 b hb).1
 have kp:∀ b o,s3.heap.get? b = some o -> h₁.get? b = some o:=fun b o e=>hsb₁.extBut b o (Nat.ne_of_lt (Heap.lt_size e)) (Heap.get?_push_of_some _ e)
 have st3:tn 0 h₁:=T.keep _ _ _ st2 fun b _ o e=>kp b o (by rw [<- hs3]; exact Heap.get?_push_of_some _ e)
 have J4:Inv (cxC X scope (clOf X.env.cells scope.names []) N' s3.heap.objs.size s3 (upd H2 s2.heap.objs.size (.lst [])) fp) (X.pn ++ pins) (compσ nt fi σ) (upd H2 s2.heap.objs.size (.lst [])) { s3 with heap:=h₁,toks:=s3.toks + ([]:List (Str × Value)).length }:=
  inv_comp I3 S cn f3 ob2 hns₁ kp I3.tk
 generalize hcl:clOf X.env.cells scope.names [] = cl at J4 ⊢
 generalize hH3:upd H2 s2.heap.objs.size (.lst []) = H3 at J4 I3 f3 w0
 have stat:∀ {H':Hp},(∀ b ∈ fp,H' b = none) -> ∀ b ∈ fp,FpOk (cxC X scope cl N' s3.heap.objs.size s3 H3 fp) (X.pn ++ pins) H' b:=fun {H'} hn b hb=>by
  obtain ⟨g0,g1,g2,g3,g4,g5⟩:=f3 b hb
  have ok:=J4.ok
  refine ⟨hn b hb,(ok.exf b hb).1,ok.exfs b hb,.inl hb,(ok.exf b hb).2,fun p hp=>g5 p ?_⟩
  have hp':p ∈ ([]:List (Addr × Obj)) ++ (X.pn ++ pins):=hp
  simpa using hp'
 have loop:∀ s₃:Shared,s₃ = { s3 with heap:=h₁,toks:=s3.toks + ([]:List (Str × Value)).length } ->
   codeAny (model X.prog X.w) X.A (.compLoop (.ListComp elt [⟨tg,iter,ifs,0⟩] scope pos) 0 (.ref it) (.ref s2.heap.objs.size) (compEnvC scope cl s3.heap.objs.size X.env))
    (compPost (model X.prog X.w) X.A X.xe none (EP X pins σ Q) (.ref s2.heap.objs.size) s3.heap.objs.size) s₃:=by
  rintro s₃ rfl
  refine compLoop_any (fun n s'=>∃ i acc H',Inv (cxC X scope cl N' s3.heap.objs.size s3 H3 fp) (X.pn ++ pins) (compσ nt fi σ) H' s' /\ tn i s'.heap /\ (∀ b ∈ fp,H' b = none) /\ W i n acc H') ?_ m0
   ⟨0,[],H3,J4,st3,fun b hb=>(f3 b hb).1,w0⟩
  rintro n s5 ⟨i,acc,H5,I5,st5,fr5,w5⟩
  rcases turn i n acc H5 w5 with ⟨stop,qn⟩ | ⟨go,step⟩
  ·refine thn (T.done (cxC X scope cl N' s3.heap.objs.size s3 H3 fp) rfl rfl rfl hcalm i (X.pn ++ pins) s5 (compσ nt fi σ) H5 (fun _ _=>False) I5 (stat fr5) st5 stop) fun r s6 ⟨hr,I6⟩=>?_
   subst hr
   obtain ⟨m6,hn6,_⟩:=I6.loc
   exact ⟨m6,hn6,fun h' sb=>⟨.ref s2.heap.objs.size,H5,inv_back I3 f3 (Nat.le_refl _) I6 sb,rfl,qn⟩⟩
  ·refine thn (T.item (cxC X scope cl N' s3.heap.objs.size s3 H3 fp) rfl rfl rfl hcalm i (X.pn ++ pins) s5 (compσ nt fi σ) H5 (fun _ _=>False) I5 (stat fr5) st5 go) fun r s6 ⟨u,hr,h6⟩=>?_
   subst hr
   refine thn h6 fun _ s7 ⟨x,H7,I7,r7,y7,st7,fr7⟩=>?_
   have I7':=I7.pinned (stat fr7) (T.obj _ _ st7)
   refine thn (hg _ _ _ _ _ _ s7 (compσ nt fi σ) H7 x u _ I7' r7 (gk _ _ _ _ (step x H7 y7))) fun _ s8 ⟨σ8,H8,I8,q8,l8,d8⟩=>?_
   refine thn (hc _ _ _ _ _ _ s8 σ8 H8 _ I8 q8) fun b s9 ⟨H9,I9,q9⟩=>?_
   have again:∀ {s':Shared} {H':Hp} {m':Nat} {acc':List V},Inv (cxC X scope cl N' s3.heap.objs.size s3 H3 fp) ((X.pn ++ pins) ++ pinsAt fp s7.heap) σ8 H' s' -> m' < n -> W (i + 1) m' acc' H' ->
     ∃ m,m < n /\ ∃ i acc H',Inv (cxC X scope cl N' s3.heap.objs.size s3 H3 fp) (X.pn ++ pins) (compσ nt fi σ) H' s' /\ tn i s'.heap /\ (∀ b ∈ fp,H' b = none) /\ W i m acc H':=fun {s' H' m' acc'} I' hm w'=>by
    refine ⟨m',hm,i + 1,acc',H',I'.unpinned.weak l8.symm (compσ_weak l8 d8),T.keep _ _ _ st7 fun b hb o e=>(I'.pin (b,o) (List.mem_append_right _ (List.mem_append_right _ (mem_pinsAt hb e)))).1,fun b hb=>?_,w'⟩
    obtain ⟨o,e,d⟩:=T.obj _ _ st7 b hb
    exact (I'.pin (b,o) (List.mem_append_right _ (List.mem_append_right _ (mem_pinsAt hb e)))).2.1
   cases b with
   | false=>
    rw [if_neg Bool.false_ne_true] at q9 ⊢
    obtain ⟨m',hm,w'⟩:=q9
    exact again I9 hm w'
   | true=>
    rw [if_pos rfl] at q9 ⊢
    refine thn (he _ _ _ _ _ _ s9 σ8 H9 _ I9 q9) fun uv s10 ⟨v10,H10,I10,r10,hD,hlt,m',hm,w'⟩=>?_
    refine thn (mt_append (X:=cxC X scope cl N' s3.heap.objs.size s3 H3 fp) _ s10 σ8 H10 (.ref s2.heap.objs.size) [v10] (.ref s2.heap.objs.size) [uv] (fun _ H'=>H' = upd H10 s2.heap.objs.size (.lst (acc ++ [v10]))) I10 rfl (.cons r10 .nil) ⟨_,acc,v10,rfl,rfl,hD,hlt,rfl⟩) fun _ s11 ⟨_,H11,I11,_,e11⟩=>?_
    subst e11
    exact again I11 hm w'
 exact codeAny_compStart_list (loop _ rfl) (T.self _ 0 _ _ _ st3 (loop _ rfl))
end
noncomputable abbrev st (l:List Nat):Str:=⟨l.toArray⟩
theorem st_len (l:List Nat):(st l).length = l.length:=by simp [Str.length]
theorem st_cps (l:List Nat):(st l).cps.toList = l:=rfl
theorem st_app (l m:List Nat):st l ++ st m = st (l ++ m):=by
 show Str.append (st l) (st m) = _
 simp [Str.append]
theorem st_inj {l m:List Nat}:st l = st m ↔ l = m:=by simp
theorem strsAre_of {ys:List Str}:∀ {us:List Value},Vals (ys.map V.str) us -> StrsAre us ys:=by
 induction ys with
 | nil=>intro us r; cases r; exact .nil
 | cons y r ih=>
  intro us h
  cases h with
  | cons r1 r2=>
   obtain ⟨t,rfl⟩:=r1
   exact .cons y t (ih r2)
theorem txt_join_ones (l:List Nat):Txt.join ⟨#[]⟩ (l.map fun k=>(⟨#[k]⟩:Str)) = st l:=by
 have h:=join_plain_closes ⟨#[]⟩ (l.map fun k=>(⟨#[k]⟩:Str))
 rw [eq_of_beq h]
 exact join_ones l
section
variable {X:Cx}
noncomputable def rJoin (K:Frag):V -> List V -> Hp -> VK -> Prop:=fun x vs H Q=>∃ sep l ys,x = .str sep /\ vs = [.ref l] /\ SqL K H l (ys.map V.str) /\ (ys.map (·.length)).sum + ys.length * sep.length <= 16777216 /\ Q (.str (Txt.join sep ys)) H
theorem mt_join:MtR X "str.join" (rJoin X.K):=by
 intro pins s σ H x vs v us Q I rx rv h
 obtain ⟨sep,l,ys,rfl,rfl,hq,hz,q⟩:=h
 obtain ⟨t,rfl⟩:=rx
 obtain ⟨u,rfl,ru⟩:=rv.one
 cases ru
 obtain ⟨its,r,pl,_⟩:=I.list hq
 exact tokQ I.tk (join_list pl.isList (strsAre_of r) hz fun t' k (htk:0 < k)=>⟨.str _,H,I.tok _,⟨_,rfl⟩,q⟩)
theorem sum_ones (l:List Nat):((l.map fun k=>(⟨#[k]⟩:Str)).map (·.length)).sum = l.length:=by
 induction l with
 | nil=>rfl
 | cons a r ih=>
  rw [List.map_cons,List.map_cons,List.sum_cons,ih,List.length_cons]
  show 1 + r.length = r.length + 1
  omega
noncomputable def rJoin1 (K:Frag):V -> List V -> Hp -> VK -> Prop:=fun x vs H Q=>∃ l cs,x = .str (Str.ofString "") /\ vs = [.ref l] /\ SqL K H l (cs.map fun k=>V.str ⟨#[k]⟩) /\ cs.length <= 10000 /\ Q (.str (st cs)) H
theorem ofString_nil:Str.ofString "" = ⟨#[]⟩:=by decide +kernel
theorem mt_join1:MtR X "str.join" (rJoin1 X.K):=by
 intro pins s σ H x vs v us Q I rx rv h
 obtain ⟨l,cs,rfl,rfl,hq,hz,q⟩:=h
 refine mt_join pins s σ H _ _ v us Q I rx rv ⟨_,l,cs.map fun k=>⟨#[k]⟩,rfl,rfl,?_,?_,?_⟩
 ·rw [List.map_map]
  exact hq
 ·rw [sum_ones,List.length_map,ofString_nil]
  show cs.length + cs.length * 0 <= 16777216
  omega
 ·rw [ofString_nil,txt_join_ones]
  exact q
noncomputable def rSlS:V -> Option Int -> Option Int -> Hp -> VK -> Prop:=fun x lo hi H Q=>∃ z,x = .str z /\ z.length <= sizeLine /\ Q (.str (Txt.slice z lo hi)) H
theorem sl_str:SlR X rSlS:=by
 intro pins s σ H x v vl vu lo hi sl Q I rx hs pl pu h
 obtain ⟨z,rfl,hz,q⟩:=h
 obtain ⟨t,rfl⟩:=rx
 have fin:∀ t' k,0 < k -> EP X pins σ Q (.str (Txt.slice z lo hi) t') { s with toks:=k }:=fun t' k htk=>⟨.str _,H,I.tok _,⟨_,rfl⟩,q⟩
 refine ⟨"str",_,F.slot_str_getitem.lookup,typeIs_str _ _ _,tokQ I.tk ?_⟩
 obtain ⟨o,e1,e2,e3⟩:=id hs
 cases pl with
 | none=>
  cases pu with
  | none=>exact wpAny_getItem_str_slice (l:=none) (u:=none) (st:=none) ⟨o,e1,e2,e3⟩ rfl (post_val_or_str ⟨Nat.le_trans (Txt.slice_le z _ _) hz,fin⟩)
  | int j tj=>exact wpAny_getItem_str_slice (l:=none) (u:=some (j,tj)) (st:=none) ⟨o,e1,e2,e3⟩ rfl (post_val_or_str ⟨Nat.le_trans (Txt.slice_le z _ _) hz,fin⟩)
 | int i ti=>
  cases pu with
  | none=>exact wpAny_getItem_str_slice (l:=some (i,ti)) (u:=none) (st:=none) ⟨o,e1,e2,e3⟩ rfl (post_val_or_str ⟨Nat.le_trans (Txt.slice_le z _ _) hz,fin⟩)
  | int j tj=>exact wpAny_getItem_str_slice (l:=some (i,ti)) (u:=some (j,tj)) (st:=none) ⟨o,e1,e2,e3⟩ rfl (post_val_or_str ⟨Nat.le_trans (Txt.slice_le z _ _) hz,fin⟩)
theorem slice_to (l:List Nat) (k:Nat) (h:k <= l.length):Txt.slice (st l) none (some (k:Int)) = st (l.take k):=by
 have q:=slice_closes_to (x:=st l) (j:=(k:Int)) ⟨by omega,by simpa using h⟩
 rw [eq_of_beq q]
 simp
theorem slice_from (l:List Nat) (k:Nat) (h:k <= l.length):Txt.slice (st l) (some (k:Int)) none = st (l.drop k):=by
 have q:=slice_from_eq (x:=st l) (i:=(k:Int)) (b:=(l.length:Int)) (by omega) (by simpa [Str.length] using h) (by simp [Str.length])
 rw [q]
 simp only [st_cps,Int.toNat_natCast]
 rw [List.take_of_length_le (by rw [List.length_drop]; omega)]
theorem op_mul_str:OpR X (binaryOp .Mult) (fun x y H Q=>∃ z n,x = .str z /\ y = .int n /\ MulOk z n /\ Q (.str (Txt.mul z n)) H):=by
 intro pins s σ H x y v u Q I rx ry h
 obtain ⟨z,n,rfl,rfl,hok,q⟩:=h
 obtain ⟨t,rfl⟩:=rx
 obtain ⟨t',rfl⟩:=ry
 exact tokQ I.tk (SB.mul hok fun t' k (htk:0 < k)=>⟨.str _,H,I.tok _,⟨_,rfl⟩,q⟩)
theorem mul1 (k n:Nat):Txt.mul ⟨#[k]⟩ (n:Int) = st (List.replicate n k):=by
 have q:=mul_one_list k (n:Int)
 rw [Int.toNat_natCast] at q
 have e:∀ x:Str,x = ⟨x.cps.toList.toArray⟩:=fun x=>by simp
 rw [e (Txt.mul ⟨#[k]⟩ (n:Int)),q]
theorem call_isinst:CallR X (.builtin "isinstance") (fun xs H Q=>∃ x n t b,xs = [x,.ty n] /\ TyOf X.K H x t /\ PySem.W.kitOne X.K t (.type n) = some b /\ Q (.bl b) H):=by
 intro pins s σ H xs us Q I r h
 obtain ⟨x,n,t,b,rfl,ty,e,q⟩:=h
 obtain ⟨u,w',rfl,r1,r2⟩:=vals2 r
 cases r2
 exact tokQ I.tk (isinst_ok I r1 ty e fun tk (htk:0 < tk)=>⟨.bl b,H,I.tok _,rfl,q⟩)
theorem op_eq_nil (hu:X.A.units < cLine):OpR X (compareOp .Eq) (fun x y H Q=>∃ a b xs,x = .ref a /\ y = .ref b /\ SqL X.K H a xs /\ SqL X.K H b [] /\ Q (.bl (decide (xs = []))) H):=by
 intro pins s σ H x y v u Q I rx ry h
 obtain ⟨a,b,xs,rfl,rfl,ha,hb,q⟩:=h
 cases rx
 cases ry
 obtain ⟨its,r1,p1,_⟩:=I.list ha
 obtain ⟨its2,r2,p2,_⟩:=I.list hb
 cases r2
 cases r1 with
 | nil=>exact SeqAt.eq_listAt (e:=fun _=>true) p1.isList p2.isList rfl hu (fun j h1 _=>absurd h1 (by simp)) ⟨.bl true,H,I,rfl,q⟩
 | cons rx rr=>exact SeqAt.eq_list_lengthsAt p1.isList p2.isList (by simp) hu ⟨.bl false,H,I,rfl,by simpa using q⟩
end
def Fn (K:Frag) (mg:Str -> Option Value) (x:Str) (st:Stmt):Prop:=∃ f fd,Fun K x x st f fd /\ mg x = some (.ref f)
def Callee (P:Program) (w:World) (K:Frag) (mg:Str -> Option Value) (base:Heap) (k:Nat) (x:Str) (ps:List Str) (sp:Sp):Prop:=
 ∃ f fd,FnOk P w K mg base CX0 k f fd ps sp /\ Binds K fd ps [] /\ keepIn K (.ref f) = true /\ mg x = some (.ref f)
theorem Callee.mono {P:Program} {w:World} {K:Frag} {mg:Str -> Option Value} {base:Heap} {j k:Nat} {x:Str} {ps:List Str} {sp:Sp} (C:Callee P w K mg base j x ps sp) (h:j <= k):Callee P w K mg base k x ps sp:=by
 obtain ⟨f,fd,F,r⟩:=C
 exact ⟨f,fd,F.mono h,r⟩
theorem Fn.cal {P:Program} {w:World} {K:Frag} {mg:Str -> Option Value} {base:Heap} {x:Str} {st:Stmt} {N ps:List Str} {k:Nat} {sp:Sp} (F:Fn K mg x st) (S:FnScope N ps (defScope st)) (len:∀ vs H Q E,sp vs H Q E -> vs.length = ps.length)
  (hb:∀ (kV doc pm:Value) (an:Option Addr) (cdv ct:Value) (us:List Value),us.length = ps.length -> bindArgs (fnOf x x (defArgs st) (defBody st) (defScope st) .none kV doc pm an cdv ct) ⟨us,[]⟩ = pure (ps.zip us))
  (hbody:∀ (f:Addr) (cdv:Value) (A:Around) (outer:List Env) (s:Shared) (H:Hp) (vs:List V) (Q:VK) (E:XK),Room k (A.deeper (envOfC x (defScope st) s.heap.objs.size f cdv)) -> sp vs H Q E ->
   ∃ t,PSs (cxOf CX0 P w K mg base N x (defScope st) f cdv A outer s H E).nox (defBody st) t /\ t { nx:=fun _ H'=>Q .non H',rt:=Q } (start N vs) H):Callee P w K mg base (k + 1) x ps sp:=by
 obtain ⟨f,fd,F,m⟩:=F
 exact ⟨f,fd,F.ok S len (hbody f),F.binds hb,F.kp,m⟩
section
variable {X:Cx} {k:Nat} {x:Str} {ps:List Str} {sp:Sp} {p pos:Pos} {e:Expr} {es:List Expr} {t:TA}
theorem pe_fn (C:Callee X.prog X.w X.K X.mg X.base k x ps sp) (hr:Room k X.A) (hg:Gl X x) (ha:PA X (e :: es) t)
  (he:starEach (e :: es) X.env = (false,eval e X.env) :: starEach es X.env:=by rfl) (hpl:(backTo pos (starEach es X.env)).any (·.1) = false:=by rfl) (hd:(x == ("__debug__" : Str)) = false:=by decide):PE X (.Call (.Name x p) (e :: es) [] pos) (tCall sp [] E0 t):=by
 obtain ⟨f,fd,F,b,kp,m⟩:=C
 exact pe_call F hr hg m kp b .nil pass0 ha (hdb:=hd) (he:=he) (hpl:=hpl)
end
noncomputable def tJoin (t u:TS):TS:=fun D σ H=>∃ J:St -> Hp -> Prop,t { D with nx:=J } σ H /\ ∀ σ' H',J σ' H' -> u D σ' H'
theorem pss_join {X:Cx} {st:Stmt} {rest:List Stmt} {t u:TS} (h1:PS X st t) (h2:PSs X rest u):PSs X (st :: rest) (tJoin t u):=by
 intro pins s σ H D I h
 obtain ⟨J,hj,hr⟩:=h
 refine wpAny_execs_cons (thn (h1 pins s σ H { D with nx:=J } I hj) fun f s1 q=>?_)
 cases f with
 | next=>
  obtain ⟨σ',H',I',q⟩:=q
  exact h2 pins s1 σ' H' D I' (hr σ' H' q)
 | ret v=>exact q
 | brk=>exact q
 | cont=>exact q
theorem same_new {H:Hp} {p:Addr} (h:H p = none) (o:HO):Same H (upd H p o):=fun b u q=>by rw [upd_ne (ne_of_none q h)]; exact q
theorem same_upd {H H':Hp} {p:Addr} {o:HO} (s:Same H H') (h:H p = none):Same H (upd H' p o):=fun b u q=>by rw [upd_ne (ne_of_none q h)]; exact s b u q
theorem sizeBig {n:Nat} (h:n <= 100000):n < sizeLine:=Nat.lt_of_le_of_lt h (by decide)
def RowL (l:List Nat):Prop:=∀ c ∈ l,c = 48 \/ c = 49 \/ c = 45
theorem RowL.nil:RowL []:=fun _ h=>nomatch h
theorem RowL.snoc {l:List Nat} {c:Nat} (h:RowL l) (hc:c = 48 \/ c = 49 \/ c = 45):RowL (l ++ [c]):=fun d hd=>by
 rcases List.mem_append.mp hd with q | q
 ·exact h d q
 ·rw [List.mem_singleton.mp q]
  exact hc
section
variable {X:Cx}
theorem PE.imp {e:Expr} {t t':TE} (h:PE X e t) (k:∀ σ H Q,t' σ H Q -> t σ H Q):PE X e t':=fun pins s σ H Q I q=>h pins s σ H Q I (k σ H Q q)
theorem PT.imp {e:Expr} {t t':TT} (h:PT X e t) (k:∀ σ H Q,t' σ H Q -> t σ H Q):PT X e t':=fun pins s σ H Q I q=>h pins s σ H Q I (k σ H Q q)
theorem PI.imp {tg e:Expr} {t t':TI} (h:PI X tg e t) (k:∀ σ H Q,t' σ H Q -> t σ H Q):PI X tg e t':=fun pins s σ H Q I q=>h pins s σ H Q I (k σ H Q q)
theorem PG.imp {e:Expr} {t t':TG} (h:PG X e t) (k:∀ v σ H Q,t' v σ H Q -> t v σ H Q):PG X e t':=fun pins s σ H v u Q I r q=>h pins s σ H v u Q I r (k v σ H Q q)
theorem OpR.imp {f:Value -> Value -> Sem Value} {r r':R2} (h:OpR X f r) (k:∀ x y H Q,r' x y H Q -> r x y H Q):OpR X f r':=fun pins s σ H x y v u Q I rx ry q=>h pins s σ H x y v u Q I rx ry (k x y H Q q)
theorem CallR.imp {f:Value} {r r':List V -> Hp -> VK -> Prop} (h:CallR X f r) (k:∀ xs H Q,r' xs H Q -> r xs H Q):CallR X f r':=fun pins s σ H xs us Q I r q=>h pins s σ H xs us Q I r (k xs H Q q)
theorem IxR.imp {r r':R2} (h:IxR X r) (k:∀ x y H Q,r' x y H Q -> r x y H Q):IxR X r':=fun a b pins s σ H x y v u Q I rx ry q=>h a b pins s σ H x y v u Q I rx ry (k x y H Q q)
theorem MtR.imp {id:String} {r r':V -> List V -> Hp -> VK -> Prop} (h:MtR X id r) (k:∀ x xs H Q,r' x xs H Q -> r x xs H Q):MtR X id r':=fun pins s σ H x xs v us Q I rx r q=>h pins s σ H x xs v us Q I rx r (k x xs H Q q)
theorem SlR.imp {r r':V -> Option Int -> Option Int -> Hp -> VK -> Prop} (h:SlR X r) (k:∀ x a b H Q,r' x a b H Q -> r x a b H Q):SlR X r':=fun pins s σ H x v vl vu lo hi sl Q I rx hs pl pu q=>h pins s σ H x v vl vu lo hi sl Q I rx hs pl pu (k x lo hi H Q q)
noncomputable def cVar (i:Nat):TE:=fun σ H Q=>match σ[i]? with | some (some v)=>Q v H | _=>False
theorem qv (i:Nat) {x:Str} {pos:Pos} (hN:X.N[i]? = some x:=by rfl) (hv:Vis X.env.scope x:=by first | exact Or.inl rfl | exact Or.inr (Or.inl rfl) | exact Or.inr (Or.inr rfl)) (hd:(x == ("__debug__" : Str)) = false:=by decide)
  (hcd:(x == ("__classdict__" : Str)) = false:=by decide):PE X (.Name x pos) (cVar i):=(pe_var hN hv hd hcd).imp fun σ H Q q=>by
 unfold cVar at q
 split at q
 ·exact ⟨_,by assumption,q⟩
 ·exact q.elim
theorem qs (l:List Nat) {x:Str} {j pos} (h:x = st l:=by decide +kernel):PE X (.Constant (.str x) j pos) (tC (.str (st l))):=by
 rw [<- h]
 exact pe_str
theorem st_eta (a:Str):st a.cps.toList = a:=by simp
noncomputable def kAdd:R2:=fun x y H Q=>match x,y with
 | .int i,.int j=>Q (.int (i + j)) H
 | .str a,.str b=>a.cps.toList.length + b.cps.toList.length <= 100000 /\ Q (.str (st (a.cps.toList ++ b.cps.toList))) H
 | .ref l,.ref b=>∃ xs zs,H l = some (.lst xs) /\ H b = some (.lst zs) /\ xs.length + zs.length <= sizeLine /\ ∀ p,H p = none -> Q (.ref p) (upd H p (.lst (xs ++ zs)))
 | _,_=>False
theorem op_addK:OpR X (binaryOp .Add) kAdd:=by
 intro pins s σ H x y v u Q I rx ry q
 unfold kAdd at q
 split at q
 ·exact op_add pins s σ H _ _ v u Q I rx ry ⟨_,_,rfl,rfl,q⟩
 ·obtain ⟨h,q⟩:=q
  refine op_add_str pins s σ H _ _ v u Q I rx ry ⟨_,_,rfl,rfl,?_,?_⟩
  ·have:(100000:Nat) <= sizeLine:=by decide
   simp only [Array.length_toList] at h
   simp only [Str.length]
   omega
  ·rename_i a b
   have e:a ++ b = st (a.cps.toList ++ b.cps.toList):=by
    rw [<- st_app,st_eta,st_eta]
   rw [e]
   exact q
 ·obtain ⟨xs,zs,h1,h2,h3,q⟩:=q
  exact op_cat pins s σ H _ _ v u Q I rx ry ⟨_,_,_,_,rfl,rfl,h1,h2,h3,q⟩
 ·exact q.elim
noncomputable def kI (C:Int -> Int -> Prop) (g:Int -> Int -> V):R2:=fun x y H Q=>match x,y with
 | .int i,.int j=>C i j /\ Q (g i j) H
 | _,_=>False
noncomputable def kI0 (g:Int -> Int -> V):R2:=fun x y H Q=>match x,y with
 | .int i,.int j=>Q (g i j) H
 | _,_=>False
theorem kI_imp {C:Int -> Int -> Prop} {g:Int -> Int -> V}:∀ x y H Q,kI C g x y H Q -> rI C g x y H Q:=fun x y H Q q=>by
 unfold kI at q
 split at q
 ·exact ⟨_,_,rfl,rfl,q.1,q.2⟩
 ·exact q.elim
theorem kI0_imp {g:Int -> Int -> V}:∀ x y H Q,kI0 g x y H Q -> rI0 g x y H Q:=fun x y H Q q=>by
 unfold kI0 at q
 split at q
 ·exact ⟨_,_,rfl,rfl,q⟩
 ·exact q.elim
noncomputable abbrev kSub:R2:=kI0 fun i j=>.int (i - j)
noncomputable abbrev kMod:R2:=kI (fun _ j=>0 < j) fun i j=>.int (i % j)
noncomputable abbrev kFdiv:R2:=kI CDiv fun i j=>.int (i / j)
theorem op_subK:OpR X (binaryOp .Sub) kSub:=op_sub.imp kI0_imp
theorem op_modK:OpR X (binaryOp .Mod) kMod:=op_mod.imp kI_imp
theorem op_fdivK:OpR X (binaryOp .FloorDiv) kFdiv:=op_fdiv.imp kI_imp
noncomputable def kMul:R2:=fun x y H Q=>match x,y with
 | .int i,.int j=>CMul i j /\ Q (.int (i * j)) H
 | .str a,.int n=>∃ c,a.cps.toList = [c] /\ 0 <= n /\ n <= 10000 /\ Q (.str (st (List.replicate n.toNat c))) H
 | .ref l,.int k=>∃ xs,H l = some (.lst xs) /\ 0 <= k /\ k <= 10000 /\ xs.length = 1 /\ ∀ p,H p = none -> Q (.ref p) (upd H p (.lst (List.replicate k.toNat xs).flatten))
 | _,_=>False
theorem mulOk_one (k n:Nat) (hn:n <= 10000):MulOk ⟨#[k]⟩ (n:Int):=by
 have hl:(⟨#[k]⟩:Str).length = 1:=rfl
 refine ⟨?_,fun _ _=>?_,fun _ _=>?_⟩
 ·rw [decide_eq_false (by omega),decide_eq_false (by omega)]
  rfl
 ·rw [hl]
  intro z
  have:(2 ^ 63 - 1) / (n:Int) < 1:=by omega
  have h2:(n:Int) <= 10000:=by omega
  have h1:¬ (n:Int) < 1:=by assumption
  have h3:1 <= (2 ^ 63 - 1) / (n:Int):=by
   rw [Int.le_ediv_iff_mul_le (by omega)]
   omega
  omega
 ·rw [hl]
  unfold PySem.Builtin.Str.tooLong sizeLine
  exact decide_eq_false (by rw [Int.toNat_natCast]; have:(2:Nat) ^ 24 = 16777216:=(by decide); omega)
theorem op_mulK:OpR X (binaryOp .Mult) kMul:=by
 intro pins s σ H x y v u Q I rx ry q
 unfold kMul at q
 split at q
 ·exact op_mul pins s σ H _ _ v u Q I rx ry ⟨_,_,rfl,rfl,q.1,q.2⟩
 ·obtain ⟨c,e,h0,h1,q⟩:=q
  rename_i a n
  obtain ⟨k,rfl⟩:∃ k:Nat,n = k:=⟨n.toNat,by omega⟩
  have ea:a = ⟨#[c]⟩:=by rw [<- st_eta a,e]
  subst ea
  refine op_mul_str pins s σ H _ _ v u Q I rx ry ⟨_,_,rfl,rfl,mulOk_one c k (by omega),?_⟩
  rw [mul1]
  exact q
 ·obtain ⟨xs,h1,h2,h3,h4,q⟩:=q
  refine op_rep pins s σ H _ _ v u Q I rx ry ⟨_,_,_,rfl,rfl,h1,by omega,by omega,?_,q⟩
  have:(10000:Nat) <= sizeLine:=by decide
  rw [h4]
  omega
 ·exact q.elim
noncomputable def kEq (neg:Bool):R2:=fun x y H Q=>match x,y with
 | .int i,.int j=>Q (.bl (neg ^^ decide (i = j))) H
 | .str a,.str b=>Q (.bl (neg ^^ decide (a.cps.toList = b.cps.toList))) H
 | .bl a,.bl b=>Q (.bl (neg ^^ decide (a = b))) H
 | .non,.non=>Q (.bl (neg ^^ true)) H
 | .non,.int _=>Q (.bl (neg ^^ false)) H
 | .int _,.non=>Q (.bl (neg ^^ false)) H
 | .non,.str _=>Q (.bl (neg ^^ false)) H
 | .str _,.non=>Q (.bl (neg ^^ false)) H
 | _,_=>False
theorem V_str_eq (a b:Str):decide (V.str a = V.str b) = decide (a.cps.toList = b.cps.toList):=by
 by_cases h:a.cps.toList = b.cps.toList
 ·have:a = b:=by rw [<- st_eta a,h,st_eta]
  subst this
  simp
 ·rw [decide_eq_false h,decide_eq_false (fun z=>h (by cases z; rfl))]
theorem kEq_eq:∀ x y H Q,kEq false x y H Q -> rEq x y H Q:=fun x y H Q q=>by
 unfold kEq at q
 split at q <;> first
  | exact q.elim
  | (refine ⟨rfl,?_⟩; first | (rw [V_str_eq]; simpa using q) | simpa using q)
theorem kEq_ne:∀ x y H Q,kEq true x y H Q -> rNe x y H Q:=fun x y H Q q=>by
 unfold kEq at q
 split at q <;> first
  | exact q.elim
  | (refine ⟨rfl,?_⟩; first | (rw [V_str_eq]; simpa using q) | simpa using q)
theorem op_eqK:OpR X (compareOp .Eq) (kEq false):=op_eq.imp kEq_eq
theorem op_neK:OpR X (compareOp .NotEq) (kEq true):=op_ne.imp kEq_ne
noncomputable abbrev kLt:R2:=kI0 fun i j=>.bl (decide (i < j))
noncomputable abbrev kLe:R2:=kI0 fun i j=>.bl (decide (i <= j))
noncomputable abbrev kGt:R2:=kI0 fun i j=>.bl (decide (j < i))
theorem op_ltK:OpR X (compareOp .Lt) kLt:=op_lt.imp kI0_imp
theorem op_leK:OpR X (compareOp .LtE) kLe:=op_le.imp kI0_imp
theorem op_gtK:OpR X (compareOp .Gt) kGt:=op_gt.imp kI0_imp
noncomputable def kIs (neg:Bool):R2:=fun x y H Q=>match y with
 | .non=>Q (.bl (neg ^^ decide (x = .non))) H
 | _=>False
theorem op_isK:OpR X (compareOp .Is) (kIs false):=op_isN.imp fun x y H Q q=>by
 unfold kIs at q
 split at q
 ·exact ⟨rfl,by simpa using q⟩
 ·exact q.elim
noncomputable def kIn (K:Frag) (neg:Bool):R2:=fun x y H Q=>match x,y with
 | .str a,.str b=>∃ c,a.cps.toList = [c] /\ Q (.bl (neg ^^ decide (c ∈ b.cps.toList))) H
 | x,.ref p=>∃ xs,(SqL K H p xs \/ SqT K H p xs) /\ flatV x = true /\ xs.all flatV = true /\ Q (.bl (neg ^^ inV x xs)) H
 | _,_=>False
theorem op_inK:OpR X (compareOp .In) (kIn X.K false):=by
 intro pins s σ H x y v u Q I rx ry q
 unfold kIn at q
 split at q
 ·obtain ⟨c,e,q⟩:=q
  rename_i a b
  have ea:a = ⟨#[c]⟩:=by rw [<- st_eta a,e]
  subst ea
  refine op_in_str pins s σ H _ _ v u Q I rx ry ⟨_,_,rfl,rfl,?_⟩
  rw [StrLaws.found_one]
  simpa using q
 ·obtain ⟨xs,h1,h2,h3,q⟩:=q
  exact op_in_seq pins s σ H _ _ v u Q I rx ry ⟨_,_,rfl,h1,h2,h3,by simpa using q⟩
 ·exact q.elim
theorem op_notinK:OpR X (compareOp .NotIn) (kIn X.K true):=by
 intro pins s σ H x y v u Q I rx ry q
 unfold kIn at q
 split at q
 ·obtain ⟨c,e,q⟩:=q
  rename_i a b
  have ea:a = ⟨#[c]⟩:=by rw [<- st_eta a,e]
  subst ea
  refine op_notin_str pins s σ H _ _ v u Q I rx ry ⟨_,_,rfl,rfl,?_⟩
  rw [StrLaws.found_one]
  simpa using q
 ·obtain ⟨xs,h1,h2,h3,q⟩:=q
  exact op_notIn_seq pins s σ H _ _ v u Q I rx ry ⟨_,_,rfl,h1,h2,h3,by simpa using q⟩
 ·exact q.elim
noncomputable def kIx (K:Frag):R2:=fun x y H Q=>match x,y with
 | .str z,.int i=>z.cps.toList.length <= 100000 /\ ∃ c,atI z.cps.toList i = some c /\ Q (.str (st [c])) H
 | .ref p,.int i=>∃ xs v,(SqL K H p xs \/ SqT K H p xs) /\ atI xs i = some v /\ Q v H
 | _,_=>False
theorem big5:(100000:Nat) <= sizeLine:=by decide
theorem strlen (z:Str):z.length = z.cps.toList.length:=by simp [Str.length]
theorem ix_K:IxR X (kIx X.K):=ix_seq.imp fun x y H Q q=>by
 unfold kIx at q
 split at q
 ·obtain ⟨h,c,e,q⟩:=q
  exact .inr (.inr ⟨_,_,c,rfl,rfl,by rw [strlen]; exact Nat.le_trans h big5,e,q⟩)
 ·obtain ⟨xs,v,h | h,e,q⟩:=q
  ·exact .inl ⟨_,_,_,_,rfl,rfl,h,e,q⟩
  ·exact .inr (.inl ⟨_,_,_,_,rfl,rfl,h,e,q⟩)
 ·exact q.elim
noncomputable def kLen (K:Frag):List V -> Hp -> VK -> Prop:=fun xs H Q=>match xs with
 | [.str z]=>z.cps.toList.length <= 100000 /\ Q (.int z.cps.toList.length) H
 | [.ref p]=>∃ ys,(SqL K H p ys \/ SqT K H p ys) /\ Q (.int ys.length) H
 | _=>False
theorem call_lenK:CallR X (.builtin "len") (kLen X.K):=by
 intro pins s σ H xs us Q I r q
 unfold kLen at q
 split at q
 ·obtain ⟨h,q⟩:=q
  refine call_len_str pins s σ H _ us Q I r ⟨_,rfl,by rw [strlen]; exact Nat.le_trans h big5,?_⟩
  rw [strlen]
  exact q
 ·obtain ⟨ys,h,q⟩:=q
  exact call_len_seq pins s σ H _ us Q I r ⟨_,_,rfl,h,q⟩
 ·exact q.elim
noncomputable def up (t:TE):TE:=fun σ H Q=>∃ Q0:VK,t σ H Q0 /\ ∀ v H',Q0 v H' -> Q v H'
noncomputable def up2 (r:R2):R2:=fun x y H Q=>∃ Q0:VK,r x y H Q0 /\ ∀ v H',Q0 v H' -> Q v H'
theorem EP.imp {pins:List (Addr × Obj)} {σ:St} {Q Q':VK} {u:Value} {s:Shared} (h:EP X pins σ Q u s) (k:∀ v H',Q v H' -> Q' v H'):EP X pins σ Q' u s:=by
 obtain ⟨v,H',I,r,q⟩:=h
 exact ⟨v,H',I,r,k v H' q⟩
theorem PE.mono {e:Expr} {t:TE} (h:PE X e t):PE X e (up t):=fun pins s σ H Q I ⟨Q0,q,k⟩=>thn (h pins s σ H Q0 I q) fun u s' z=>z.imp k
theorem OpR.mono {f:Value -> Value -> Sem Value} {r:R2} (h:OpR X f r):OpR X f (up2 r):=fun pins s σ H x y v u Q I rx ry ⟨Q0,q,k⟩=>thn (h pins s σ H x y v u Q0 I rx ry q) fun u s' z=>z.imp k
noncomputable def blK (Q:Bool -> Hp -> Prop):VK:=fun x H'=>match x with | .bl k=>Q k H' | _=>False
theorem blK_ex {Q:Bool -> Hp -> Prop} {x:V} {H':Hp} (h:blK Q x H'):∃ k,x = .bl k /\ Q k H':=by
 unfold blK at h
 split at h
 ·exact ⟨_,rfl,h⟩
 ·exact h.elim
noncomputable def cTest (t:TE):TT:=fun σ H Q=>t σ H (blK Q)
theorem qt_val {e:Expr} {t:TE} (h:PE X e t) (he:∀ whole,isTrue e X.env whole = (do let v <- whole; standAt e.pos; holding [v] (truthy v)):=by intro _; rfl):PT X e (cTest t):=
 (pt_val h.mono he).imp fun σ H Q q=>⟨_,q,fun v H' z=>blK_ex z⟩
variable {a b c:Expr} {ta tb tc:TE} {pos:Pos} {rest:List Expr}
theorem qt_cmp {op:CmpOp} {r:R2} (ho:OpR X (compareOp op) r) (ha:PE X a ta) (hb:PE X b tb) (hm:behindInMarks op b = false:=by first | exact nomark _ | rfl):PT X (.Compare a [op] [b] pos) (cTest (tOp r ta tb)):=
 (pt_cmpR ho.mono ha.mono hb.mono hm).imp fun σ H Q q=>⟨_,q,fun x H1 z=>⟨_,z,fun y H2 z2=>⟨_,z2,fun v H' z3=>blK_ex z3⟩⟩⟩
theorem qe_cmp {op:CmpOp} {r:R2} (ho:OpR X (compareOp op) r) (ha:PE X a ta) (hb:PE X b tb) (hm:behindInMarks op b = false:=by first | exact nomark _ | rfl):PE X (.Compare a [op] [b] pos) (tOp r ta tb):=pe_cmpR ho ha hb hm
noncomputable def cAndV (ta tb:TE):TE:=fun σ H Q=>ta σ H (blK fun c H1=>if c = true then tb σ H1 Q else Q (.bl false) H1)
theorem qe_and (ha:PE X a ta) (hb:PE X (.BoolOp .And (b :: rest) pos) tb):PE X (.BoolOp .And (a :: b :: rest) pos) (cAndV ta tb):=(pe_and ha.mono hb).imp fun σ H Q q=>⟨_,q,fun v H' z=>blK_ex z⟩
variable {o e:Expr} {to te:TE} {apos cpos:Pos}
noncomputable def cApp (to te:TE):TE:=fun σ H Q=>to σ H fun x H1=>match x with
 | .ref l=>(∃ xs,H1 l = some (.lst xs)) /\ te σ H1 fun y H2=>∃ xs,H2 l = some (.lst xs) /\ xs.length < sizeLine /\ Q .non (upd H2 l (.lst (xs ++ [y])))
 | _=>False
theorem qe_append (ho:PE X o to) (he:PE X e te) (hbase:attributeBase o "append" X.env (eval o X.env) = eval o X.env:=by rfl)
  (hfew:((backTo cpos (starEach [e] X.env)).all (fun x=>!x.1) && (backToKw cpos (keywordEach [] X.env)).all (fun x=>x.1.isSome)
   && decide ([e].length + ([]:List Keyword).length + (if ([]:List Keyword).isEmpty then 0 else 1) < 30)) = true:=by rfl)
  (hline:(apos.endLine == cpos.line) = true:=by rfl) (hs:starEach [e] X.env = (false,eval e X.env) :: starEach [] X.env:=by rfl) (hplain:(backTo cpos (starEach [] X.env)).any (·.1) = false:=by rfl):
  PE X (.Call (.Attribute o "append" apos) [e] [] cpos) (cApp to te):=
 (pe_bm PySem.F.plainAttrs_list PySem.F.slot_list_append PySem.F.type_list_append mt_append ho.mono (pa_cons he.mono pa_nil hs) hbase hfew hline hs hplain).imp fun σ H Q q=>⟨_,q,fun x H1 z=>by
  split at z
  ·rename_i l
   obtain ⟨⟨xs,h⟩,z⟩:=z
   refine ⟨.inl ⟨rfl,_,SqL.of h⟩,_,z,fun y H2 z2=>?_⟩
   obtain ⟨xs2,h2,h3,z3⟩:=z2
   exact ⟨l,xs2,y,rfl,rfl,h2,h3,z3⟩
  ·exact z.elim⟩
noncomputable def cJoin1 (K:Frag) (te:TE):TE:=fun σ H Q=>te σ H fun x H1=>match x with
 | .ref l=>∃ cs:List Nat,SqL K H1 l (cs.map fun k=>V.str (st [k])) /\ cs.length <= 10000 /\ Q (.str (st cs)) H1
 | _=>False
theorem qe_join1 {j:Nat} {p1:Pos} (he:PE X e te) (hfew:((backTo cpos (starEach [e] X.env)).all (fun x=>!x.1) && (backToKw cpos (keywordEach [] X.env)).all (fun x=>x.1.isSome)
   && decide ([e].length + ([]:List Keyword).length + (if ([]:List Keyword).isEmpty then 0 else 1) < 30)) = true:=by rfl)
  (hline:(apos.endLine == cpos.line) = true:=by rfl) (hs:starEach [e] X.env = (false,eval e X.env) :: starEach [] X.env:=by rfl) (hplain:(backTo cpos (starEach [] X.env)).any (·.1) = false:=by rfl)
  (hbase:attributeBase (.Constant (.str (Str.ofString "")) j p1) "join" X.env (eval (.Constant (.str (Str.ofString "")) j p1) X.env) = eval (.Constant (.str (Str.ofString "")) j p1) X.env:=by rfl):
  PE X (.Call (.Attribute (.Constant (.str (Str.ofString "")) j p1) "join" apos) [e] [] cpos) (cJoin1 X.K te):=
 (pe_bm PySem.F.plainAttrs_str PySem.F.slot_str_join PySem.F.type_str_join mt_join1 pe_str (pa_cons he.mono pa_nil hs) hbase hfew hline hs hplain).imp fun σ H Q q=>⟨rfl,_,q,fun x H1 z=>by
  split at z
  ·obtain ⟨cs,h,h2,z⟩:=z
   exact ⟨_,cs,rfl,rfl,h,h2,z⟩
  ·exact z.elim⟩
end
section
variable {X:Cx} {tg a b e:Expr} {te ta tb:TE} {pos p:Pos}
noncomputable def cIter (K:Frag) (te:TE):TI:=fun σ H R=>te σ H fun x H1=>match x with
 | .str z=>R (Its z) H1
 | .ref a=>((∃ xs,SqL K H1 a xs) /\ R (Itl K a) H1) \/ ((∃ xs,SqT K H1 a xs) /\ R (Itt K a) H1)
 | _=>False
theorem qi_iter (he:PE X e te):PI X tg e (cIter X.K te):=by
 intro pins s σ H R I h
 refine thn (he pins s σ H _ I h) fun v s1 ⟨y,H1,I1,r1,q1⟩=>?_
 dsimp only at q1
 split at q1
 ·rename_i x
  obtain ⟨t,rfl⟩:=r1
  refine wpAny_pyIter_strU ?_
  refine ⟨s1.heap.objs.size,[s1.heap.objs.size],_,Its x,H1,rfl,I1.kept (t':=s1.toks) fun b o e=>Heap.get?_push_of_some _ e,turn_str x t _,⟨_,Heap.get?_push_size _ rfl,rfl,rfl⟩,fun b hb=>?_,q1⟩
  have e:b = s1.heap.objs.size:=by simpa using hb
  subst e
  exact I1.fpOk (Nat.le_refl _) (I1.hok.fresh (Nat.le_refl _))
 ·rename_i l
  cases r1
  rcases q1 with ⟨⟨xs,hq⟩,q⟩ | ⟨⟨xs,hq⟩,q⟩
  ·obtain ⟨its,rv,p,hz⟩:=I1.list hq
   refine wpAny_pyIter_list p.isList ?_
   refine ⟨s1.heap.objs.size,[s1.heap.objs.size],_,_,H1,rfl,I1.kept (t':=s1.toks) fun b o e=>Heap.get?_push_of_some _ e,turn_list l _,⟨_,Heap.get?_push_size _ rfl,rfl,rfl⟩,fun b hb=>?_,q⟩
   have e:b = s1.heap.objs.size:=by simpa using hb
   subst e
   exact I1.fpOk (Nat.le_refl _) (I1.hok.fresh (Nat.le_refl _))
  ·obtain ⟨its,rv,p,hz⟩:=I1.tuple hq
   refine wpAny_pyIter_tuple (show s1.heap.IsTuple l its.toArray from p) ?_
   refine ⟨s1.heap.objs.size,[s1.heap.objs.size],_,_,H1,rfl,I1.kept (t':=s1.toks) fun b o e=>Heap.get?_push_of_some _ e,turn_tuple l _,⟨_,Heap.get?_push_size _ rfl,rfl,rfl⟩,fun b hb=>?_,q⟩
   have e:b = s1.heap.objs.size:=by simpa using hb
   subst e
   exact I1.fpOk (Nat.le_refl _) (I1.hok.fresh (Nat.le_refl _))
 ·exact q1.elim
noncomputable def cRng1 (te:TE):TI:=fun σ H R=>te σ H fun x H1=>match x with
 | .int j=>-1000000 <= j /\ j <= 1000000 /\ R (Itr 0 j.toNat) H1
 | _=>False
theorem qi_range1 (hg:Gl X "range") (hm:X.mg "range" = none) (ha:PE X a ta) (hs:starEach [a] X.env = [(false,eval a X.env)]:=by rfl):PI X tg (.Call (.Name "range" p) [a] [] pos) (cRng1 ta):=
 (pi_range1 hg hm (pa_cons ha.mono pa_nil hs) hs).imp fun σ H R q=>⟨_,q,fun x H1 z=>by
  split at z
  ·exact ⟨_,rfl,by omega,by omega,z.2.2⟩
  ·exact z.elim⟩
def srcK (K:Frag) (H:Hp) (v:V) (R:Src -> Prop):Prop:=match v with
 | .str x=>R (.str x)
 | .ref a=>(∃ xs,SqL K H a xs) /\ R (.lst a)
 | _=>False
theorem srcK_ex {K:Frag} {H:Hp} {v:V} {R:Src -> Prop} (h:srcK K H v R):∃ S,SrcOf K H S v /\ R S:=by
 unfold srcK at h
 split at h
 ·exact ⟨.str _,rfl,h⟩
 ·exact ⟨.lst _,⟨rfl,h.1⟩,h.2⟩
 ·exact h.elim
end
def loopW (J:It) (g:TG) (tb:TS) (D:Ends) (σ:St) (H:Hp):Prop:=∃ W:Nat -> Nat -> St -> Hp -> Prop,(∃ m,W 0 m σ H) /\ ∀ i m σ H,W i m σ H ->
 (J.stop i H /\ D.nx σ H) \/ (J.go i H /\ ∃ N:St -> Hp -> Prop,(∀ σ' H',N σ' H' -> ∃ m',m' < m /\ W (i + 1) m' σ' H') /\ ∀ x H',J.yld i H x H' -> g x σ H' fun σ2 H2=>tb { D with nx:=N,ct:=N,bk:=D.nx } σ2 H2)
noncomputable def cFor (wi:TI) (g:TG) (tb:TS):TS:=fun D σ H=>wi σ H fun J H1=>loopW J g tb D σ H1
theorem qs_for {X:Cx} {tg iter:Expr} {body:List Stmt} {wi:TI} {g:TG} {tb:TS} {pos:Pos} (hp:PassesOwn (model X.prog X.w) X.A X.env X.xe) (hc:X.calm = true) (hi:PI X tg iter wi) (hg:PG X tg g) (hb:PSs X body tb)
  (hs:∀ x,foldedSetIterable iter X.env x = pure x:=by intro _; rfl):PS X (.For tg iter body [] pos) (cFor wi g tb):=ps_for hp hc hi hg hb hs
section
variable {K:Frag} {g:TG} {tb:TS} {D:Ends} {σ:St} {H:Hp}
noncomputable abbrev Ends.turn (D:Ends) (N:St -> Hp -> Prop):Ends:={ D with nx:=N,ct:=N,bk:=D.nx }
theorem loop_str {l:List Nat} (Pv:Nat -> St -> Hp -> Prop) (h0:Pv 0 σ H) (hs:∀ i c σ H,l[i]? = some c -> Pv i σ H -> g (.str (st [c])) σ H fun σ2 H2=>tb (D.turn (Pv (i + 1))) σ2 H2) (hd:∀ σ H,Pv l.length σ H -> D.nx σ H):
  loopW (Its (st l)) g tb D σ H:=
 for_it (n:=l.length) Pv h0 (fun i σ H hi _=>by show i < (st l).cps.size; simpa using hi) (fun σ H _=>by show (st l).cps.size <= l.length; simp)
  (fun i σ H x H' hi p y=>by
   obtain ⟨rfl,c,hc,rfl⟩:=y
   exact hs i c σ _ (by simpa using hc) p) hd
theorem loop_list {p:Addr} {xs:List V} (Pv:Nat -> St -> Hp -> Prop) (h0:Pv 0 σ H) (hl:∀ i σ H,i <= xs.length -> Pv i σ H -> SqL K H p xs)
  (hs:∀ i x σ H,xs[i]? = some x -> Pv i σ H -> g x σ H fun σ2 H2=>tb (D.turn (Pv (i + 1))) σ2 H2) (hd:∀ σ H,Pv xs.length σ H -> D.nx σ H):loopW (Itl K p) g tb D σ H:=for_list Pv h0 hl hs hd
theorem loop_items {α:Type} (item:α -> V) (xs:List α) {p:Addr} (Pv:Nat -> St -> Hp -> Prop) (h0:Pv 0 σ H) (hl:∀ i σ H,i <= xs.length -> Pv i σ H -> SqL K H p (xs.map item))
  (hs:∀ i x σ H,xs[i]? = some x -> Pv i σ H -> g (item x) σ H fun σ2 H2=>tb (D.turn (Pv (i + 1))) σ2 H2) (hd:∀ σ H,Pv xs.length σ H -> D.nx σ H):loopW (Itl K p) g tb D σ H:=
 loop_list (xs:=xs.map item) Pv h0 (fun i σ H hi=>hl i σ H (by simpa using hi)) (fun i x σ H hx p=>by
  rw [List.getElem?_map] at hx
  obtain ⟨y,hy,rfl⟩:=Option.map_eq_some_iff.mp hx
  exact hs i y σ H hy p) (fun σ H p=>hd σ H (by simpa using p))
theorem loop_tup {p:Addr} {xs:List V} (Pv:Nat -> St -> Hp -> Prop) (h0:Pv 0 σ H) (hl:∀ i σ H,i <= xs.length -> Pv i σ H -> SqT K H p xs)
  (hs:∀ i x σ H,xs[i]? = some x -> Pv i σ H -> g x σ H fun σ2 H2=>tb (D.turn (Pv (i + 1))) σ2 H2) (hd:∀ σ H,Pv xs.length σ H -> D.nx σ H):loopW (Itt K p) g tb D σ H:=for_tup Pv h0 hl hs hd
theorem loop_range {lo:Int} {n:Nat} (Pv:Nat -> St -> Hp -> Prop) (h0:Pv 0 σ H) (hs:∀ i σ H,i < n -> Pv i σ H -> g (.int (lo + i)) σ H fun σ2 H2=>tb (D.turn (Pv (i + 1))) σ2 H2) (hd:∀ σ H,Pv n σ H -> D.nx σ H):
  loopW (Itr lo n) g tb D σ H:=for_range Pv h0 hs hd
noncomputable def SrcVals (K:Frag) (H:Hp):Src -> List V -> Prop
 | .str x,xs=>xs = x.cps.toList.map fun c=>V.str (st [c])
 | .lst a,xs=>SqL K H a xs
theorem SrcVals.go {S:Src} {xs:List V} {i:Nat} (h:SrcVals K H S xs) (hi:i < xs.length):SrcGo K H S i:=by
 cases S with
 | str x=>
  have e:xs = x.cps.toList.map fun c=>V.str (st [c]):=h
  subst e
  show i < x.cps.size
  simpa using hi
 | lst a=>exact ⟨xs,xs[i],h,by simp [hi]⟩
theorem SrcVals.stop {S:Src} {xs:List V} {i:Nat} (h:SrcVals K H S xs) (hi:xs.length <= i):SrcEnd K H S i:=by
 cases S with
 | str x=>
  have e:xs = x.cps.toList.map fun c=>V.str (st [c]):=h
  subst e
  show x.cps.size <= i
  simpa using hi
 | lst a=>exact ⟨xs,h,hi⟩
theorem SrcVals.at {S:Src} {xs:List V} {i:Nat} {v:V} (h:SrcVals K H S xs) (q:SrcAt K H S i v):xs[i]? = some v:=by
 cases S with
 | str x=>
  have e:xs = x.cps.toList.map fun c=>V.str (st [c]):=h
  subst e
  obtain ⟨c,hc,rfl⟩:=q
  simp [hc]
 | lst a=>exact q xs h
theorem SqT.upd_same {p:Addr} {xs:List V}:SqT K (upd H p (.tup xs)) p xs:=SqT.of L2.upd_same
end
def compW (J:It) (g:TG) (tc:TT) (te:TE) (σc:St) (D:Addr) (Q:VK) (H:Hp):Prop:=
 ∃ W:Nat -> Nat -> List V -> Hp -> Prop,(∃ m,W 0 m [] (upd H D (.lst []))) /\ ∀ i m acc H2,W i m acc H2 ->
  (J.stop i H2 /\ Q (.ref D) H2) \/ (J.go i H2 /\ ∀ x H3,J.yld i H2 x H3 -> g x σc H3 fun σ4 H4=>tc σ4 H4 fun b H5=>if b = true then
   te σ4 H5 fun v H6=>H6 D = some (.lst acc) /\ acc.length < sizeLine /\ ∃ m',m' < m /\ W (i + 1) m' (acc ++ [v]) (upd H6 D (.lst (acc ++ [v]))) else ∃ m',m' < m /\ W (i + 1) m' acc H5)
noncomputable def cComp (nt:Nat) (fi:List Nat) (wi:TI) (g:TG) (tc:TT) (te:TE):TE:=fun σ H Q=>wi σ H fun J H1=>∀ D,H1 D = none -> compW J g tc te (compσ nt fi σ) D Q H1
theorem qe_comp {X:Cx} {elt tg iter:Expr} {ifs:List Expr} {scope:Scope} {pos:Pos} {wi:TI} {g:TG} {tc:TT} {te:TE} {nt:Nat} {fi:List Nat} {N':List Str} (hcalm:X.calm = true)
  (S:CScope scope) (cn:CNames X scope nt fi N') (gk:GK nt g) (hi:PI X tg iter wi)
  (hg:∀ cl C s H ex,PG (cxC X scope cl N' C s H ex) tg g) (hc:∀ cl C s H ex,PIf (cxC X scope cl N' C s H ex) ifs tc) (he:∀ cl C s H ex,PE (cxC X scope cl N' C s H ex) elt te)
  (hs:∀ x,foldedSetIterable iter X.env x = pure x:=by intro _; rfl):PE X (.ListComp elt [⟨tg,iter,ifs,0⟩] scope pos) (cComp nt fi wi g tc te):=pe_comp hcalm S cn gk hi hg hc he hs
section
variable {K:Frag} {J:It} {g:TG} {tc:TT} {te:TE} {σc:St} {D:Addr} {Q:VK} {H:Hp}
theorem range_flat_succ {α:Type} (f:Nat -> List α) (n:Nat):(List.range (n + 1)).flatMap f = (List.range n).flatMap f ++ f n:=by
 rw [List.range_succ,List.flatMap_append]
 simp
theorem range_flat_len {α:Type} (f:Nat -> List α) (hf:∀ i,(f i).length <= 1) (n:Nat):((List.range n).flatMap f).length <= n:=by
 induction n with
 | zero=>simp
 | succ n ih=>
  rw [range_flat_succ,List.length_append]
  have:=hf n
  omega
theorem comp_it {n:Nat} (f:Nat -> List V) (hfree:H D = none) (hn:n <= 100000) (hf:∀ i,(f i).length <= 1) (hy:∀ i H x H',J.yld i H x H' -> Same H H')
  (hgo:∀ i H',i < n -> Same H H' -> J.go i H') (hst:∀ H',Same H H' -> J.stop n H')
  (hs:∀ i H1 x H2 (out:VK) (non:Hp -> Prop),i < n -> Same H H1 -> J.yld i H1 x H2 -> (∀ v H6,f i = [v] -> Same H2 H6 -> out v H6) -> (∀ H5,f i = [] -> Same H2 H5 -> non H5) ->
   g x σc H2 fun σ4 H4=>tc σ4 H4 fun b H5=>if b = true then te σ4 H5 out else non H5)
  (hq:∀ H',Same H H' -> H' D = some (.lst ((List.range n).flatMap f)) -> Q (.ref D) H'):compW J g tc te σc D Q H:=by
 refine ⟨fun i m acc H2=>m = n - i /\ i <= n /\ acc = (List.range i).flatMap f /\ Same H H2 /\ H2 D = some (.lst acc),⟨n,by simp,Nat.zero_le _,by simp,same_new hfree _,upd_same⟩,?_⟩
 rintro i m acc H2 ⟨rfl,hi,rfl,sm,hD⟩
 by_cases hlt:i < n
 ·refine .inr ⟨hgo i H2 hlt sm,fun x H3 y=>?_⟩
  have s23:=hy i H2 x H3 y
  refine hs i H2 x H3 _ _ hlt sm y (fun v H6 e s6=>?_) fun H5 e s5=>?_
  ·refine ⟨s6 _ _ (s23 _ _ hD),Nat.lt_of_le_of_lt (range_flat_len f hf i) (sizeBig (by omega)),n - (i + 1),by omega,rfl,hlt,?_,?_,upd_same⟩
   ·rw [range_flat_succ,e]
   ·exact same_upd (sm.trans (s23.trans s6)) hfree
  ·refine ⟨n - (i + 1),by omega,rfl,hlt,?_,sm.trans (s23.trans s5),s5 _ _ (s23 _ _ hD)⟩
   rw [range_flat_succ,e,List.append_nil]
 ·have e:i = n:=by omega
  subst e
  exact .inl ⟨hst H2 sm,hq H2 sm hD⟩
noncomputable def atH {α β:Type} (xs:List α) (h:α -> List β) (i:Nat):List β:=((xs[i]?).map h).getD []
theorem atH_some {α β:Type} {xs:List α} {h:α -> List β} {i:Nat} {x:α} (e:xs[i]? = some x):atH xs h i = h x:=by simp [atH,e]
theorem atH_len {α β:Type} {xs:List α} {h:α -> List β} (hf:∀ x,(h x).length <= 1) (i:Nat):(atH xs h i).length <= 1:=by
 unfold atH
 cases xs[i]? with
 | none=>simp
 | some x=>simpa using hf x
theorem flat_at {α β:Type} (xs:List α) (h:α -> List β):(List.range xs.length).flatMap (atH xs h) = xs.flatMap h:=by
 induction xs with
 | nil=>rfl
 | cons a xs ih=>
  rw [List.length_cons,List.range_succ_eq_map,List.flatMap_cons,List.flatMap_map,List.flatMap_cons,<- ih]
  rfl
section
variable {α:Type} (item:α -> V) (xs:List α) (h:α -> List V)
theorem comp_list {p:Addr} (hfree:H D = none) (hl:SqL K H p (xs.map item)) (hn:xs.length <= 100000) (hf:∀ x,(h x).length <= 1)
  (hs:∀ x H1 (out:VK) (non:Hp -> Prop),x ∈ xs -> Same H H1 -> (∀ v H6,h x = [v] -> Same H1 H6 -> out v H6) -> (∀ H5,h x = [] -> Same H1 H5 -> non H5) ->
   g (item x) σc H1 fun σ4 H4=>tc σ4 H4 fun b H5=>if b = true then te σ4 H5 out else non H5)
  (hq:∀ H',Same H H' -> H' D = some (.lst (xs.flatMap h)) -> Q (.ref D) H'):compW (Itl K p) g tc te σc D Q H:=by
 refine comp_it (n:=xs.length) (atH xs h) hfree hn (atH_len hf) (fun i H x H' y=>?_) (fun i H' hi s=>?_) (fun H' s=>?_) (fun i H1 x H2 out non hi s y ho hnn=>?_) fun H' s q=>?_
 ·rw [y.1]
  exact Same.refl _
 ·exact ⟨_,item xs[i],s.seq hl,by simp [hi]⟩
 ·exact ⟨_,s.seq hl,by simp⟩
 ·obtain ⟨rfl,y⟩:=y
  have e:=y _ (s.seq hl)
  rw [List.getElem?_map,List.getElem?_eq_getElem hi] at e
  have e2:item xs[i] = x:=Option.some.inj e
  subst e2
  simp only [atH_some (List.getElem?_eq_getElem hi)] at ho hnn
  exact hs xs[i] _ out non (List.getElem_mem hi) s ho hnn
 ·rw [flat_at] at q
  exact hq H' s q
theorem comp_range {lo:Int} {n:Nat} {h:Nat -> List V} (hfree:H D = none) (hn:n <= 100000) (hf:∀ x,(h x).length <= 1)
  (hs:∀ i H1 (out:VK) (non:Hp -> Prop),i < n -> Same H H1 -> (∀ v H6,h i = [v] -> Same H1 H6 -> out v H6) -> (∀ H5,h i = [] -> Same H1 H5 -> non H5) ->
   g (.int (lo + i)) σc H1 fun σ4 H4=>tc σ4 H4 fun b H5=>if b = true then te σ4 H5 out else non H5)
  (hq:∀ H',Same H H' -> H' D = some (.lst ((List.range n).flatMap h)) -> Q (.ref D) H'):compW (Itr lo n) g tc te σc D Q H:=by
 refine comp_it (n:=n) h hfree hn hf (fun i H x H' y=>?_) (fun i H' hi s=>hi) (fun H' s=>Nat.le_refl _) (fun i H1 x H2 out non hi s y ho hnn=>?_) hq
 ·rw [y.1]
  exact Same.refl _
 ·obtain ⟨rfl,rfl⟩:=y
  exact hs i _ out non hi s ho hnn
end
end
noncomputable def cnOk (N:List Str) (sc scope:Scope) (nt:Nat) (fi:List Nat) (N':List Str):Bool:=
 N'.length == nt + fi.length && ((List.range fi.length).all fun k=>match fi[k]? with
  | some j=>match N'[nt + k]?,N[j]? with
   | some x,some y=>x == y && scope.names.lookup x == some NameKind.free
   | _,_=>false
  | none=>false) && scope.names.all fun y=>y.2 != NameKind.free || (sc.names.lookup y.1 == some NameKind.cell || sc.names.lookup y.1 == some NameKind.free)
theorem cnames {X:Cx} {N:List Str} {sc scope:Scope} {nt:Nat} {fi:List Nat} {N':List Str} (hN:X.N = N) (hsc:X.env.scope = sc) (h:cnOk N sc scope nt fi N' = true):CNames X scope nt fi N':=by
 unfold cnOk at h
 simp only [Bool.and_eq_true,List.all_eq_true,List.mem_range,beq_iff_eq] at h
 obtain ⟨⟨h1,h2⟩,h3⟩:=h
 refine ⟨h1,fun k j e=>?_,fun y hy e=>?_⟩
 ·have hk:k < fi.length:=(List.getElem?_eq_some_iff.mp e).1
  have q:=h2 k hk
  rw [e] at q
  dsimp only at q
  split at q
  ·rename_i x y e1 e2
   simp only [Bool.and_eq_true,beq_iff_eq] at q
   obtain ⟨rfl,q⟩:=q
   exact ⟨_,e1,by rw [hN]; exact e2,q⟩
  ·cases q
 ·have q:=h3 y hy
  rw [e] at q
  rw [hsc]
  simpa using q
theorem cscope {scope:Scope} (hk:scope.kind = .function) (h:(scope.names.all fun y=>y.2 != NameKind.cell && (y.2 != NameKind.local || scope.names.lookup y.1 == some NameKind.local)) = true):CScope scope:=by
 simp only [List.all_eq_true,Bool.and_eq_true] at h
 refine ⟨hk,fun y hy e=>?_,fun y hy e=>?_⟩
 ·have:=(h y hy).1
  rw [e] at this
  exact absurd this (by decide)
 ·have:=(h y hy).2
  rw [e] at this
  simpa using this
theorem bb_len:bootBuiltins "len" = some (.builtin "len"):=by decide +kernel
theorem bb_sum:bootBuiltins "sum" = some (.builtin "sum"):=by decide +kernel
theorem bb_min:bootBuiltins "min" = some (.builtin "min"):=by decide +kernel
theorem bb_max:bootBuiltins "max" = some (.builtin "max"):=by decide +kernel
theorem bb_sorted:bootBuiltins "sorted" = some (.builtin "sorted"):=by decide +kernel
theorem bb_isinstance:bootBuiltins "isinstance" = some (.builtin "isinstance"):=by decide +kernel
theorem bb_str:bootBuiltins "str" = some (.type "str"):=by decide +kernel
theorem bb_int:bootBuiltins "int" = some (.type "int"):=by decide +kernel
theorem bb_bool:bootBuiltins "bool" = some (.type "bool"):=by decide +kernel
theorem bb_list:bootBuiltins "list" = some (.type "list"):=by decide +kernel
theorem bb_tuple:bootBuiltins "tuple" = some (.type "tuple"):=by decide +kernel
theorem bb_set:bootBuiltins "set" = some (.type "set"):=by decide +kernel
inductive Ty where
 | bool | int | str | list | tuple
noncomputable def Ty.nm:Ty -> String
 | .bool => "bool" | .int => "int" | .str => "str" | .list => "list" | .tuple => "tuple"
noncomputable def Ty.isBl:Ty -> Bool
 | .bool=>true | .int=>true | _=>false
noncomputable def Ty.isInt:Ty -> Bool
 | .int=>true | _=>false
noncomputable def Ty.isStr:Ty -> Bool
 | .str=>true | _=>false
noncomputable def Ty.isLst:Ty -> Bool
 | .list=>true | _=>false
noncomputable def Ty.isTup:Ty -> Bool
 | .tuple=>true | _=>false
section
variable {K:Frag}
theorem kit_non (n:Ty):PySem.W.kitOne K (.type "NoneType") (.type n.nm) = some false:=by cases n <;> with_unfolding_all rfl
theorem kit_bl (n:Ty):PySem.W.kitOne K (.type "bool") (.type n.nm) = some n.isBl:=by cases n <;> with_unfolding_all rfl
theorem kit_int (n:Ty):PySem.W.kitOne K (.type "int") (.type n.nm) = some n.isInt:=by cases n <;> with_unfolding_all rfl
theorem kit_str (n:Ty):PySem.W.kitOne K (.type "str") (.type n.nm) = some n.isStr:=by cases n <;> with_unfolding_all rfl
theorem kit_lst (n:Ty):PySem.W.kitOne K (.type "list") (.type n.nm) = some n.isLst:=by cases n <;> with_unfolding_all rfl
theorem kit_tup (n:Ty):PySem.W.kitOne K (.type "tuple") (.type n.nm) = some n.isTup:=by cases n <;> with_unfolding_all rfl
end
section
variable {X:Cx} {a b e:Expr} {ta tb te:TE} {pos p p2:Pos}
theorem qe_ty {x:Str} {n:String} (hg:Gl X x) (hm:X.mg x = none) (hv:bootBuiltins x = some (.type n)) (hn:x ≠ "__name__" := by decide) (hd:(x == ("__debug__" : Str)) = false:=by decide):PE X (.Name x pos) (tC (.ty n)):=pe_bltn (v:=.ty n) hg hm hv rfl hn hd
noncomputable def cIsI (n:Ty) (ta:TE):TE:=fun σ H Q=>ta σ H fun x H1=>match x with
 | .non=>Q (.bl false) H1
 | .bl _=>Q (.bl n.isBl) H1
 | .int _=>Q (.bl n.isInt) H1
 | .str _=>Q (.bl n.isStr) H1
 | .ref p=>((∃ xs,H1 p = some (.lst xs)) /\ Q (.bl n.isLst) H1) \/ ((∃ xs,H1 p = some (.tup xs)) /\ Q (.bl n.isTup) H1)
 | _=>False
theorem qe_isinst {x:Str} (n:Ty) (hg:Gl X "isinstance") (hm:X.mg "isinstance" = none) (ha:PE X a ta) (hg2:Gl X x) (hm2:X.mg x = none) (hv2:bootBuiltins x = some (.type n.nm)) (hn2:x ≠ "__name__" := by decide) (hd2:(x == ("__debug__" : Str)) = false:=by decide)
  (hs:starEach [a,.Name x p2] X.env = (false,eval a X.env) :: starEach [.Name x p2] X.env:=by rfl) (hpl:(backTo pos (starEach [.Name x p2] X.env)).any (·.1) = false:=by rfl):PE X (.Call (.Name "isinstance" p) [a,.Name x p2] [] pos) (cIsI n ta):=
 (pe_callB call_isinst hg hm bb_isinstance (pa_cons ha.mono (pa_cons (qe_ty hg2 hm2 hv2 hn2 hd2) pa_nil) hs) (he:=hs) (hpl:=hpl)).imp fun σ H Q q=>⟨_,q,fun v H1 z=>by
  show ∃ x n t b,[v,V.ty _] = [x,.ty n] /\ TyOf X.K H1 x t /\ PySem.W.kitOne X.K t (.type n) = some b /\ Q (.bl b) H1
  split at z
  ·exact ⟨_,_,_,_,rfl,.non,kit_non n,z⟩
  ·exact ⟨_,_,_,_,rfl,.bl _,kit_bl n,z⟩
  ·exact ⟨_,_,_,_,rfl,.int _,kit_int n,z⟩
  ·exact ⟨_,_,_,_,rfl,.str _,kit_str n,z⟩
  ·rcases z with ⟨⟨xs,h⟩,z⟩ | ⟨⟨xs,h⟩,z⟩
   ·exact ⟨_,_,_,_,rfl,.lst h,kit_lst n,z⟩
   ·exact ⟨_,_,_,_,rfl,.tup h,kit_tup n,z⟩
  ·exact z.elim⟩
noncomputable def kSl (K:Frag):V -> Option Int -> Option Int -> Hp -> VK -> Prop:=fun x lo hi H Q=>match x with
 | .str z=>match lo,hi with
  | none,some j=>z.cps.toList.length <= 100000 /\ 0 <= j /\ j <= z.cps.toList.length /\ Q (.str (st (z.cps.toList.take j.toNat))) H
  | some i,none=>z.cps.toList.length <= 100000 /\ 0 <= i /\ i <= z.cps.toList.length /\ Q (.str (st (z.cps.toList.drop i.toNat))) H
  | _,_=>False
 | .ref a=>∃ xs,SqL K H a xs /\ ∀ p,H p = none -> Q (.ref p) (upd H p (.lst (cutV xs lo hi)))
 | _=>False
theorem sl_K:SlR X (kSl X.K):=by
 refine (SlR.or sl_str sl_list).imp fun x lo hi H Q q=>?_
 unfold kSl at q
 split at q
 ·rename_i z
  split at q
  ·obtain ⟨h,h0,h1,q⟩:=q
   rename_i j
   obtain ⟨k,rfl⟩:∃ k:Nat,j = k:=⟨j.toNat,by omega⟩
   refine .inl ⟨z,rfl,by rw [strlen]; exact Nat.le_trans h big5,?_⟩
   have e:=slice_to z.cps.toList k (by omega)
   rw [st_eta] at e
   rw [e]
   simpa using q
  ·obtain ⟨h,h0,h1,q⟩:=q
   rename_i j
   obtain ⟨k,rfl⟩:∃ k:Nat,j = k:=⟨j.toNat,by omega⟩
   refine .inl ⟨z,rfl,by rw [strlen]; exact Nat.le_trans h big5,?_⟩
   have e:=slice_from z.cps.toList k (by omega)
   rw [st_eta] at e
   rw [e]
   simpa using q
  ·exact q.elim
 ·obtain ⟨xs,h,q⟩:=q
  exact .inr ⟨_,_,rfl,h,q⟩
 ·exact q.elim
noncomputable def kEqNil (K:Frag):R2:=fun x y H Q=>match x,y with
 | .ref a,.ref b=>∃ xs,SqL K H a xs /\ SqL K H b [] /\ Q (.bl (decide (xs = []))) H
 | _,_=>False
theorem op_eqL (hu:X.A.units < cLine):OpR X (compareOp .Eq) (kEqNil X.K):=(op_eq_nil hu).imp fun x y H Q q=>by
 unfold kEqNil at q
 split at q
 ·obtain ⟨xs,h1,h2,q⟩:=q
  exact ⟨_,_,_,rfl,rfl,h1,h2,q⟩
 ·exact q.elim
theorem hu1 {k:Nat} {A:Around} (hr:Room k A):A.units < cLine:=hr.units0
end
section
variable {X:Cx} {a b e:Expr} {ta tb te:TE} {pos p apos cpos:Pos}
theorem ixE (K:Frag) (h:X.K = K):IxR X (kIx K):=by subst h; exact ix_K
theorem slE (K:Frag) (h:X.K = K):SlR X (kSl K):=by subst h; exact sl_K
theorem lenE (K:Frag) (h:X.K = K):CallR X (.builtin "len") (kLen K):=by subst h; exact call_lenK
theorem inE (K:Frag) (h:X.K = K):OpR X (compareOp .In) (kIn K false):=by subst h; exact op_inK
theorem notinE (K:Frag) (h:X.K = K):OpR X (compareOp .NotIn) (kIn K true):=by subst h; exact op_notinK
theorem eqNilE (K:Frag) (h:X.K = K) (hu:X.A.units < cLine):OpR X (compareOp .Eq) (kEqNil K):=by subst h; exact op_eqL hu
theorem joinE (K:Frag) (h:X.K = K) {j:Nat} {p1:Pos} (he:PE X e te) (hfew:((backTo cpos (starEach [e] X.env)).all (fun x=>!x.1) && (backToKw cpos (keywordEach [] X.env)).all (fun x=>x.1.isSome)
   && decide ([e].length + ([]:List Keyword).length + (if ([]:List Keyword).isEmpty then 0 else 1) < 30)) = true:=by rfl)
  (hline:(apos.endLine == cpos.line) = true:=by rfl) (hs:starEach [e] X.env = (false,eval e X.env) :: starEach [] X.env:=by rfl) (hplain:(backTo cpos (starEach [] X.env)).any (·.1) = false:=by rfl)
  (hbase:attributeBase (.Constant (.str (Str.ofString "")) j p1) "join" X.env (eval (.Constant (.str (Str.ofString "")) j p1) X.env) = eval (.Constant (.str (Str.ofString "")) j p1) X.env:=by rfl):
  PE X (.Call (.Attribute (.Constant (.str (Str.ofString "")) j p1) "join" apos) [e] [] cpos) (cJoin1 K te):=by subst h; exact qe_join1 he hfew hline hs hplain hbase
theorem iterE (K:Frag) (h:X.K = K) {tg:Expr} (he:PE X e te):PI X tg e (cIter K te):=by subst h; exact qi_iter he
theorem tupE (K:Frag) (h:X.K = K) {es:List Expr} {k:Nat} {t:TGs} {n:Nat} (hc:X.calm = true) (hp:PGs X es t) (hn:(assignEach es X.env).length = n:=by rfl) (hst:(assignEach es X.env).findIdx? (·.1) = none:=by rfl):PG X (.Tuple es k pos) (gTup K n t):=by subst h; exact pg_tup hc hp hn hst
end
section
variable {t u:TS} {te ta tb:TE} {tc:TT} {D:Ends} {σ:St} {H:Hp} {Q:VK} {R:Bool -> Hp -> Prop} {i:Nat} {v:V}
theorem a_cVar:cVar i σ H Q = (match σ[i]? with | some (some v)=>Q v H | _=>False):=rfl
theorem a_tC:tC v σ H Q = Q v H:=rfl
theorem a_tOp {r:R2}:tOp r ta tb σ H Q = ta σ H fun x H1=>tb σ H1 fun y H2=>r x y H2 Q:=rfl
theorem a_kAddI {a b:Int}:kAdd (.int a) (.int b) H Q = Q (.int (a + b)) H:=rfl
theorem a_kAddS {a b:List Nat}:kAdd (.str (st a)) (.str (st b)) H Q = (a.length + b.length <= 100000 /\ Q (.str (st (a ++ b))) H):=rfl
theorem a_kAddL {a b:Addr}:kAdd (.ref a) (.ref b) H Q = ∃ xs zs,H a = some (.lst xs) /\ H b = some (.lst zs) /\ xs.length + zs.length <= sizeLine /\ ∀ p,H p = none -> Q (.ref p) (upd H p (.lst (xs ++ zs))):=rfl
theorem a_kI {C:Int -> Int -> Prop} {g:Int -> Int -> V} {a b:Int}:kI C g (.int a) (.int b) H Q = (C a b /\ Q (g a b) H):=rfl
theorem a_kI0 {g:Int -> Int -> V} {a b:Int}:kI0 g (.int a) (.int b) H Q = Q (g a b) H:=rfl
theorem a_kMulI {a b:Int}:kMul (.int a) (.int b) H Q = (CMul a b /\ Q (.int (a * b)) H):=rfl
theorem a_kMulS {c:Nat} {n:Int}:kMul (.str (st [c])) (.int n) H Q = (0 <= n /\ n <= 10000 /\ Q (.str (st (List.replicate n.toNat c))) H):=by
 show (∃ d,[c] = [d] /\ 0 <= n /\ n <= 10000 /\ Q (.str (st (List.replicate n.toNat d))) H) = _
 refine propext ⟨?_,fun h=>⟨c,rfl,h⟩⟩
 rintro ⟨d,e,h⟩
 cases e
 exact h
theorem a_kEqI {n:Bool} {a b:Int}:kEq n (.int a) (.int b) H Q = Q (.bl (n ^^ decide (a = b))) H:=rfl
theorem a_kEqS {n:Bool} {a b:List Nat}:kEq n (.str (st a)) (.str (st b)) H Q = Q (.bl (n ^^ decide (a = b))) H:=rfl
theorem a_kEqB {n:Bool} {a b:Bool}:kEq n (.bl a) (.bl b) H Q = Q (.bl (n ^^ decide (a = b))) H:=rfl
theorem a_kEqNS {n:Bool} {b:Str}:kEq n .non (.str b) H Q = Q (.bl (n ^^ false)) H:=rfl
theorem a_kEqSN {n:Bool} {b:Str}:kEq n (.str b) .non H Q = Q (.bl (n ^^ false)) H:=rfl
theorem a_kEqNN {n:Bool}:kEq n .non .non H Q = Q (.bl (n ^^ true)) H:=rfl
theorem a_kIs {n:Bool} {x:V}:kIs n x .non H Q = Q (.bl (n ^^ decide (x = .non))) H:=rfl
theorem a_kInS {K:Frag} {n:Bool} {c:Nat} {b:List Nat}:kIn K n (.str (st [c])) (.str (st b)) H Q = Q (.bl (n ^^ decide (c ∈ b))) H:=by
 show (∃ d,[c] = [d] /\ Q (.bl (n ^^ decide (d ∈ b))) H) = _
 refine propext ⟨?_,fun h=>⟨c,rfl,h⟩⟩
 rintro ⟨d,e,h⟩
 cases e
 exact h
theorem a_kInL {K:Frag} {n:Bool} {x:V} {p:Addr}:kIn K n x (.ref p) H Q = ∃ xs,(SqL K H p xs \/ SqT K H p xs) /\ flatV x = true /\ xs.all flatV = true /\ Q (.bl (n ^^ inV x xs)) H:=by
 cases x <;> rfl
theorem a_kIxS {K:Frag} {l:List Nat} {j:Int}:kIx K (.str (st l)) (.int j) H Q = (l.length <= 100000 /\ ∃ c,atI l j = some c /\ Q (.str (st [c])) H):=rfl
theorem a_kIxL {K:Frag} {p:Addr} {j:Int}:kIx K (.ref p) (.int j) H Q = ∃ xs v,(SqL K H p xs \/ SqT K H p xs) /\ atI xs j = some v /\ Q v H:=rfl
theorem a_kLenS {K:Frag} {l:List Nat}:kLen K [.str (st l)] H Q = (l.length <= 100000 /\ Q (.int l.length) H):=rfl
theorem a_kLenL {K:Frag} {p:Addr}:kLen K [.ref p] H Q = ∃ ys,(SqL K H p ys \/ SqT K H p ys) /\ Q (.int ys.length) H:=rfl
theorem a_kSlTo {K:Frag} {l:List Nat} {j:Int}:kSl K (.str (st l)) none (some j) H Q = (l.length <= 100000 /\ 0 <= j /\ j <= l.length /\ Q (.str (st (l.take j.toNat))) H):=rfl
theorem a_kSlFrom {K:Frag} {l:List Nat} {j:Int}:kSl K (.str (st l)) (some j) none H Q = (l.length <= 100000 /\ 0 <= j /\ j <= l.length /\ Q (.str (st (l.drop j.toNat))) H):=rfl
theorem a_kSlL {K:Frag} {p:Addr} {lo hi:Option Int}:kSl K (.ref p) lo hi H Q = ∃ xs,SqL K H p xs /\ ∀ q,H q = none -> Q (.ref q) (upd H q (.lst (cutV xs lo hi))):=rfl
theorem a_tSl {r:V -> Option Int -> Option Int -> Hp -> VK -> Prop} {tl th:TO}:tSl r te tl th σ H Q = te σ H fun x H1=>tl σ H1 fun l H2=>th σ H2 fun u H3=>r x l u H3 Q:=rfl
theorem a_tNoPart {Q:Option Int -> Hp -> Prop}:tNoPart σ H Q = Q none H:=rfl
noncomputable def cPart (t:TE):TO:=fun σ H Q=>t σ H fun x H1=>match x with | .int i=>Q (some i) H1 | _=>False
theorem a_cPart {Q:Option Int -> Hp -> Prop}:cPart te σ H Q = te σ H fun x H1=>match x with | .int i=>Q (some i) H1 | _=>False:=rfl
theorem a_kEqNil {K:Frag} {a b:Addr}:kEqNil K (.ref a) (.ref b) H Q = ∃ xs,SqL K H a xs /\ SqL K H b [] /\ Q (.bl (decide (xs = []))) H:=rfl
theorem a_cIsI {n:Ty}:cIsI n ta σ H Q = ta σ H fun x H1=>match x with
 | .non=>Q (.bl false) H1
 | .bl _=>Q (.bl n.isBl) H1
 | .int _=>Q (.bl n.isInt) H1
 | .str _=>Q (.bl n.isStr) H1
 | .ref p=>((∃ xs,H1 p = some (.lst xs)) /\ Q (.bl n.isLst) H1) \/ ((∃ xs,H1 p = some (.tup xs)) /\ Q (.bl n.isTup) H1)
 | _=>False:=rfl
theorem a_cTest:cTest te σ H R = te σ H (blK R):=rfl
theorem a_blK {b:Bool}:blK R (.bl b) H = R b H:=rfl
theorem a_cAndV:cAndV ta tb σ H Q = ta σ H (blK fun c H1=>if c = true then tb σ H1 Q else Q (.bl false) H1):=rfl
theorem a_tAnd {t u:TT}:tAnd t u σ H R = t σ H fun c H1=>if c = true then u σ H1 R else R false H1:=rfl
theorem a_tOr {t u:TT}:tOr t u σ H R = t σ H fun c H1=>if c = true then R true H1 else u σ H1 R:=rfl
theorem a_tNot {t:TT}:tNot t σ H R = t σ H fun c H1=>R (!c) H1:=rfl
theorem a_tYes:tYes σ H R = R true H:=rfl
theorem a_cApp:cApp ta te σ H Q = ta σ H fun x H1=>match x with
 | .ref l=>(∃ xs,H1 l = some (.lst xs)) /\ te σ H1 fun y H2=>∃ xs,H2 l = some (.lst xs) /\ xs.length < sizeLine /\ Q .non (upd H2 l (.lst (xs ++ [y])))
 | _=>False:=rfl
theorem a_cJoin1 {K:Frag}:cJoin1 K te σ H Q = te σ H fun x H1=>match x with
 | .ref l=>∃ cs:List Nat,SqL K H1 l (cs.map fun k=>V.str (st [k])) /\ cs.length <= 10000 /\ Q (.str (st cs)) H1
 | _=>False:=rfl
theorem a_tNil {R:List V -> Hp -> Prop}:tNil σ H R = R [] H:=rfl
theorem a_tCons {t:TA} {R:List V -> Hp -> Prop}:tCons ta t σ H R = ta σ H fun x H1=>t σ H1 fun xs H2=>R (x :: xs) H2:=rfl
theorem a_tCall {sp:Sp} {E:XK} {t:TA}:tCall sp [] E t σ H Q = t σ H fun vs H1=>sp vs H1 Q E:=by
 unfold tCall
 simp only [List.append_nil]
theorem a_tCB {r:List V -> Hp -> VK -> Prop} {t:TA}:tCB r t σ H Q = t σ H fun vs H1=>r vs H1 Q:=rfl
theorem a_tLst {t:TA}:tLst t σ H Q = t σ H fun xs H1=>xs.length <= sizeLine /\ ∀ p,H1 p = none -> Q (.ref p) (upd H1 p (.lst xs)):=rfl
theorem a_tTup {t:TA}:tTup t σ H Q = t σ H fun xs H1=>xs.length <= sizeLine /\ ∀ p,H1 p = none -> Q (.ref p) (upd H1 p (.tup xs)):=rfl
theorem a_tNext:tNext D σ H = D.nx σ H:=rfl
theorem a_tSeq:tSeq t u D σ H = t { D with nx:=u D } σ H:=rfl
theorem a_tDrop:tDrop te D σ H = te σ H fun _ H1=>D.nx σ H1:=rfl
theorem a_tRet:tRet te D σ H = te σ H D.rt:=rfl
theorem a_tIfS:tIfS tc t u D σ H = tc σ H fun b H1=>if b = true then t D σ H1 else u D σ H1:=rfl
theorem a_tAsg {g:TG}:tAsg te g D σ H = te σ H fun x H1=>g x σ H1 D.nx:=rfl
theorem a_gName {R:St -> Hp -> Prop}:gName i v σ H R = R (σ.set i (some v)) H:=rfl
theorem a_tJoin:tJoin t u D σ H = ∃ J:St -> Hp -> Prop,t { D with nx:=J } σ H /\ ∀ σ' H',J σ' H' -> u D σ' H':=rfl
theorem a_cFor {wi:TI} {g:TG}:cFor wi g t D σ H = wi σ H fun J H1=>loopW J g t D σ H1:=rfl
theorem a_cIter {K:Frag} {R:It -> Hp -> Prop}:cIter K te σ H R = te σ H fun x H1=>match x with
 | .str z=>R (Its z) H1
 | .ref a=>((∃ xs,SqL K H1 a xs) /\ R (Itl K a) H1) \/ ((∃ xs,SqT K H1 a xs) /\ R (Itt K a) H1)
 | _=>False:=rfl
theorem a_cRng1 {R:It -> Hp -> Prop}:cRng1 te σ H R = te σ H fun x H1=>match x with
 | .int j=>-1000000 <= j /\ j <= 1000000 /\ R (Itr 0 j.toNat) H1
 | _=>False:=rfl
theorem a_srcKS {K:Frag} {z:Str} {R:Src -> Prop}:srcK K H (.str z) R = R (.str z):=rfl
theorem a_srcKL {K:Frag} {p:Addr} {R:Src -> Prop}:srcK K H (.ref p) R = ((∃ xs,SqL K H p xs) /\ R (.lst p)):=rfl
theorem a_cComp {nt:Nat} {fi:List Nat} {wi:TI} {g:TG}:cComp nt fi wi g tc te σ H Q = wi σ H fun J H1=>∀ D,H1 D = none -> compW J g tc te (compσ nt fi σ) D Q H1:=rfl
end
theorem a_cxK {CX:CXT} {P:Program} {w:World} {K:Frag} {mg:Str -> Option Value} {base:Heap} {N:List Str} {qual:Str} {scope:Scope} {f:Addr} {cd:Value} {A:Around} {outer:List Env} {s:Shared} {H:Hp} {E:XK}:(cxOf CX P w K mg base N qual scope f cd A outer s H E).K = K:=rfl
theorem a_cxCK {X:Cx} {scope:Scope} {cl:List (Str × Addr)} {N':List Str} {C:Addr} {s:Shared} {H:Hp} {ex:List Addr}:(cxC X scope cl N' C s H ex).K = X.K:=rfl
theorem a_one {a b:Nat}:(([a]:List Nat) = [b]) = (a = b):=by simp
theorem qo_some {X:Cx} {e:Expr} {te:TE} (h:PE X e te):PO X (some e) (cPart te):=fun pins s σ H Q I q=>po_some h.mono pins s σ H Q I ⟨_,q,fun v H1 z=>by
 split at z
 ·exact ⟨_,rfl,z⟩
 ·exact z.elim⟩
end L2
namespace Mir
open PySem L2
noncomputable def cell (ns:List Int) (k:Nat):Int:=(ns[k]?).getD 0
noncomputable def num (c:Int):Nat -> Int
 | 0=>c % 2147483647 + 1
 | i + 1=>(num c i * 48271 + 7 * (i:Int) * (i:Int) + 3) % 2147483647
noncomputable def stream (c:Int) (n:Nat):List Int:=(List.range n).map fun i=>num c (i + 1) / 16
noncomputable def bit (m:Int):Nat:=if m % 2 = 0 then 48 else 49
noncomputable def rowSign (l e:Int):Nat:=if e % l > 0 then 45 else bit (e / 64)
noncomputable def row (c:Int) (w:Nat) (l:Int):List Nat:=(stream c w).map (rowSign l)
noncomputable def within (one other:List Nat):Bool:=(one.zip other).all fun p=>p.2 == 45 || p.2 == p.1
end Mir
namespace L2
open PySem PySem.Spec PyProof.Rows
theorem z_pos {K:Params -> Frag} {as:List Addr} {n t:Nat} {w:World} {s:Shared} (y:PySem.W.X.obsZ as s = PySem.W.X.valZ K n t w) (e:∀ P,as = (K P).map (·.1)) (ht:0 < t):(K w.params).In s.heap /\ 0 < s.toks:=by
 obtain ⟨_,h,_,q⟩:=PySem.W.X.z_facts e y
 exact ⟨h,by rw [q]; exact ht⟩
section
variable {prog:Program} {w:World} {A:Around} {E:Value -> Shared -> Prop} {s:Shared}
theorem IsList.extBut' {h h':Heap} {a l:Addr} {items:Array Value} (hl:h.IsList l items) (he:Heap.ExtBut a h h') (hne:l ≠ a):h'.IsList l items:=by
 obtain ⟨o,ho,r⟩:=hl
 exact ⟨o,he l o hne ho,r⟩
theorem draw_mid {it t:Addr} {items:Array Value} (apart:t ≠ it):∀ (mid front back:List Value) (s:Shared) (Q:List Value -> Shared -> Prop),items.toList = front ++ (mid ++ back) -> s.heap.IsListIter it t front.length -> s.heap.IsList t items ->
  (∀ g:Heap,g.IsListIter it t (front.length + mid.length) -> Heap.SameBut it s.heap g -> Q mid { s with heap:=g }) -> wpAny (model prog w) A (draw (.ref it) mid.length) Q E s
 | [],front,_,s,Q,_,at0,_,k=>wpAny_pure (k s.heap at0 (Heap.SameBut.refl ..))
 | x :: mid,front,back,s,Q,e,at0,il,k=>by
  have here:items[front.length]? = some x:=by
   rw [<- Array.getElem?_toList,e,List.getElem?_append_right (Nat.le_refl _),Nat.sub_self]
   rfl
  refine wpAny_bind (m:=pyNext (.ref it)) (wpAny_pyNext_list_item at0 il here fun g1 at1 t1=>?_)
  refine wpAny_bind (wpAny_holding (draw_mid apart mid (front ++ [x]) back _ _ (by rw [e]; simp) (by rw [List.length_append]; exact at1) (IsList.extBut' il t1.extBut apart) fun g2 at2 t2=>wpAny_pure (k g2 ?_ (t1.trans t2))))
  have sum:(front ++ [x]).length + mid.length = front.length + (x :: mid).length:=by
   simp only [List.length_append,List.length_cons,List.length_nil]
   omega
  rw [sum] at at2
  exact at2
theorem unpackItems_list {t:Addr} {items:Array Value} {Q:List Value -> Shared -> Prop} (hh:A.handled = none) (ht:s.heap.IsList t items)
  (k:∀ g,Heap.ExtBut s.heap.objs.size s.heap g -> Q items.toList { s with heap:=g }):wpAny (model prog w) A (unpackItems (.ref t) items.size none) Q E s:=by
 have below:t ≠ s.heap.objs.size:=Nat.ne_of_lt (let ⟨_,q,_⟩:=ht; Heap.lt_size q)
 have still:(s.heap.push { cls:=.type "list_iterator",data:=.fields #[.ref t,.int 0 0] }).IsList t items:=let ⟨o,q,r⟩:=ht; ⟨o,Heap.get?_push_of_some _ q,r⟩
 unfold unpackItems notIterableAtAll
 refine wpAny_bind (wpAny_bind (wpAny_specialOf ht.typeIs slot_list_iter.lookup (wpAny_pure ?_)))
 rw [if_neg (by decide)]
 refine wpAny_bind (wpAny_holding (wpAny_pyIter_list ht ?_))
 have whole:=draw_mid (prog:=prog) (w:=w) (A:=A) (E:=E) (items:=items) below items.toList [] [] { s with heap:=s.heap.push { cls:=.type "list_iterator",data:=.fields #[.ref t,.int 0 0] } }
 rw [Array.length_toList] at whole
 refine wpAny_bind (wpAny_holding (whole _ (by simp) ⟨_,Heap.get?_push_size _ rfl,rfl,rfl⟩ still fun g1 at1 t1=>?_))
 rw [if_neg (by simp)]
 refine wpAny_bind (wpAny_holding (wpAny_pyNext_list_end hh at1 (IsList.extBut' still t1.extBut below) (by simp) fun g2 t2=>?_))
 rw [if_neg (by simp)]
 exact wpAny_pure (k g2 fun b o nb q=>t2 b o nb (t1.extBut b o nb (Heap.get?_push_of_some _ q)))
theorem assign_Tuple_list {env:Env} {elts:List Expr} {x1} {pos:Pos} {t:Addr} {items:Array Value} {Q:Unit -> Shared -> Prop} (hh:A.handled = none) (ht:s.heap.IsList t items)
  (hn:(assignEach elts env).length = items.size) (hstar:(assignEach elts env).findIdx? (·.1) = none)
  (h:∀ h',Heap.ExtBut s.heap.objs.size s.heap h' -> wpAny (model prog w) A (assignInOrder ((assignEach elts env).map (·.2)) items.toList) Q E { s with heap:=h' }):
  wpAny (model prog w) A (assign (.Tuple elts x1 pos) env (.ref t)) Q E s:=by
 rw [assign_Tuple]
 refine wpAny_bind (wpAny_standAt ?_)
 unfold unpack
 rw [hn,hstar]
 exact wpAny_bind (wpAny_holding (unpackItems_list hh ht h))
end
section
variable {X:Cx} {pos:Pos}
noncomputable def gSeq (K:Frag) (n:Nat) (t:TGs):TG:=fun v σ H Q=>match v with
 | .ref a=>∃ xs,(SqL K H a xs \/ SqT K H a xs) /\ xs.length = n /\ t xs σ H Q
 | _=>False
theorem seqE (K:Frag) (hK:X.K = K) {es:List Expr} {k:Nat} {t:TGs} {n:Nat} (hc:X.calm = true) (h:PGs X es t)
  (hn:(assignEach es X.env).length = n:=by rfl) (hst:(assignEach es X.env).findIdx? (·.1) = none:=by rfl):PG X (.Tuple es k pos) (gSeq K n t):=by
 subst hK
 intro pins s σ H v u Q I r hw
 unfold gSeq at hw
 split at hw
 ·rename_i a
  obtain ⟨xs,hq,hl,hw⟩:=hw
  rcases hq with hq | hq
  ·cases r
   obtain ⟨its,rv,ht,hz⟩:=I.list hq
   refine assign_Tuple_list (I.ok.hd hc) ht.isList (by simp [hn,<- hl,rv.length]) hst fun h' hx=>?_
   have I1:Inv X pins σ H { s with heap:=h' }:=I.kept (t':=s.toks) fun b o e=>hx b o (Nat.ne_of_lt (Heap.lt_size e)) e
   exact h pins _ σ H xs _ Q I1 (by simpa using rv) hw
  ·exact pg_tup hc h hn hst pins s σ H _ u Q I r ⟨_,xs,rfl,hq,hl,hw⟩
 ·exact hw.elim
end
section
variable {t:TG} {u:TGs} {σ:St} {H:Hp} {Q:St -> Hp -> Prop} {v:V} {r:List V} {K:Frag} {n:Nat} {p:Addr}
theorem a_gCons:gCons t u (v :: r) σ H Q = t v σ H fun σ' H'=>u r σ' H' Q:=by
 refine propext ⟨?_,fun h=>⟨v,r,rfl,h⟩⟩
 rintro ⟨v',r',e,h⟩
 cases e
 exact h
theorem a_gNil:gNil [] σ H Q = Q σ H:=propext ⟨fun h=>h.2,fun h=>⟨rfl,h⟩⟩
theorem a_gSeq:gSeq K n u (.ref p) σ H Q = ∃ xs,(SqL K H p xs \/ SqT K H p xs) /\ xs.length = n /\ u xs σ H Q:=rfl
end
noncomputable def rep (c d:Nat) (l:List Nat):List Nat:=l.map fun k=>if k = c then d else k
section
variable {X:Cx} {o e:Expr} {to te:TE} {apos cpos p1 p2:Pos} {j1 j2:Nat}
noncomputable def kList (K:Frag):List V -> Hp -> VK -> Prop:=fun xs H Q=>match xs with
 | [.str z]=>z.cps.toList.length <= 100000 /\ ∀ p,H p = none -> Q (.ref p) (upd H p (.lst (z.cps.toList.map fun c=>V.str (st [c]))))
 | [.ref a]=>∃ ys,(SqL K H a ys \/ SqT K H a ys) /\ ∀ p,H p = none -> Q (.ref p) (upd H p (.lst ys))
 | _=>False
theorem vals_signs {x:Str} {acc:Array Value} (h:ItemsOf (SignAt x) acc x.cps.size):Vals (x.cps.toList.map fun c=>V.str (st [c])) acc.toList:=by
 obtain ⟨hs,hi⟩:=h
 have key:∀ (l:List Nat) (us:List Value),l.length = us.length -> (∀ (j:Nat) (v:Value),us[j]? = some v -> ∃ (c:Nat) (u:Tok),l[j]? = some c /\ v = Value.str ⟨#[c]⟩ u) -> Vals (l.map fun c=>V.str (st [c])) us:=by
  intro l
  induction l with
  | nil=>
   intro us hl _
   cases us with
   | nil=>exact .nil
   | cons=>cases hl
  | cons a l ih=>
   intro us hl hq
   cases us with
   | nil=>cases hl
   | cons v us=>
    obtain ⟨c,u,e,rfl⟩:=hq 0 v rfl
    cases e
    exact .cons ⟨u,rfl⟩ (ih us (by simpa using hl) fun j w hj=>hq (j + 1) w hj)
 refine key _ _ (by simp [hs]) fun j v hj=>?_
 obtain ⟨c,u,e,rfl⟩:=hi j v (by simpa using hj)
 exact ⟨c,u,by simpa using e,rfl⟩
theorem call_listK (K:Frag) (hK:X.K = K) (hc:X.calm = true):CallR X (.type "list") (kList K):=by
 subst hK
 intro pins s σ H xs us Q I r q
 unfold kList at q
 split at q
 ·obtain ⟨hl,q⟩:=q
  rename_i z
  obtain ⟨u,rfl,t,rfl⟩:=vals1 r
  have hz:z.cps.size <= sizeLine:=by
   have:=big5
   simp only [Array.length_toList] at hl
   omega
  refine tokQ I.tk (call_list_str (I.ok.hd hc) z t (fun h' tk acc c' kp ho hi (htk:0 < tk)=>?_) hz)
  refine ⟨.ref s.heap.objs.size,_,I.laid (a:=s.heap.objs.size) (o:=.lst (z.cps.toList.map fun c=>V.str (st [c]))) kp (Nat.le_refl _) ⟨?_,acc.toList,c',vals_signs hi,by simpa using ho⟩,rfl,q _ I.fresh⟩
  rw [List.length_map]
  simpa using hz
 ·obtain ⟨ys,h,q⟩:=q
  exact call_list_of pins s σ H _ us Q I r ⟨_,ys,rfl,h,q⟩
 ·exact q.elim
theorem a_kListS {K:Frag} {l:List Nat} {H:Hp} {Q:VK}:kList K [.str (st l)] H Q = (l.length <= 100000 /\ ∀ p,H p = none -> Q (.ref p) (upd H p (.lst (l.map fun c=>V.str (st [c]))))):=rfl
theorem a_kListL {K:Frag} {a:Addr} {H:Hp} {Q:VK}:kList K [.ref a] H Q = ∃ ys,(SqL K H a ys \/ SqT K H a ys) /\ ∀ p,H p = none -> Q (.ref p) (upd H p (.lst ys)):=rfl
end
section
variable {X:Cx} {a:Expr} {ta:TE} {p pos:Pos}
end
section
variable {X:Cx}
noncomputable def kSum (K:Frag):List V -> Hp -> VK -> Prop:=fun xs H Q=>match xs with
 | [.ref p]=>∃ ns:List Int,SqL K H p (ns.map V.int) /\ Q (.int ns.sum) H
 | _=>False
theorem call_sumK (K:Frag) (hK:X.K = K) (hc:X.calm = true):CallR X (.builtin "sum") (kSum K):=by
 subst hK
 intro pins s σ H xs us Q I r q
 unfold kSum at q
 split at q
 ·obtain ⟨ns,hq,q⟩:=q
  obtain ⟨u,rfl,ru⟩:=vals1 r
  cases ru
  obtain ⟨its,rv,pl,_⟩:=I.list hq
  have hi:=intsAre_of rv
  obtain ⟨xs,e⟩:=hi.allInts.items
  have hn:=hi.numsOf
  refine tokQ I.tk (sum_intListG (I.ok.hd hc) (xs:=xs) (by rw [<- e]; exact pl.isList) fun h' tk t' kp (htk:0 < tk)=>?_)
  have e2:preSum (numAt xs) xs.size = ns.sum:=by
   rw [preSum_eq,List.take_of_length_le (by simp),<- nums_intItems,<- e]
   show (numsOf its).sum = ns.sum
   rw [hn]
  rw [e2]
  exact ⟨.int ns.sum,H,I.kept kp,⟨_,rfl⟩,q⟩
 ·exact q.elim
theorem a_kSum {K:Frag} {p:Addr} {H:Hp} {Q:VK}:kSum K [.ref p] H Q = ∃ ns:List Int,SqL K H p (ns.map V.int) /\ Q (.int ns.sum) H:=rfl
end
theorem tab_layNew (t:SetTable) (es:Array (Int × Value)) (h:Int) (x:Value):(layNew t es h x).2.1.led = t.led /\ (t.plain = false -> (layNew t es h x).2.1.plain = false):=by
 unfold layNew
 split
 ·rename_i slot wd e
  show ((t.put slot).1.orStandIn _).led = _ /\ (_ -> ((t.put slot).1.orStandIn _).plain = false)
  unfold SetTable.orStandIn
  split
  ·exact ⟨rfl,fun q=>q⟩
  ·exact ⟨rfl,fun _=>rfl⟩
 ·exact ⟨rfl,fun _=>rfl⟩
theorem tab_laid {mask finger moves:Nat} {led plain:Bool} {hs:Array Int} {r:SetTable × Array Nat} (h:SetTable.laid mask finger moves led plain hs = some r):r.1.led = led /\ r.1.plain = plain:=by
 unfold SetTable.laid at h
 cases q:SetTable.layClean mask hs with
 | none=>rw [q] at h; cases h
 | some ow=>
  rw [q] at h
  cases h
  exact ⟨rfl,rfl⟩
theorem tab_relay (t:SetTable) (es:Array (Int × Value)) (n:Nat):(relayAll t es n).2.1.led = t.led /\ (t.plain = false -> (relayAll t es n).2.1.plain = false):=by
 unfold relayAll
 split
 ·rename_i t' order e
  have q:=tab_laid e
  dsimp only
  split
  ·exact ⟨q.1,fun z=>q.2.trans z⟩
  ·exact ⟨rfl,fun _=>rfl⟩
 ·exact ⟨rfl,fun _=>rfl⟩
noncomputable def txtOf:Value -> Str
 | .str x _=>x
 | _=>⟨#[]⟩
def IsTexts (w:World) (h:Heap) (a:Addr) (led:Bool) (ss:List Str):Prop:=
 ∃ es ep t,h.get? a = some { cls:=.type "set",dict:=none,data:=.set es ep t,slots:=#[] } /\ (∀ e ∈ es.toList,∃ x u,e = (hashStr w x,Value.str x u)) /\
  (es.toList.map fun e=>txtOf e.2).Perm ss /\ t.fits es.size = true /\ t.led = led /\ (es.size ≠ 0 -> t.plain = false)
section
variable {prog:Program} {w:World} {A:Around} {E:Value -> Shared -> Prop} {s:Shared}
noncomputable def addT (ss:List Str) (x:Str):List Str:=if x ∈ ss then ss else ss ++ [x]
theorem set_put {a:Addr} {es es':Array (Int × Value)} {ep:Nat} {t t':SetTable} (ho:s.heap.get? a = some { cls:=.type "set",dict:=none,data:=.set es ep t,slots:=#[] }):
  (s.heap.update a (Obj.putSet es' t')).get? a = some { cls:=.type "set",dict:=none,data:=.set es' (ep + 1) t',slots:=#[] }:=
 Heap.get?_update_self (Obj.putSet es' t') ho rfl
end
noncomputable def dd (l:List Str):List Str:=l.foldl addT []
theorem IsTexts.at {w:World} {h h':Heap} {a:Addr} {led:Bool} {ss:List Str} (x:IsTexts w h a led ss) (k:∀ o,h.get? a = some o -> h'.get? a = some o):IsTexts w h' a led ss:=by
 obtain ⟨es,ep,t,ho,r⟩:=x
 exact ⟨es,ep,t,k _ ho,r⟩
section
variable {prog:Program} {w:World} {A:Around} {R:Result -> Shared -> Prop} {I:Addr} {fp wr:List Addr} {G:Array GenState -> Array GenState -> Prop} {n:Nat} {P:Nat -> Value -> Prop} {St:Nat -> Shared -> Prop}
end
noncomputable abbrev ledW (w:World):Bool:=!w.params.followText "set-order"
noncomputable abbrev setObj0 (w:World):Obj:={ cls:=.type "set",dict:=none,data:=.set #[] 0 (.fresh 0 0 (ledW w)) }
section
variable {prog:Program} {w:World} {A:Around} {E:Value -> Shared -> Prop} {s:Shared}
theorem new_texts (a:Value) {Q:Value -> Shared -> Prop} (h:Q (.ref s.heap.objs.size) { s with heap:=s.heap.push (setObj0 w) }):
  codeAny (model prog w) A (.call (.builtin "set.__new__") ⟨[.type "set",a],[]⟩) (wants Q E) s:=by
 refine codeAny_of_tree ?_
 show wpAny _ A.in1 (checkBuiltinCall "set.__new__" ⟨[.type "set",a],[]⟩ >>= fun _=>again (.builtin "set.__new__" ⟨[.type "set",a],[]⟩)) _ _ s
 refine wpAny_bind (wpAny_of_eq (PySem.F.newCall_set_1 a) (wpAny_pure ⟨plainId_quiet PySem.F.plain_set_new _,codeAny_builtin PySem.F.entry_set_new ?_⟩))
 rw [Around.under_plainId PySem.F.plain_set_new _]
 unfold Builtin.«set.__new__» Builtin.Frozenset.newClass
 have sb:=sub_set_self
 obtain ⟨hp,g,d,tk,os⟩:=s
 dsimp only
 wp_walk
 refine wpAny_askSetting (wpAny_pure ?_)
 dsimp only
 simp only [newObj]
 exact wpAny_bind (wpAny_alloc (wpAny_pure (wpAny_pure h)))
theorem set_by_halves {v:Value} {Q:Value -> Shared -> Prop}
  (h:∀ A₁:Around,A₁.handled = A.handled -> codeAny (model prog w) A₁ (.call (.builtin "set.__new__") ⟨[.type "set",v],[]⟩)
   (wants (fun made s₁=>(∃ b,made = .ref b) /\ s₁.TypeIs made "set" /\ ∀ A₂:Around,A₂.handled = A.handled -> codeAny (model prog w) A₂ (.call (.builtin "set.__init__") ⟨[made,v],[]⟩) (wants (fun r s₂=>r = .none /\ Q made s₂) E) s₁) E) s):
  wpAny (model prog w) A (call (.type "set") [v]) Q E s:=by
 have C:=PySem.F.called_set
 obtain ⟨_,_,hmro⟩:=C.mro
 have k1:=C.made
 have k2:=C.sub
 have k3:=C.notType
 have k4:=C.canCreate
 have k5:=PySem.F.typeCall_set_1 v
 apply wpAny_call
 apply codeAny_of_tree
 change wpAny _ _ (callAny (.type "set") _) _ _ _
 apply wpAny_pure
 refine ⟨Code.quiet_builtin _ (by decide +kernel),?_⟩
 apply codeAny_builtin PySem.F.entry_type_call
 rw [Around.under_plain (weight_type_call_type "set" [v] []) rfl]
 repeat (any_goals (first | assumption | wp_step))
 refine codeAny_mono (h A.in1 rfl) ?_
 intro r₁ s₁ g₁
 match r₁,g₁ with
 | .error _,g₁=>exact g₁
 | .ok (.ret made),⟨⟨b,eb⟩,hT,g⟩=>
  subst eb
  have k6:=C.init.lookup
  have k7:=C.init.bind (.ref b)
  repeat (any_goals (first | assumption | wp_step))
  refine codeAny_mono (g A.in1 rfl) ?_
  intro r₂ s₂ g₂
  match r₂,g₂ with
  | .error _,g₂=>exact g₂
  | .ok (.ret _),⟨e,q⟩=>
   subst e
   repeat (any_goals (first | assumption | wp_step))
end
theorem slot_setit_next:Slot "set_iterator" "__next__" "set_iterator.__next__":=
 .of (owner := "set_iterator") (n := "__next__") (by rw [typeLookup_type,builtinLookup_eq_fast]; kernel_rfl) (by decide +kernel) (by decide +kernel) (by decide +kernel) (by first | exact .inl (by decide +kernel) | exact .inr (by decide +kernel)) (by rw [isSubtype_type]; kernel_rfl)
theorem entry_setit_next:entryFor table "set_iterator.__next__" = some Builtin.«set_iterator.__next__»:=entryFor_of_tree (by kernel_rfl)
theorem args_setit_next (a:Value):argsOk "set_iterator.__next__" ⟨[a],[]⟩:=by unfold argsOk; kernel_rfl
theorem slot_setit_iter:Slot "set_iterator" "__iter__" "set_iterator.__iter__":=
 .of (owner := "set_iterator") (n := "__iter__") (by rw [typeLookup_type,builtinLookup_eq_fast]; kernel_rfl) (by decide +kernel) (by decide +kernel) (by decide +kernel) (by first | exact .inl (by decide +kernel) | exact .inr (by decide +kernel)) (by rw [isSubtype_type]; kernel_rfl)
theorem entry_set_iter:entryFor table "set.__iter__" = some Builtin.«frozenset.__iter__»:=
 entryFor_alias (id' := "frozenset.__iter__") (by kernel_rfl) rfl (by decide +kernel) (by kernel_rfl)
theorem perm_erase {α:Type}:∀ {l:List α} {i:Nat} (hi:i < l.length),(l[i] :: l.eraseIdx i).Perm l
 | _ :: _,0,_=>List.Perm.refl _
 | x :: l,i + 1,hi=>by
  have:=perm_erase (l:=l) (i:=i) (Nat.lt_of_succ_lt_succ hi)
  simp only [List.getElem_cons_succ,List.eraseIdx_cons_succ]
  exact (List.Perm.swap x _ _).trans (List.Perm.cons x this)
section
variable {M:Model} {A:Around} {E:Value -> Shared -> Prop}
theorem any_choose {src:Source} {n:Nat} {s:Shared} {Q:Nat -> Shared -> Prop} (hn:n ≠ 0) (h:∀ i d,i < n -> Q i { s with drawn:=d }):wpAny M A (choose src n) Q E s:=fun Γ p _=>by
 unfold choose
 rw [Sem.wp_choose]
 exact ⟨hn,h _ _ (Nat.mod_lt _ (Nat.pos_of_ne_zero hn))⟩
theorem draw_order {α:Type}:∀ (n:Nat) (xs:List α) (s:Shared) (Q:List α -> Shared -> Prop),xs.length = n -> (∀ ys d,ys.Perm xs -> Q ys { s with drawn:=d }) -> wpAny M A (drawOrder n xs) Q E s:=by
 intro n
 induction n with
 | zero=>
  intro xs s Q hl h
  rw [List.length_eq_zero_iff] at hl
  subst hl
  exact wpAny_pure (h [] s.drawn (List.Perm.refl _))
 | succ n ih=>
  intro xs s Q hl h
  obtain ⟨x,xs,rfl⟩:=List.exists_cons_of_length_eq_add_one hl
  unfold drawOrder
  refine wpAny_bind (any_choose (by simp) fun i d hi=>?_)
  have hg:(x :: xs)[i]? = some (x :: xs)[i]:=List.getElem?_eq_getElem hi
  rw [hg]
  refine wpAny_bind (ih _ _ _ ?_ fun ys d' hp=>wpAny_pure (h _ d' ?_))
  ·rw [List.length_eraseIdx_of_lt hi]
   simpa using hl
  ·exact (List.Perm.cons _ hp).trans (perm_erase hi)
end
theorem pick_go {α:Type} (f:Nat -> Nat):∀ (n k:Nat) (l:List α) (out:Array α),l.length = n -> (pickOrder.go f n k l out).toList.Perm (out.toList ++ l)
 | 0,_,[],out,_=>by simp [pickOrder.go]
 | n + 1,k,x :: l,out,hl=>by
  unfold pickOrder.go
  have hi:f k % (x :: l).length < (x :: l).length:=Nat.mod_lt _ (by simp)
  rw [List.getElem?_eq_getElem hi]
  refine (pick_go f n (k + 1) _ _ ?_).trans ?_
  ·rw [List.length_eraseIdx_of_lt hi]
   simpa using hl
  ·rw [Array.toList_push,List.append_assoc]
   exact List.Perm.append_left _ (perm_erase hi)
theorem pick_perm {α:Type} (f:Nat -> Nat) (xs:Array α):(pickOrder f xs).toList.Perm xs.toList:=by
 unfold pickOrder
 exact (pick_go f xs.size 0 xs.toList #[] (by simp)).trans (by simp)
section
variable {prog:Program} {w:World} {A:Around} {E:Value -> Shared -> Prop} {s:Shared}
theorem raise_stop {α:Type} {Q:α -> Shared -> Prop} (hh:A.handled = none)
  (h:∀ h' e,(∀ b o,s.heap.get? b = some o -> h'.get? b = some o) -> (∃ o,h'.get? e = some o /\ o.cls = .type "StopIteration") -> E (.ref e) { s with heap:=h' }):
  wpAny (model prog w) A (newExc (.type "StopIteration") [] >>= fun e=>(raiseNew e:Sem α)) Q E s:=by
 refine wpAny_bind ?_
 simp only [newExc,newTuple]
 refine wpAny_bind (wpAny_newObj_type ?_ (by size_fits))
 refine wpAny_bind (m:=firstArgMember _ _) (wpAny_of_eq (a:=Value.none) (by first | rfl | (simp only [firstArgMember]; rfl)) ?_)
 refine wpAny_newObj_type ?_ (by size_fits)
 simp only [raiseNew]
 refine wpAny_bind (wpAny_handled ?_)
 rw [hh]
 exact wpAny_bind (wpAny_pure (wpAny_throw (h _ _ (fun b o e=>Heap.get?_push_of_some _ (Heap.get?_push_of_some _ e)) ⟨_,Heap.get?_push_size _ rfl,rfl⟩)))
noncomputable abbrev itObj (first:Value) (i:Nat) (a:Addr) (n ep:Nat):Obj:={ cls:=.type "set_iterator",dict:=none,data:=.fields #[first,.int i 0,.ref a,.int n 0,.int ep 0],slots:=#[] }
noncomputable abbrev setObj (es:Array (Int × Value)) (ep:Nat) (t:SetTable):Obj:={ cls:=.type "set",dict:=none,data:=.set es ep t,slots:=#[] }
theorem pyNext_set {it:Addr} {o:Obj} {Q:Option Value -> Shared -> Prop} (hz:s.heap.get? it = some o) (hc:o.cls = .type "set_iterator")
  (h:wpAny (model prog w) A.in1 (Builtin.«set_iterator.__next__» ⟨[.ref it],[]⟩) (fun fin s'=>∃ v,fin = .done (.ret v) /\ Q (some v) s')
   (fun e s'=>∃ a,e = .ref a /\ (∃ o,s'.heap.get? a = some o /\ o.cls = .type "StopIteration") /\ Q none s') s):wpAny (model prog w) A (pyNext (.ref it)) Q E s:=by
 have hT:s.TypeIs (.ref it) "set_iterator" := ⟨_,hz,hc⟩
 unfold pyNext
 refine wpAny_bind (wpAny_attempt (wpAny_callSpecial?_slot (name:=Str.ofString "__next__") hT slot_setit_next
  (wpAny_call_entry slot_setit_next hT entry_setit_next (wpAny_mono h (fun fin s' ⟨v,e,q⟩=>⟨v,e,wpAny_pure q⟩) fun e s' he=>?_) (args_setit_next _))))
 obtain ⟨a,rfl,⟨o,ho,hc⟩,q⟩:=he
 exact wpAny_bind (wpAny_isInstance (T := "StopIteration") (b:=true) ⟨o,ho,hc⟩ isSubtype_stop (wpAny_pure q))
end
section
variable {prog:Program} {w:World} {A:Around} {E:Value -> Shared -> Prop} {s:Shared} {it a:Addr} {es:Array (Int × Value)} {n ep i:Nat} {t:SetTable}
theorem next_int_item {slot nx:Nat} {x:Value} {Q:Option Value -> Shared -> Prop} (hit:s.heap.get? it = some (itObj (.int slot 0) i a n ep)) (ha:s.heap.get? a = some (setObj es ep t)) (hf:t.fits es.size = true) (hz:es.size = n)
  (hn:∀ (E':Value -> Shared -> Prop) (Q':Option (Value × Nat) -> Shared -> Prop),Q' (some (x,nx)) s -> wpAny (model prog w) A.in1 (setNext a slot i ep) Q' E' s)
  (hQ:∀ h',h'.get? it = some (itObj (.int nx 0) (i + 1) a n ep) -> Heap.SameBut it s.heap h' -> Q (some x) { s with heap:=h' }):wpAny (model prog w) A (pyNext (.ref it)) Q E s:=by
 refine pyNext_set hit rfl ?_
 unfold Builtin.«set_iterator.__next__» slotArgs
 simp only [List.isEmpty_nil,Bool.not_true,Bool.false_eq_true,↓reduceIte,bind_assoc,List.length_nil,bne_self_eq_false]
 refine wpAny_bind (wpAny_pure ?_)
 dsimp only
 refine wpAny_bind (wpAny_fieldsOf hit rfl ?_)
 dsimp only
 refine wpAny_bind (wpAny_setEntries_of ha rfl hf ?_)
 rw [show ((es.size:Int) != (n:Int)) = false by simp [hz]]
 simp only [Bool.false_eq_true,↓reduceIte]
 refine wpAny_bind (hn _ _ ?_)
 dsimp only
 refine wpAny_bind (wpAny_setField_rec hit (by simp) fun h1 g1 s1=>?_)
 refine wpAny_bind (wpAny_setField_rec (s:={ s with heap:=h1 }) g1 (by simp) fun h2 g2 s2=>?_)
 refine wpAny_pure ⟨x,rfl,hQ h2 ?_ (s1.trans s2)⟩
 rw [g2]
 simp [rawInt]
theorem next_int_end {slot:Nat} {Q:Option Value -> Shared -> Prop} (hh:A.handled = none) (hit:s.heap.get? it = some (itObj (.int slot 0) i a n ep)) (ha:s.heap.get? a = some (setObj es ep t)) (hf:t.fits es.size = true) (hz:es.size = n)
  (hn:∀ (E':Value -> Shared -> Prop) (Q':Option (Value × Nat) -> Shared -> Prop),Q' none s -> wpAny (model prog w) A.in1 (setNext a slot i ep) Q' E' s)
  (hQ:∀ h',Heap.ExtBut it s.heap h' -> Q none { s with heap:=h' }):wpAny (model prog w) A (pyNext (.ref it)) Q E s:=by
 refine pyNext_set hit rfl ?_
 unfold Builtin.«set_iterator.__next__» slotArgs
 simp only [List.isEmpty_nil,Bool.not_true,Bool.false_eq_true,↓reduceIte,bind_assoc,List.length_nil,bne_self_eq_false]
 refine wpAny_bind (wpAny_pure ?_)
 dsimp only
 refine wpAny_bind (wpAny_fieldsOf hit rfl ?_)
 dsimp only
 refine wpAny_bind (wpAny_setEntries_of ha rfl hf ?_)
 rw [show ((es.size:Int) != (n:Int)) = false by simp [hz]]
 simp only [Bool.false_eq_true,↓reduceIte]
 refine wpAny_bind (hn _ _ ?_)
 dsimp only
 refine wpAny_bind (wpAny_setField_rec hit (by simp) fun h1 g1 s1=>?_)
 exact raise_stop (A:=A.in1) (s:={ s with heap:=h1 }) hh fun h2 e k c=>⟨e,rfl,c,hQ h2 fun b o nb q=>k b o (s1.extBut b o nb q)⟩
theorem next_ref_item {T:Addr} {ps:Array Value} {p:Nat} {x:Value} {Q:Option Value -> Shared -> Prop} (hit:s.heap.get? it = some (itObj (.ref T) i a n ep)) (ha:s.heap.get? a = some (setObj es ep t)) (hf:t.fits es.size = true) (hz:es.size = n)
  (hT:s.heap.get? T = some (seqObj "tuple" ps 0)) (hp:ps[i]? = some (.int p 0)) (hx:es[p]?.map (·.2) = some x)
  (hQ:∀ h',h'.get? it = some (itObj (.ref T) (i + 1) a n ep) -> Heap.SameBut it s.heap h' -> Q (some x) { s with heap:=h' }):wpAny (model prog w) A (pyNext (.ref it)) Q E s:=by
 refine pyNext_set hit rfl ?_
 unfold Builtin.«set_iterator.__next__» slotArgs
 simp only [List.isEmpty_nil,Bool.not_true,Bool.false_eq_true,↓reduceIte,bind_assoc,List.length_nil,bne_self_eq_false]
 refine wpAny_bind (wpAny_pure ?_)
 dsimp only
 refine wpAny_bind (wpAny_fieldsOf hit rfl ?_)
 dsimp only
 refine wpAny_bind (wpAny_setEntries_of ha rfl hf ?_)
 rw [show ((es.size:Int) != (n:Int)) = false by simp [hz]]
 simp only [Bool.false_eq_true,↓reduceIte]
 refine wpAny_bind (wpAny_seqItems hT rfl ?_)
 dsimp only
 rw [Int.toNat_natCast,hp]
 dsimp only
 refine wpAny_bind ?_
 unfold setNextDrawn
 refine wpAny_bind (wpAny_setState_of ha rfl hf ?_)
 dsimp only
 rw [Int.toNat_natCast,Int.toNat_natCast]
 simp only [bne_self_eq_false,Bool.false_eq_true,↓reduceIte]
 cases he:es[p]? with
 | none=>rw [he] at hx; cases hx
 | some e=>
  rw [he] at hx
  obtain ⟨h0,y⟩:=e
  cases hx
  refine wpAny_pure ?_
  refine wpAny_bind (wpAny_setField_rec hit (by simp) fun h1 g1 s1=>?_)
  refine wpAny_pure ⟨y,rfl,hQ h1 ?_ s1⟩
  rw [g1]
  simp [rawInt]
theorem next_ref_end {T:Addr} {ps:Array Value} {Q:Option Value -> Shared -> Prop} (hh:A.handled = none) (hit:s.heap.get? it = some (itObj (.ref T) i a n ep)) (ha:s.heap.get? a = some (setObj es ep t)) (hf:t.fits es.size = true) (hz:es.size = n)
  (hT:s.heap.get? T = some (seqObj "tuple" ps 0)) (hp:ps[i]? = none)
  (hQ:∀ h',Heap.ExtBut it s.heap h' -> Q none { s with heap:=h' }):wpAny (model prog w) A (pyNext (.ref it)) Q E s:=by
 refine pyNext_set hit rfl ?_
 unfold Builtin.«set_iterator.__next__» slotArgs
 simp only [List.isEmpty_nil,Bool.not_true,Bool.false_eq_true,↓reduceIte,bind_assoc,List.length_nil,bne_self_eq_false]
 refine wpAny_bind (wpAny_pure ?_)
 dsimp only
 refine wpAny_bind (wpAny_fieldsOf hit rfl ?_)
 dsimp only
 refine wpAny_bind (wpAny_setEntries_of ha rfl hf ?_)
 rw [show ((es.size:Int) != (n:Int)) = false by simp [hz]]
 simp only [Bool.false_eq_true,↓reduceIte]
 refine wpAny_bind (wpAny_seqItems hT rfl ?_)
 dsimp only
 rw [Int.toNat_natCast,hp]
 dsimp only
 refine wpAny_bind (wpAny_setField_rec hit (by simp) fun h1 g1 s1=>?_)
 refine wpAny_bind (wpAny_setField_rec (s:={ s with heap:=h1 }) g1 (by simp) fun h2 g2 s2=>?_)
 exact raise_stop (A:=A.in1) (s:={ s with heap:=h2 }) hh fun h3 e k c=>⟨e,rfl,c,hQ h3 fun b o nb q=>k b o (s2.extBut b o nb (s1.extBut b o nb q))⟩
end
section
variable {prog:Program} {w:World} {A:Around} {E:Value -> Shared -> Prop} {s:Shared} {it a:Addr} {es:Array (Int × Value)} {n ep i:Nat} {t:SetTable}
theorem by_text {Q:Bool -> Shared -> Prop} (h:Q (w.params.followText "set-order") s):wpAny (model prog w) A setsByText Q E s:=by
 unfold setsByText
 exact wpAny_bind (wpAny_askSetting (wpAny_pure h))
theorem setNext_text {slot:Nat} {Q:Option (Value × Nat) -> Shared -> Prop} (hb:w.params.followText "set-order" = true) (ha:s.heap.get? a = some (setObj es ep t)) (hf:t.fits es.size = true)
  (h:Q (((pickOrder (w.params.setOrder a ep) es)[i]?).map fun e=>(e.2,slot)) s):wpAny (model prog w) A (setNext a slot i ep) Q E s:=by
 unfold setNext
 refine wpAny_bind (wpAny_setState_of ha rfl hf ?_)
 dsimp only
 refine wpAny_bind (by_text ?_)
 rw [hb,if_pos rfl]
 simp only [bne_self_eq_false,Bool.false_eq_true,↓reduceIte]
 unfold setWalk
 refine wpAny_bind (wpAny_bind (wpAny_setState_of ha rfl hf ?_))
 dsimp only
 refine wpAny_bind (by_text ?_)
 rw [hb,if_pos rfl]
 refine wpAny_bind (wpAny_askSetting ?_)
 exact wpAny_pure (wpAny_pure h)
theorem entry_setit_iter:entryFor table "set_iterator.__iter__" = some Builtin.«dict_keyiterator.__iter__»:=
 entryFor_alias (id' := "dict_keyiterator.__iter__") (by kernel_rfl) rfl (by decide +kernel) (by kernel_rfl)
theorem args_setit_iter (a:Value):argsOk "set_iterator.__iter__" ⟨[a],[]⟩:=by unfold argsOk; kernel_rfl
theorem self_setit {Q:Value -> Shared -> Prop} (hT:s.TypeIs (.ref it) "set_iterator") (h:Q (.ref it) s):wpAny (model prog w) A (pyIter (.ref it)) Q E s:=by
 refine wpAny_pyIter_slot hT slot_setit_iter (wpAny_call_entry slot_setit_iter hT entry_setit_iter ?_ (args_setit_iter _))
 show wpAny _ _ (ret (.ref it)) _ _ s
 exact wpAny_pure ⟨_,rfl, "set_iterator",_,hT,slot_setit_next.lookup,h⟩
theorem walks_text (hh:A.handled = none) (hne:a ≠ it) (hb:w.params.followText "set-order" = true) (hf:t.fits es.size = true) (hz:es.size = n):
  Walks prog w A it [it,a] [it] n (fun i v=>((pickOrder (w.params.setOrder a ep) es)[i]?).map (·.2) = some v) (fun i h=>h.get? it = some (itObj (.int 0 0) i a n ep) /\ h.get? a = some (setObj es ep t)) where
 sub:=fun b hb=>by simp at hb; simp [hb]
 frame:=fun _ _ _ st k=>⟨k it (by simp) _ st.1,k a (by simp) _ st.2⟩
 item:=fun i s Q E hi st hQ=>by
  have hs:(pickOrder (w.params.setOrder a ep) es).size = n:=by
   have:=(pick_perm (w.params.setOrder a ep) es).length_eq
   simpa [hz] using this
  have hg:(pickOrder (w.params.setOrder a ep) es)[i]? = some ((pickOrder (w.params.setOrder a ep) es)[i]'(by omega)):=Array.getElem?_eq_getElem _
  refine next_int_item (slot:=0) (nx:=0) (x:=((pickOrder (w.params.setOrder a ep) es)[i]'(by omega)).2) st.1 st.2 hf hz (fun E' Q' q=>setNext_text hb st.2 hf (by rw [hg]; exact q)) fun h' g sb=>?_
  exact hQ _ h' s.toks (by rw [hg]; rfl) ⟨g,sb.extBut _ _ hne st.2⟩ fun b o hb e=>sb.extBut b o (fun z=>hb (by simp [z])) e
 done:=fun s Q E st hQ=>by
  have hs:(pickOrder (w.params.setOrder a ep) es).size = n:=by
   have:=(pick_perm (w.params.setOrder a ep) es).length_eq
   simpa [hz] using this
  have hg:(pickOrder (w.params.setOrder a ep) es)[n]? = none:=Array.getElem?_eq_none (by omega)
  exact next_int_end (slot:=0) hh st.1 st.2 hf hz (fun E' Q' q=>setNext_text hb st.2 hf (by rw [hg]; exact q)) fun h' k=>hQ h' s.toks fun b o hb e=>k b o (fun z=>hb (by simp [z])) e
 self:=fun i s Q E st hQ=>self_setit ⟨_,st.1,rfl⟩ hQ
end
section
variable {prog:Program} {w:World} {A:Around} {E:Value -> Shared -> Prop} {s:Shared} {it a:Addr} {es:Array (Int × Value)} {n ep i:Nat} {t:SetTable}
theorem fits_size (hf:t.fits n = true):t.place.size = n:=by
 unfold SetTable.fits at hf
 simp only [Bool.and_eq_true,beq_iff_eq] at hf
 exact hf.1
noncomputable def atPlaces (es:Array (Int × Value)) (ys:List Nat):List Value:=ys.map fun p=>((es[p]?).map (·.2)).getD .none
theorem walks_drawn {T:Addr} {ys:List Nat} (hh:A.handled = none) (hne:a ≠ it) (hT:T ≠ it) (hf:t.fits es.size = true) (hz:es.size = n) (hp:ys.Perm (List.range n)):
  Walks prog w A it [it,a,T] [it] n (fun i v=>(atPlaces es ys)[i]? = some v) (fun i h=>h.get? it = some (itObj (.ref T) i a n ep) /\ h.get? a = some (setObj es ep t) /\ h.get? T = some (seqObj "tuple" (ys.map fun (k:Nat)=>rawInt k).toArray 0)) where
 sub:=fun b hb=>by simp at hb; simp [hb]
 frame:=fun _ _ _ st k=>⟨k it (by simp) _ st.1,k a (by simp) _ st.2.1,k T (by simp) _ st.2.2⟩
 item:=fun i s Q E hi st hQ=>by
  have hlen:ys.length = n:=by have:=hp.length_eq; simpa using this
  have hi':i < ys.length:=by omega
  have hlt:ys[i] < es.size:=by
   have:=hp.mem_iff.mp (List.getElem_mem hi')
   rw [hz]
   simpa using this
  have hx:es[ys[i]]?.map (·.2) = some (es[ys[i]].2):=by rw [Array.getElem?_eq_getElem hlt]; rfl
  refine next_ref_item (p:=ys[i]) (x:=es[ys[i]].2) st.1 st.2.1 hf hz st.2.2 (by simp [rawInt,hi']) hx fun h' g sb=>?_
  refine hQ _ h' s.toks ?_ ⟨g,sb.extBut _ _ hne st.2.1,sb.extBut _ _ hT st.2.2⟩ fun b o hb e=>sb.extBut b o (fun z=>hb (by simp [z])) e
  unfold atPlaces
  rw [List.getElem?_map,List.getElem?_eq_getElem hi']
  simp [hlt]
 done:=fun s Q E st hQ=>by
  have hlen:ys.length = n:=by have:=hp.length_eq; simpa using this
  exact next_ref_end hh st.1 st.2.1 hf hz st.2.2 (by simp [hlen]) fun h' k=>hQ h' s.toks fun b o hb e=>k b o (fun z=>hb (by simp [z])) e
 self:=fun i s Q E st hQ=>self_setit ⟨_,st.1,rfl⟩ hQ
theorem places_all (es:Array (Int × Value)):atPlaces es (List.range es.size) = es.toList.map (·.2):=by
 unfold atPlaces
 apply List.ext_getElem
 ·simp
 ·intro i h1 h2
  have:i < es.size:=by simpa using h1
  simp [this]
end
section
variable {prog:Program} {w:World} {A:Around} {E:Value -> Shared -> Prop} {s:Shared}
structure Walked (prog:Program) (w:World) (A:Around) (h:Heap) (a:Addr) (ss:List Str) (it:Addr) (h':Heap):Prop where
 old:∀ b o,h.get? b = some o -> h'.get? b = some o
 new:h.objs.size <= it
 walk:∃ fp St,∃ xs:List Value,Walks prog w A it fp [it] xs.length (fun i v=>xs[i]? = some v) St /\ St 0 h' /\ (∀ b ∈ fp,b = a \/ h.objs.size <= b) /\ (∀ v ∈ xs,∃ x u,v = Value.str x u) /\ (xs.map txtOf).Perm ss
theorem Walks.cast {it:Addr} {fp wr:List Addr} {n m:Nat} {P P':Nat -> Value -> Prop} {St:Nat -> Heap -> Prop} (W:Walks prog w A it fp wr n P St) (e:n = m) (hP:∀ i v,P i v ↔ P' i v):Walks prog w A it fp wr m P' St:=by
 obtain rfl:P = P':=funext fun i=>funext fun v=>propext (hP i v)
 subst e
 exact W
end
section
variable {prog:Program} {w:World} {A:Around} {E:Value -> Shared -> Prop} {s:Shared}
theorem hint_set {r:Addr} {Q:Bool -> Shared -> Prop} (hT:s.TypeIs (.ref r) "set") (h:Q false s):wpAny (model prog w) A (Builtin.List.listLengthHint (.ref r)) Q E s:=by
 unfold Builtin.List.listLengthHint
 refine wpAny_bind (wpAny_specialOf hT PySem.F.slot_set_len.lookup ?_)
 generalize hid:("set.__len__" : String) = nm
 wp_delta
 rw [show splitId nm = some ("set", "__len__") from by subst hid; decide +kernel]
 subst hid
 refine wpAny_bind (wpAny_isInstance (T := "set") (b:=true) hT (by rw [isSubtype_type]; kernel_rfl) ?_)
 refine wpAny_ite_split (fun z=>absurd z (by decide)) fun _=>?_
 refine wpAny_ite_split (fun _=>?_) fun z=>absurd (by decide +kernel) z
 exact wpAny_bind (wpAny_typeOf hT (wpAny_pure h))
end
noncomputable def ins (x:List Nat):List (List Nat) -> List (List Nat)
 | []=>[x]
 | y :: r=>if x = y then y :: r else if x < y then x :: y :: r else y :: ins x r
section
variable {prog:Program} {w:World} {A:Around} {E:Value -> Shared -> Prop} {s:Shared}
end
section
variable {X:Cx}
theorem Inv.drew {pins:List (Addr × Obj)} {σ:St} {H:Hp} {s:Shared} (I:Inv X pins σ H s) (d:Drawn):Inv X pins σ H { s with drawn:=d }:=
 ⟨I.ok,I.os,I.bare,I.base,I.loc,I.cell,I.free,I.freeC,I.pin,I.hok,I.len,I.tk⟩
end
inductive D where
 | f (v:V) | l (xs:List D) | t (xs:List D)
mutual
noncomputable def eqD:D -> D -> Bool
 | .f x,.f y=>eqV x y
 | .l xs,.l ys=>eqDs xs ys
 | .t xs,.t ys=>eqDs xs ys
 | .f _,.l _=>false
 | .f _,.t _=>false
 | .l _,.f _=>false
 | .l _,.t _=>false
 | .t _,.f _=>false
 | .t _,.l _=>false
noncomputable def eqDs:List D -> List D -> Bool
 | [],[]=>true
 | x :: xs,y :: ys=>eqD x y && eqDs xs ys
 | [],_ :: _=>false
 | _ :: _,[]=>false
end
noncomputable def Deep (K:Frag) (H:Hp):Nat -> V -> D -> Prop
 | 0,v,d=>d = .f v /\ flatV v = true
 | n + 1,v,d=>(d = .f v /\ flatV v = true) \/ (∃ a vs ds,v = .ref a /\ d = .l ds /\ SqL K H a vs /\ Paired (Deep K H n) vs ds) \/ (∃ a vs ds,v = .ref a /\ d = .t ds /\ SqT K H a vs /\ Paired (Deep K H n) vs ds)
theorem eqDs_len:∀ {xs ys:List D},xs.length ≠ ys.length -> eqDs xs ys = false
 | [],[],h=>absurd rfl h
 | [],_ :: _,_=>by rw [eqDs]
 | _ :: _,[],_=>by rw [eqDs]
 | x :: xs,y :: ys,h=>by
  rw [eqDs,eqDs_len (xs:=xs) (ys:=ys) (fun e=>h (by simp [e])),Bool.and_false]
theorem eqV_refl {v:V} (h:flatV v = true):eqV v v = true:=by
 cases v <;> simp_all [flatV,eqV]
section
variable {X:Cx} {pins:List (Addr × Obj)} {σ:St} {H:Hp} {s:Shared}
theorem list_flat {A:Around} {l:Addr} {items:Array Value} {y:V} {v:Value} (hl:s.heap.IsList l items) (hu:A.units < cLine) (r:RelV y v) (f:flatV y = true):SeqAt.EqAt A s (.ref l) v false:=by
 cases y with
 | non=>cases r; exact .list_none hl hu
 | bl b=>cases r; exact .list_bool b hl hu
 | int i=>obtain ⟨t,rfl⟩:=r; exact .list_int i t hl hu
 | str x=>obtain ⟨t,rfl⟩:=r; exact .list_str x t hl hu
 | _=>exact absurd (show false = true from f) Bool.false_ne_true
theorem flat_list {A:Around} {l:Addr} {items:Array Value} {y:V} {v:Value} (hl:s.heap.IsList l items) (hu:A.units < cLine) (r:RelV y v) (f:flatV y = true):SeqAt.EqAt A s v (.ref l) false:=by
 cases y with
 | non=>cases r; exact .none_list hl hu
 | bl b=>cases r; exact .bool_list b hl hu
 | int i=>obtain ⟨t,rfl⟩:=r; exact .int_list i t hl hu
 | str x=>obtain ⟨t,rfl⟩:=r; exact .str_list x t hl hu
 | _=>exact absurd (show false = true from f) Bool.false_ne_true
theorem tuple_flat {A:Around} {l:Addr} {items:Array Value} {y:V} {v:Value} (hl:s.heap.IsTuple l items) (hu:A.units < cLine) (r:RelV y v) (f:flatV y = true):SeqAt.EqAt A s (.ref l) v false:=by
 cases y with
 | non=>cases r; exact .tuple_none hl hu
 | bl b=>cases r; exact .tuple_bool b hl hu
 | int i=>obtain ⟨t,rfl⟩:=r; exact .tuple_int i t hl hu
 | str x=>obtain ⟨t,rfl⟩:=r; exact .tuple_str x t hl hu
 | _=>exact absurd (show false = true from f) Bool.false_ne_true
theorem flat_tuple {A:Around} {l:Addr} {items:Array Value} {y:V} {v:Value} (hl:s.heap.IsTuple l items) (hu:A.units < cLine) (r:RelV y v) (f:flatV y = true):SeqAt.EqAt A s v (.ref l) false:=by
 cases y with
 | non=>cases r; exact .none_tuple hl hu
 | bl b=>cases r; exact .bool_tuple b hl hu
 | int i=>obtain ⟨t,rfl⟩:=r; exact .int_tuple i t hl hu
 | str x=>obtain ⟨t,rfl⟩:=r; exact .str_tuple x t hl hu
 | _=>exact absurd (show false = true from f) Bool.false_ne_true
theorem apart_lt (I:Inv X pins σ H s) {a:Addr} {vs ws:List V} (h:SqL X.K H a vs) (k:SqT X.K H a ws):False:=by
 obtain ⟨_,_,p1,_⟩:=I.list h
 obtain ⟨_,_,p2,_⟩:=I.tuple k
 exact SeqAt.ne_of_list_tuple p1.isList p2 rfl
theorem deep_same (I:Inv X pins σ H s):∀ (n:Nat) (v:V) (d d':D),Deep X.K H n v d -> Deep X.K H n v d' -> eqD d d' = true
 | 0,v,d,d',⟨e,f⟩,⟨e',_⟩=>by subst e; subst e'; rw [eqD]; exact eqV_refl f
 | n + 1,v,d,d',h,h'=>by
  have pr:∀ (vs:List V) (ds ds':List D),Paired (Deep X.K H n) vs ds -> Paired (Deep X.K H n) vs ds' -> eqDs ds ds' = true:=by
   intro vs
   induction vs with
   | nil=>intro ds ds' p q; cases p; cases q; rw [eqDs]
   | cons v vs ih=>
    intro ds ds' p q
    cases p with
    | cons p1 p2=>cases q with
     | cons q1 q2=>rw [eqDs,deep_same I n v _ _ p1 q1,ih _ _ p2 q2]; rfl
  rcases h with ⟨e,f⟩ | ⟨a,vs,ds,rfl,rfl,ha,p⟩ | ⟨a,vs,ds,rfl,rfl,ha,p⟩
  ·rcases h' with ⟨e',_⟩ | ⟨a',vs',ds',rfl,_⟩ | ⟨a',vs',ds',rfl,_⟩
   ·subst e; subst e'; rw [eqD]; exact eqV_refl f
   ·exact absurd (show false = true from f) Bool.false_ne_true
   ·exact absurd (show false = true from f) Bool.false_ne_true
  ·rcases h' with ⟨_,f⟩ | ⟨a',vs',ds',e,rfl,ha',p'⟩ | ⟨a',vs',ds',e,rfl,ha',p'⟩
   ·exact absurd (show false = true from f) Bool.false_ne_true
   ·cases e
    obtain rfl:=I.list_inj ha ha'
    rw [eqD]; exact pr vs ds ds' p p'
   ·cases e
    exact (apart_lt I ha ha').elim
  ·rcases h' with ⟨_,f⟩ | ⟨a',vs',ds',e,rfl,ha',p'⟩ | ⟨a',vs',ds',e,rfl,ha',p'⟩
   ·exact absurd (show false = true from f) Bool.false_ne_true
   ·cases e
    exact (apart_lt I ha' ha).elim
   ·cases e
    obtain rfl:=I.tuple_inj ha ha'
    rw [eqD]; exact pr vs ds ds' p p'
noncomputable def eqNth (ds ds':List D) (j:Nat):Bool:=match ds[j]?,ds'[j]? with
 | some d,some d'=>eqD d d'
 | _,_=>true
theorem all_eqNth:∀ {ds ds':List D},ds.length = ds'.length -> (List.range ds.length).all (eqNth ds ds') = eqDs ds ds'
 | [],[],_=>by rw [eqDs]; rfl
 | d :: ds,d' :: ds',h=>by
  have ih:=all_eqNth (ds:=ds) (ds':=ds') (by simpa using h)
  rw [List.length_cons,List.range_succ_eq_map,List.all_cons,List.all_map,eqDs]
  have e:eqNth (d :: ds) (d' :: ds') 0 = eqD d d':=rfl
  have e2:(eqNth (d :: ds) (d' :: ds') ∘ Nat.succ) = eqNth ds ds':=funext fun j=>by simp [eqNth]
  rw [e,e2,ih]
theorem paired_at {α β:Type} {F:α -> β -> Prop}:∀ {l:List α} {m:List β},Paired F l m -> ∀ {j:Nat} {x:α},l[j]? = some x -> ∃ y,m[j]? = some y /\ F x y
 | _,_,.nil,j,x,h=>by simp at h
 | _,_,.cons p r,0,x,h=>by simp at h; subst h; exact ⟨_,rfl,p⟩
 | _,_,.cons p r,j + 1,x,h=>by simpa using paired_at r (j:=j) (by simpa using h)
theorem deep_eqAt (I:Inv X pins σ H s):∀ (n:Nat) (A:Around) (x y:V) (dx dy:D) (u v:Value),A.units + n < cLine -> Deep X.K H n x dx -> Deep X.K H n y dy -> RelV x u -> RelV y v -> SeqAt.EqAt A s u v (eqD dx dy)
 | 0,A,x,y,dx,dy,u,v,_,⟨e,f⟩,⟨e',f'⟩,ru,rv=>by subst e; subst e'; rw [eqD]; exact eqAt_V ru rv f f'
 | n + 1,A,x,y,dx,dy,u,v,hu,hx,hy,ru,rv=>by
  have hu0:A.units < cLine:=by omega
  have items:∀ (vs ws:List V) (ds ds':List D) (us us':List Value),Paired (Deep X.K H n) vs ds -> Paired (Deep X.K H n) ws ds' -> Vals vs us -> Vals ws us' ->
    ∀ j (h1:j < us.toArray.size) (h2:j < us'.toArray.size),SeqAt.EqAt A.in1 s us.toArray[j] us'.toArray[j] (eqNth ds ds' j):=by
   intro vs ws ds ds' us us' p q r r' j h1 h2
   have l1:=r.length
   have l2:=r'.length
   simp only [List.size_toArray] at h1 h2
   have g1:vs[j]? = some (vs[j]'(by omega)):=List.getElem?_eq_getElem _
   have g2:ws[j]? = some (ws[j]'(by omega)):=List.getElem?_eq_getElem _
   obtain ⟨d,hd,fd⟩:=paired_at p g1
   obtain ⟨d',hd',fd'⟩:=paired_at q g2
   obtain ⟨c,hc,rc⟩:=r.get g1
   obtain ⟨c',hc',rc'⟩:=r'.get g2
   have e1:us.toArray[j] = c:=by rw [List.getElem?_eq_getElem h1] at hc; simpa using hc
   have e2:us'.toArray[j] = c':=by rw [List.getElem?_eq_getElem h2] at hc'; simpa using hc'
   rw [e1,e2]
   unfold eqNth
   rw [hd,hd']
   exact deep_eqAt I n A.in1 _ _ d d' c c' (by rw [Around.in1_units]; omega) fd fd' rc rc'
  rcases hx with ⟨e,f⟩ | ⟨a,vs,ds,rfl,rfl,ha,p⟩ | ⟨a,vs,ds,rfl,rfl,ha,p⟩
  ·subst e
   rcases hy with ⟨e',f'⟩ | ⟨b,ws,ds',rfl,rfl,hb,q⟩ | ⟨b,ws,ds',rfl,rfl,hb,q⟩
   ·subst e'; rw [eqD]; exact eqAt_V ru rv f f'
   ·cases rv
    obtain ⟨_,_,pl,_⟩:=I.list hb
    rw [eqD]; exact flat_list pl.isList hu0 ru f
   ·cases rv
    obtain ⟨_,_,pl,_⟩:=I.tuple hb
    rw [eqD]; exact flat_tuple pl hu0 ru f
  ·cases ru
   obtain ⟨us,r1,pl,_⟩:=I.list ha
   rcases hy with ⟨e',f'⟩ | ⟨b,ws,ds',rfl,rfl,hb,q⟩ | ⟨b,ws,ds',rfl,rfl,hb,q⟩
   ·subst e'; rw [eqD]; exact list_flat pl.isList hu0 rv f'
   ·cases rv
    by_cases eab:a = b
    ·subst eab
     have:=deep_same I (n + 1) (.ref a) (.l ds) (.l ds') (.inr (.inl ⟨a,vs,ds,rfl,rfl,ha,p⟩)) (.inr (.inl ⟨a,ws,ds',rfl,rfl,hb,q⟩))
     rw [this]
     exact SeqAt.EqAt.same _
    ·obtain ⟨us',r2,pl2,_⟩:=I.list hb
     have l1:=r1.length
     have l2:=r2.length
     have l3:=p.length
     have l4:=q.length
     rw [eqD]
     by_cases el:ds.length = ds'.length
     ·rw [<- all_eqNth el,show ds.length = us.toArray.size by simp only [List.size_toArray]; omega]
      exact .of_refs eab (.lists pl.isList pl2.isList (by simp only [List.size_toArray]; omega) hu0 (items vs ws ds ds' us us' p q r1 r2))
     ·rw [eqDs_len el]
      exact .of_refs eab (.lists_lengths pl.isList pl2.isList (by simp only [List.size_toArray,bne_iff_ne,ne_eq]; omega) hu0)
   ·cases rv
    obtain ⟨_,_,pl2,_⟩:=I.tuple hb
    rw [eqD]; exact .list_tuple pl.isList pl2 hu0
  ·cases ru
   obtain ⟨us,r1,pl,_⟩:=I.tuple ha
   rcases hy with ⟨e',f'⟩ | ⟨b,ws,ds',rfl,rfl,hb,q⟩ | ⟨b,ws,ds',rfl,rfl,hb,q⟩
   ·subst e'; rw [eqD]; exact tuple_flat pl hu0 rv f'
   ·cases rv
    obtain ⟨_,_,pl2,_⟩:=I.list hb
    rw [eqD]; exact .tuple_list pl pl2.isList hu0
   ·cases rv
    by_cases eab:a = b
    ·subst eab
     have:=deep_same I (n + 1) (.ref a) (.t ds) (.t ds') (.inr (.inr ⟨a,vs,ds,rfl,rfl,ha,p⟩)) (.inr (.inr ⟨a,ws,ds',rfl,rfl,hb,q⟩))
     rw [this]
     exact SeqAt.EqAt.same _
    ·obtain ⟨us',r2,pl2,_⟩:=I.tuple hb
     have l1:=r1.length
     have l2:=r2.length
     have l3:=p.length
     have l4:=q.length
     rw [eqD]
     have key:eqDs ds ds' = ((List.range (min us.toArray.size us'.toArray.size)).all (eqNth ds ds') && us.toArray.size == us'.toArray.size):=by
      by_cases el:ds.length = ds'.length
      ·rw [<- all_eqNth el,show min us.toArray.size us'.toArray.size = ds.length by simp only [List.size_toArray]; omega,show (us.toArray.size == us'.toArray.size) = true by simp only [List.size_toArray,beq_iff_eq]; omega,Bool.and_true]
      ·rw [eqDs_len el,show (us.toArray.size == us'.toArray.size) = false by simp only [List.size_toArray,beq_eq_false_iff_ne,ne_eq]; omega,Bool.and_false]
     rw [key]
     exact .of_refs eab (.tuples pl pl2 hu0 (items vs ws ds ds' us us' p q r1 r2))
end
section
variable {X:Cx} {pins:List (Addr × Obj)} {σ:St} {H:Hp} {s:Shared}
end
section
variable {X:Cx}
theorem vals_bools {bs:List Bool}:∀ {us:List Value},Vals (bs.map V.bl) us -> us = bs.map Value.bool:=by
 induction bs with
 | nil=>intro us h; cases h; rfl
 | cons b bs ih=>
  intro us h
  cases h with
  | cons r t=>cases r; rw [ih t]; rfl
end
section
variable {X:Cx}
noncomputable def cListRng (te:TE):TE:=fun σ H Q=>te σ H fun x H1=>match x with
 | .int j=>-(2 ^ 62) <= j /\ j <= 10000 /\ ∀ p,H1 p = none -> Q (.ref p) (upd H1 p (.lst ((List.range j.toNat).map fun (i:Nat)=>V.int i)))
 | _=>False
theorem vals_range {acc:Array Value} {n:Nat} (h:ItemsOf (fun i v=>∃ t,v = Value.int ((0:Int) + (i:Int) * 1) t) acc n):Vals ((List.range n).map fun (i:Nat)=>V.int i) acc.toList:=by
 obtain ⟨hs,hi⟩:=h
 have key:∀ (l:List Value) (k:Nat),(∀ (j:Nat) (v:Value),l[j]? = some v -> ∃ t,v = Value.int ((k + j:Nat):Int) t) -> Vals ((List.range' k l.length).map fun (i:Nat)=>V.int i) l:=by
  intro l
  induction l with
  | nil=>intro k _; exact .nil
  | cons v l ih=>
   intro k h
   obtain ⟨t,e⟩:=h 0 v rfl
   rw [List.length_cons,List.range'_succ,List.map_cons]
   refine .cons ⟨t,by simpa using e⟩ (ih (k + 1) fun j v hj=>?_)
   obtain ⟨t,e⟩:=h (j + 1) v (by simpa using hj)
   exact ⟨t,by rw [e]; congr 1; omega⟩
 have:=key acc.toList 0 fun j v hj=>by
  obtain ⟨t,e⟩:=hi j v (by simpa using hj)
  exact ⟨t,by rw [e]; congr 1; omega⟩
 rw [Array.length_toList,hs,<- List.range_eq_range'] at this
 exact this
theorem qe_listrng {e:Expr} {te:TE} {p p2 pos pos2:Pos} (hc:X.calm = true) (hg:Gl X "list") (hm:X.mg "list" = none) (hg2:Gl X "range") (hm2:X.mg "range" = none) (he:PE X e te)
  (hs:starEach [e] X.env = [(false,eval e X.env)]:=by rfl)
  (hs2:starEach [Expr.Call (.Name "range" p2) [e] [] pos2] X.env = [(false,eval (Expr.Call (.Name "range" p2) [e] [] pos2) X.env)]:=by rfl):
  PE X (.Call (.Name "list" p) [.Call (.Name "range" p2) [e] [] pos2] [] pos) (cListRng te):=by
 intro pins s σ H Q I h
 refine wpAny_Call_Name_kw (ld_blt I hg hm bb_list ?_ (by decide) (by decide))
 refine PyProof.Rows.callWith_type1 ?_ hs2 rfl
 rw [hs2]
 show wpAny _ _ (spliced [(false,eval (Expr.Call (.Name "range" p2) [e] [] pos2) X.env)]) _ _ s
 refine Calls.spliced_cons ?_
 refine wpAny_Call_Name_kw (ld_blt I hg2 hm2 boot_range ?_ (by decide) (by decide))
 refine PyProof.Rows.callWith_type1 ?_ hs rfl
 rw [hs]
 show wpAny _ _ (spliced [(false,eval e X.env)]) _ _ s
 refine Calls.spliced_cons (thn (he pins s σ H _ I h) fun u s1 ⟨x,H1,I1,r1,q1⟩=>Calls.spliced_nil ?_)
 match x,r1,q1 with
 | .int j,⟨t,ht⟩,⟨a1,a2,a3⟩=>
  subst ht
  refine call_range_1 (Calls.spliced_nil ?_)
  have I2:Inv X pins σ H1 { s1 with heap:=s1.heap.push { cls:=.type "range",data:=.fields #[.int 0 s1.toks,.int j t,.int 1 (s1.toks + 1)] },toks:=s1.toks + 1 + 1 }:=I1.kept fun b o q=>Heap.get?_push_of_some _ q
  have hsz:Builtin.Range.rangeSize 0 j 1 = ((j.toNat:Nat):Int):=by rw [rangeSize_one]; split <;> omega
  refine tokQ I2.tk (call_list_range (n:=j.toNat) (I.ok.hd hc) (IsRange.new ..) (small_one (by decide) (by decide) a1 (by omega)) hsz (by omega) fun h' tk acc c' old ho hi (htk:0 < tk)=>?_)
  exact ⟨.ref _,_,I2.laid (o:=.lst ((List.range j.toNat).map fun (i:Nat)=>V.int i)) (t':=tk) old (Nat.le_refl _) ⟨by rw [List.length_map,List.length_range,sizeLine_eq]; omega,acc.toList,c',vals_range hi,by simpa using ho⟩,rfl,a3 _ I2.fresh⟩
theorem a_cListRng {te:TE} {σ:St} {H:Hp} {Q:VK}:cListRng te σ H Q = te σ H fun x H1=>match x with
 | .int j=>-(2 ^ 62) <= j /\ j <= 10000 /\ ∀ p,H1 p = none -> Q (.ref p) (upd H1 p (.lst ((List.range j.toNat).map fun (i:Nat)=>V.int i)))
 | _=>False:=rfl
end
noncomputable abbrev tx (l:List Nat):V:=V.str (st l)
section
variable {K:Frag} {g:TG} {tc:TT} {te:TE} {σc:St} {D:Addr} {Q:VK} {H:Hp}
theorem comp_rel {α:Type} (item:α -> V) (xs:List α) (keep:α -> Bool) (R:α -> V -> Hp -> Prop) {p:Addr} (hfree:H D = none) (hl:SqL K H p (xs.map item)) (hn:xs.length <= 100000)
  (mono:∀ x v H1 H2 acc,H1 D = some (.lst acc) -> (∀ b o,b ≠ D -> H1 b = some o -> H2 b = some o) -> R x v H1 -> R x v H2)
  (hs:∀ x H1 (out:VK) (non:Hp -> Prop),x ∈ xs -> Same H H1 -> (∀ v H6,keep x = true -> Same H1 H6 -> R x v H6 -> out v H6) -> (∀ H5,keep x = false -> Same H1 H5 -> non H5) ->
   g (item x) σc H1 fun σ4 H4=>tc σ4 H4 fun b H5=>if b = true then te σ4 H5 out else non H5)
  (hq:∀ H' vs,Same H H' -> H' D = some (.lst vs) -> Paired (fun x v=>R x v H') (xs.filter keep) vs -> Q (.ref D) H'):compW (Itl K p) g tc te σc D Q H:=by
 refine ⟨fun i m acc H2=>m = xs.length - i /\ i <= xs.length /\ Paired (fun x v=>R x v H2) ((xs.take i).filter keep) acc /\ Same H H2 /\ H2 D = some (.lst acc),⟨xs.length,by simp,Nat.zero_le _,.nil,same_new hfree _,upd_same⟩,?_⟩
 rintro i m acc H2 ⟨rfl,hi,pr,sm,hD⟩
 have len:acc.length <= i:=by
  have a:=pr.length
  have b:=List.length_filter_le keep (xs.take i)
  rw [List.length_take] at b
  omega
 by_cases hlt:i < xs.length
 ·refine .inr ⟨⟨_,item xs[i],sm.seq hl,by simp [hlt]⟩,fun x H3 y=>?_⟩
  obtain ⟨rfl,y⟩:=y
  have e:=y _ (sm.seq hl)
  rw [List.getElem?_map,List.getElem?_eq_getElem hlt] at e
  have e2:item xs[i] = x:=Option.some.inj e
  subst e2
  have ht:xs.take (i + 1) = xs.take i ++ [xs[i]]:=by rw [List.take_add_one,List.getElem?_eq_getElem hlt]; rfl
  refine hs xs[i] _ _ _ (List.getElem_mem hlt) sm (fun v H6 k s6 r=>?_) fun H5 k s5=>?_
  ·refine ⟨s6 _ _ hD,Nat.lt_of_le_of_lt len (sizeBig (by omega)),xs.length - (i + 1),by omega,rfl,hlt,?_,?_,upd_same⟩
   ·have m1:∀ x v,R x v H6 -> R x v (upd H6 D (.lst (acc ++ [v]))):=fun x v r=>mono x v H6 _ acc (s6 _ _ hD) (fun b o nb q=>by rw [upd_ne nb]; exact q) r
    rw [ht,List.filter_append]
    have f1:[xs[i]].filter keep = [xs[i]]:=by simp [k]
    rw [f1]
    have lift:∀ {l:List α} {vs:List V},Paired (fun x v=>R x v H3) l vs -> Paired (fun x v'=>R x v' (upd H6 D (.lst (acc ++ [v])))) l vs:=by
     intro l vs pp
     induction pp with
     | nil=>exact .nil
     | cons r _ ih=>exact .cons (mono _ _ H3 _ acc hD (fun b o nb q=>by rw [upd_ne nb]; exact s6 _ _ q) r) ih
    have app:∀ {l:List α} {vs:List V} {x:α} {v':V} {F:α -> V -> Prop},Paired F l vs -> F x v' -> Paired F (l ++ [x]) (vs ++ [v']):=by
     intro l vs x v' F pp r
     induction pp with
     | nil=>exact .cons r .nil
     | cons r' _ ih=>exact .cons r' ih
    exact app (lift pr) (m1 _ _ r)
   ·exact same_upd (sm.trans s6) hfree
  ·refine ⟨xs.length - (i + 1),by omega,rfl,hlt,?_,sm.trans s5,s5 _ _ hD⟩
   rw [ht,List.filter_append]
   have f1:[xs[i]].filter keep = []:=by simp [k]
   rw [f1,List.append_nil]
   have lift:∀ {l:List α} {vs:List V},Paired (fun x v=>R x v H3) l vs -> Paired (fun x v'=>R x v' H5) l vs:=by
    intro l vs pp
    induction pp with
    | nil=>exact .nil
    | cons r _ ih=>exact .cons (mono _ _ H3 _ acc hD (fun b o _ q=>s5 _ _ q) r) ih
   exact lift pr
 ·have e:i = xs.length:=by omega
  subst e
  rw [List.take_length] at pr
  exact .inl ⟨⟨_,sm.seq hl,by simp⟩,hq H2 acc sm hD pr⟩
end
section
variable {X:Cx}
noncomputable def kMulL:R2:=fun x y H Q=>match x,y with
 | .ref l,.int k=>∃ xs,H l = some (.lst xs) /\ 0 <= k /\ k <= 10000 /\ xs.length <= 100 /\ ∀ p,H p = none -> Q (.ref p) (upd H p (.lst (List.replicate k.toNat xs).flatten))
 | _,_=>False
theorem op_mulL:OpR X (binaryOp .Mult) kMulL:=op_rep.imp fun x y H Q q=>by
 unfold kMulL at q
 split at q
 ·rename_i l k
  obtain ⟨xs,h1,h2,h3,h4,q⟩:=q
  have h5:xs.length * k.toNat <= 100 * 10000:=Nat.mul_le_mul h4 (by omega)
  exact ⟨l,k,xs,rfl,rfl,h1,by omega,by omega,Nat.le_trans h5 (by rw [sizeLine_eq]; decide),q⟩
 ·exact q.elim
theorem a_kMulL {l:Addr} {k:Int} {H:Hp} {Q:VK}:kMulL (.ref l) (.int k) H Q = ∃ xs,H l = some (.lst xs) /\ 0 <= k /\ k <= 10000 /\ xs.length <= 100 /\ ∀ p,H p = none -> Q (.ref p) (upd H p (.lst (List.replicate k.toNat xs).flatten)):=rfl
end
theorem a_gSub {to ti:TE} {t:TSet} {v:V} {σ:St} {H:Hp} {Q:St -> Hp -> Prop}:gSub to ti t v σ H Q = to σ H fun o H1=>ti σ H1 fun i H2=>t o i v H2 fun H3=>Q σ H3:=rfl
theorem a_rSetL {p:Addr} {k:Int} {v:V} {H:Hp} {Q:Hp -> Prop}:rSetL (.ref p) (.int k) v H Q = ∃ xs j,H p = some (.lst xs) /\ ixN xs.length k = some j /\ Q (upd H p (.lst (xs.set j v))):=by
 refine propext ⟨?_,?_⟩
 ·rintro ⟨p',xs,k',j,e1,e2,h⟩
  cases e1
  cases e2
  exact ⟨xs,j,h⟩
 ·rintro ⟨xs,j,h⟩
  exact ⟨p,xs,k,j,rfl,rfl,h⟩
section
variable {X:Cx} {o e:Expr} {to te:TE} {apos cpos:Pos}
end
section
variable {X:Cx} {tg a b c:Expr} {ta tb tc:TE} {pos p:Pos}
end
section
variable {g:TG} {tb:TS} {D:Ends} {σ:St} {H:Hp}
end
section
variable {X:Cx} {a:Expr} {ta:TE} {p pos:Pos}
end
section
variable {prog:Program} {w:World} {A:Around} {E:Value -> Shared -> Prop} {s:Shared}
end
section
variable {X:Cx}
end
end L2
namespace L2
open PySem PySem.Spec PyProof.Rows PySem.Builtin PySem.Builtin.Str
theorem indices_far {n k:Nat} (h:n <= k):strSliceIndices none (some (k:Int)) 1 n = strSliceIndices none (some (n:Int)) 1 n:=by
 have e1:¬ ((k:Int) < 0):=by omega
 have e2:¬ ((n:Int) < 0):=by omega
 have e3:min (k:Int) (n:Int) = n:=by omega
 simp only [strSliceIndices,e1,e2,if_false,show (1:Int) > 0 by decide,if_true,e3,Int.min_self]
theorem slice_far (l:List Nat) (k:Nat):Txt.slice (st l) none (some (k:Int)) = st (l.take k):=by
 by_cases h:k <= l.length
 ·exact slice_to l k h
 ·have e:Txt.slice (st l) none (some (k:Int)) = Txt.slice (st l) none (some (l.length:Int)):=by
   unfold Txt.slice
   have hl:(st l).length = l.length:=by simp [Str.length]
   rw [hl,indices_far (show l.length <= k by omega)]
  rw [e,slice_to l l.length (Nat.le_refl _),List.take_length,List.take_of_length_le (by omega)]
section
variable {X:Cx}
noncomputable def kSlF:V -> Option Int -> Option Int -> Hp -> VK -> Prop:=fun x lo hi H Q=>match x,lo,hi with
 | .str z,none,some j=>z.cps.toList.length <= 100000 /\ 0 <= j /\ Q (.str (st (z.cps.toList.take j.toNat))) H
 | _,_,_=>False
theorem slF:SlR X kSlF:=sl_str.imp fun x lo hi H Q q=>by
 unfold kSlF at q
 split at q
 ·obtain ⟨h,h0,q⟩:=q
  rename_i z j
  obtain ⟨k,rfl⟩:∃ k:Nat,j = k:=⟨j.toNat,by omega⟩
  refine ⟨z,rfl,by rw [strlen]; exact Nat.le_trans h big5,?_⟩
  have e:=slice_far z.cps.toList k
  rw [st_eta] at e
  rw [e]
  simpa using q
 ·exact q.elim
theorem a_kSlF {l:List Nat} {j:Int} {H:Hp} {Q:VK}:kSlF (.str (st l)) none (some j) H Q = (l.length <= 100000 /\ 0 <= j /\ Q (.str (st (l.take j.toNat))) H):=rfl
end
end L2
namespace L2
open PySem PySem.Spec PyProof.Rows
section
variable {X:Cx}
theorem ps_setC {i:Nat} {x:Str} {pos' spos:Pos} {elt tg iter:Expr} {ifs:List Expr} {scope:Scope} {pos:Pos} {wi:TI} {g:TG} {tc:TT} {te:TE} {nt:Nat} {fi:List Nat} {N':List Str} (hN:X.N.Nodup) (hi0:X.N[i]? = some x) (hx:Loc X.env.scope x) (hcalm:X.calm = true)
  (S:CScope scope) (cn:CNames X scope nt fi N') (gk:GK nt g) (hi:PI X tg iter wi)
  (hg:∀ cl C s H ex,PG (cxC X scope cl N' C s H ex) tg g) (hc:∀ cl C s H ex,PIf (cxC X scope cl N' C s H ex) ifs tc) (he:∀ cl C s H ex,PE (cxC X scope cl N' C s H ex) elt te)
  (hsw:swapsWith (.ListComp elt [⟨tg,iter,ifs,0⟩] scope pos) (some (.Name x pos')) spos.line X.env = pure true:=by rfl)
  (hs:∀ x,foldedSetIterable iter X.env x = pure x:=by intro _; rfl) (hf:X.fn x = true \/ X.env.scope.names.lookup x = some .local:=by first | exact .inl rfl | exact .inr rfl | assumption):
  PS X (.Assign [.Name x pos'] (.ListComp elt [⟨tg,iter,ifs,0⟩] scope pos) spos) (tAsg (cComp nt fi wi g tc te) (gName i)):=by
 intro pins s σ H D I h
 have hfr:∀ y ∈ scope.names,y.2 = .free -> ∃ c,X.env.cells.lookup y.1 = some c:=fun y hy e=>I.ok.has y.1 (cn.fre y hy e)
 rw [exec_Assign_Name_used _ _ _ _ hsw]
 refine wpAny_bind (wpAny_standAt (wpAny_bind ?_))
 change wpAny _ X.A (do let _ <- comprehension (.ListComp elt [⟨tg,iter,ifs,0⟩] scope pos) scope X.env _ (newList []) false (eval iter X.env) (some (assign (.Name x pos') X.env))) _ _ s
 refine wpAny_bind (thn (Q:=fun _ s'=>∃ σ' H',Inv X pins σ' H' s' /\ D.nx σ' H') ?_ fun _ s' q=>wpAny_pure (wpAny_pure q))
 refine wpAny_comprehension_free (use:=some (assign (.Name x pos') X.env)) rfl hs (closureFor_some hfr) S.kind S.loc (thn (hi pins s σ H _ I h) fun v s1 h1=>thn h1 fun itv s2 h2=>?_)
 obtain ⟨it,fp,tn,J,H2,e,I2,T,st2,f2,hW⟩:=h2
 subst e
 have fD:H2 s2.heap.objs.size = none:=I2.hok.fresh (Nat.le_refl _)
 obtain ⟨W,⟨m0,w0⟩,turn⟩:=hW s2.heap.objs.size fD
 refine wpAny_newObj_type (wpAny_newFunctionEnv S.nocell (by intro y hy; simp at hy) (fun h₁ hns₁ hsb₁=>?_) S.kind)
 have I3:Inv X pins σ (upd H2 s2.heap.objs.size (.lst [])) { s2 with heap:=s2.heap.push { cls:=.type "list",dict:=none,data:=.seq ([]:List Value).toArray } }:=I2.lnew (its:=[]) (t':=s2.toks) .nil (Nat.zero_le _)
 generalize hs3:({ s2 with heap:=s2.heap.push { cls:=.type "list",dict:=none,data:=.seq ([]:List Value).toArray } }:Shared) = s3 at I3 hns₁ hsb₁ ⊢
 have hsz:s3.heap.objs.size = s2.heap.objs.size + 1:=by rw [<- hs3]; exact Heap.size_push ..
 have ob2:∀ b ∈ fp,∃ o,s3.heap.get? b = some o:=fun b hb=>by
  obtain ⟨o,e,_⟩:=T.obj _ _ st2 b hb
  rw [<- hs3]
  exact ⟨o,Heap.get?_push_of_some _ e⟩
 have f3:∀ b ∈ fp,FpOk X pins (upd H2 s2.heap.objs.size (.lst [])) b:=fun b hb=>by
  obtain ⟨o,e,_⟩:=T.obj _ _ st2 b hb
  refine ⟨?_,(f2 b hb).2⟩
  rw [upd_ne (Nat.ne_of_lt (Heap.lt_size e))]
  exact (f2 b hb).1
 have kp:∀ b o,s3.heap.get? b = some o -> h₁.get? b = some o:=fun b o e=>hsb₁.extBut b o (Nat.ne_of_lt (Heap.lt_size e)) (Heap.get?_push_of_some _ e)
 have st3:tn 0 h₁:=T.keep _ _ _ st2 fun b _ o e=>kp b o (by rw [<- hs3]; exact Heap.get?_push_of_some _ e)
 have J4:Inv (cxC X scope (clOf X.env.cells scope.names []) N' s3.heap.objs.size s3 (upd H2 s2.heap.objs.size (.lst [])) fp) (X.pn ++ pins) (compσ nt fi σ) (upd H2 s2.heap.objs.size (.lst [])) { s3 with heap:=h₁,toks:=s3.toks + ([]:List (Str × Value)).length }:=
  inv_comp I3 S cn f3 ob2 hns₁ kp I3.tk
 generalize hcl:clOf X.env.cells scope.names [] = cl at J4 ⊢
 generalize hH3:upd H2 s2.heap.objs.size (.lst []) = H3 at J4 I3 f3 w0
 have stat:∀ {H':Hp},(∀ b ∈ fp,H' b = none) -> ∀ b ∈ fp,FpOk (cxC X scope cl N' s3.heap.objs.size s3 H3 fp) (X.pn ++ pins) H' b:=fun {H'} hn b hb=>by
  obtain ⟨g0,g1,g2,g3,g4,g5⟩:=f3 b hb
  have ok:=J4.ok
  refine ⟨hn b hb,(ok.exf b hb).1,ok.exfs b hb,.inl hb,(ok.exf b hb).2,fun p hp=>g5 p ?_⟩
  have hp':p ∈ ([]:List (Addr × Obj)) ++ (X.pn ++ pins):=hp
  simpa using hp'
 have loop:∀ s₃:Shared,s₃ = { s3 with heap:=h₁,toks:=s3.toks + ([]:List (Str × Value)).length } ->
   codeAny (model X.prog X.w) X.A (.compLoop (.ListComp elt [⟨tg,iter,ifs,0⟩] scope pos) 0 (.ref it) (.ref s2.heap.objs.size) (compEnvC scope cl s3.heap.objs.size X.env))
    (compPost (model X.prog X.w) X.A X.xe (some (assign (.Name x pos') X.env)) (fun _ s'=>∃ σ' H',Inv X pins σ' H' s' /\ D.nx σ' H') (.ref s2.heap.objs.size) s3.heap.objs.size) s₃:=by
  rintro s₃ rfl
  refine compLoop_any (fun n s'=>∃ i acc H',Inv (cxC X scope cl N' s3.heap.objs.size s3 H3 fp) (X.pn ++ pins) (compσ nt fi σ) H' s' /\ tn i s'.heap /\ (∀ b ∈ fp,H' b = none) /\ W i n acc H') ?_ m0
   ⟨0,[],H3,J4,st3,fun b hb=>(f3 b hb).1,w0⟩
  rintro n s5 ⟨ii,acc,H5,I5,st5,fr5,w5⟩
  rcases turn ii n acc H5 w5 with ⟨stop,qn⟩ | ⟨go,step⟩
  ·refine thn (T.done (cxC X scope cl N' s3.heap.objs.size s3 H3 fp) rfl rfl rfl hcalm ii (X.pn ++ pins) s5 (compσ nt fi σ) H5 (fun _ _=>False) I5 (stat fr5) st5 stop) fun r s6 ⟨hr,I6⟩=>?_
   subst hr
   obtain ⟨m6,hn6,_⟩:=I6.loc
   have I7:Inv X pins σ H5 s6:=inv_back I3 f3 (Nat.le_refl _) I6 (Heap.SameBut.refl _ s6.heap)
   have fC:FpOk X pins H5 s3.heap.objs.size:=I3.fpOk (Nat.le_refl _) I6.free
   obtain ⟨c0,c1,c2,c3,c4,c5⟩:=fC
   refine wpAny_assign_Name (store_ok2 I7 hN hi0 hx (v:=.ref s2.heap.objs.size) rfl (fun s8 I8 ⟨a,sb,ha⟩=>?_) hf)
   have na:a ≠ s3.heap.objs.size:=by
    rcases ha with rfl | ha
    ·exact c1.symm
    ·exact c4 x a ha
   refine ⟨m6,hn6.sameBut sb na.symm,fun h' sb'=>⟨_,H5,?_,qn⟩⟩
   exact I8.turned (t':=s8.toks) (fun b o nb e=>(sb'.2 b nb).trans e) c0 c1 c3 c4 c5
  ·refine thn (T.item (cxC X scope cl N' s3.heap.objs.size s3 H3 fp) rfl rfl rfl hcalm ii (X.pn ++ pins) s5 (compσ nt fi σ) H5 (fun _ _=>False) I5 (stat fr5) st5 go) fun r s6 ⟨u,hr,h6⟩=>?_
   subst hr
   refine thn h6 fun _ s7 ⟨y,H7,I7,r7,y7,st7,fr7⟩=>?_
   have I7':=I7.pinned (stat fr7) (T.obj _ _ st7)
   refine thn (hg _ _ _ _ _ _ s7 (compσ nt fi σ) H7 y u _ I7' r7 (gk _ _ _ _ (step y H7 y7))) fun _ s8 ⟨σ8,H8,I8,q8,l8,d8⟩=>?_
   refine thn (hc _ _ _ _ _ _ s8 σ8 H8 _ I8 q8) fun b s9 ⟨H9,I9,q9⟩=>?_
   have again:∀ {s':Shared} {H':Hp} {m':Nat} {acc':List V},Inv (cxC X scope cl N' s3.heap.objs.size s3 H3 fp) ((X.pn ++ pins) ++ pinsAt fp s7.heap) σ8 H' s' -> m' < n -> W (ii + 1) m' acc' H' ->
     ∃ m,m < n /\ ∃ i acc H',Inv (cxC X scope cl N' s3.heap.objs.size s3 H3 fp) (X.pn ++ pins) (compσ nt fi σ) H' s' /\ tn i s'.heap /\ (∀ b ∈ fp,H' b = none) /\ W i m acc H':=fun {s' H' m' acc'} I' hm w'=>by
    refine ⟨m',hm,ii + 1,acc',H',I'.unpinned.weak l8.symm (compσ_weak l8 d8),T.keep _ _ _ st7 fun b hb o e=>(I'.pin (b,o) (List.mem_append_right _ (List.mem_append_right _ (mem_pinsAt hb e)))).1,fun b hb=>?_,w'⟩
    obtain ⟨o,e,d⟩:=T.obj _ _ st7 b hb
    exact (I'.pin (b,o) (List.mem_append_right _ (List.mem_append_right _ (mem_pinsAt hb e)))).2.1
   cases b with
   | false=>
    rw [if_neg Bool.false_ne_true] at q9 ⊢
    obtain ⟨m',hm,w'⟩:=q9
    exact again I9 hm w'
   | true=>
    rw [if_pos rfl] at q9 ⊢
    refine thn (he _ _ _ _ _ _ s9 σ8 H9 _ I9 q9) fun uv s10 ⟨v10,H10,I10,r10,hD,hlt,m',hm,w'⟩=>?_
    refine thn (mt_append (X:=cxC X scope cl N' s3.heap.objs.size s3 H3 fp) _ s10 σ8 H10 (.ref s2.heap.objs.size) [v10] (.ref s2.heap.objs.size) [uv] (fun _ H'=>H' = upd H10 s2.heap.objs.size (.lst (acc ++ [v10]))) I10 rfl (.cons r10 .nil) ⟨_,acc,v10,rfl,rfl,hD,hlt,rfl⟩) fun _ s11 ⟨_,H11,I11,_,e11⟩=>?_
    subst e11
    exact again I11 hm w'
 exact codeAny_compStart_list (loop _ rfl) (T.self _ 0 _ _ _ st3 (loop _ rfl))
end
structure Fly (P:Program) (w:World) (outer:List Env) (H H':Hp) (h h':Heap) (ea C:Addr):Prop where
 un:Un (frs outer) [] H H' h h'
 hok:HOk P w H' h'
 new:∀ b o,h.get? b = some o -> b ≠ ea
 fr:H' ea = none
 fl:∃ B a0,Heap.FlyingW B outer ea (.ref C) a0 h' /\ ∀ b,((∃ o,h.get? b = some o) /\ b ∉ frs outer) \/ H' b ≠ none -> ∃ o,B.get? b = some o
noncomputable def XR (P:Program) (w:World):CXT:=fun outer H s E e s'=>
 ∃ ea C H',e = .ref ea /\ 0 < s'.toks /\ s'.os = s.os /\ AllBare s'.gens /\ Fly P w outer H H' s.heap s'.heap ea C /\ E (.ref C) none H'
theorem Fly.on {P:Program} {w:World} {outer:List Env} {H H':Hp} {h h' h2:Heap} {ea C:Addr} (F:Fly P w outer H H' h h' ea C) {B:Heap} {a0:Value}
  (fl1:Heap.FlyingW B outer ea (.ref C) a0 h') (inB:∀ b,((∃ o,h.get? b = some o) /\ b ∉ frs outer) \/ H' b ≠ none -> ∃ o,B.get? b = some o)
  (ff:∀ b ∈ frs outer,H b = none) (fl2:Heap.FlyingW B outer ea (.ref C) a0 h2) (up:h'.UpToSlots h2):Fly P w outer H H' h h2 ea C:=by
 have same:∀ b o,((∃ o,h.get? b = some o) /\ b ∉ frs outer) \/ H' b ≠ none -> h'.get? b = some o -> h2.get? b = some o:=fun b o hb e=>by
  obtain ⟨o',eB⟩:=inB b hb
  have e1:=fl1.1 b o' eB
  rw [e] at e1; cases e1
  exact fl2.1 b o eB
 have sl:∀ b o,b ∈ frs outer -> h'.get? b = some o -> ∃ sl,h2.get? b = some { o with slots:=sl }:=fun b o hb e=>by
  obtain ⟨_,o',ho',hd⟩:=fl1.2.2.1.mem hb
  rw [e] at ho'; cases ho'
  exact up b o e hd
 refine ⟨⟨fun b o e n hf hx=>same b o (.inl ⟨⟨o,e⟩,hf⟩) (F.un.keep b o e n hf hx),fun b o e n hf hx=>?_,F.un.free,fun b o e hx=>?_,F.un.tups,F.un.frzs,F.un.tbls⟩,fun a o e=>?_,F.new,F.fr,B,a0,fl2,inB⟩
 ·obtain ⟨s1,e1⟩:=F.un.slot b o e n hf hx
  obtain ⟨s2,e2⟩:=sl b _ hf e1
  exact ⟨s2,e2⟩
 ·obtain ⟨o1,e1⟩:=F.un.there b o e hx
  by_cases hf:b ∈ frs outer
  ·obtain ⟨s2,e2⟩:=sl b _ hf e1
   exact ⟨_,e2⟩
  ·exact ⟨o1,same b o1 (.inl ⟨⟨o,e⟩,hf⟩) e1⟩
 ·refine (F.hok a o e).stay (fun b u hb q=>same b u (.inr ?_) q) (fun _ q=>q) fun _ _ q=>q
  rcases hb with rfl | hb
  ·rw [e]; simp
  ·rw [hb]; simp
section
variable {X:Cx} {pins:List (Addr × Obj)} {σ:St} {H:Hp} {s:Shared}
theorem frs_cons {env:Env} {l:List Env} {L:Addr} (hf:env.frame = some L):frs (env :: l) = L :: frs l:=by unfold frs; rw [List.filterMap_cons,hf]
theorem Inv.leave (I:Inv X pins σ H s) (hex:X.ex = []) {B h2:Heap} {ea C:Addr} {a0:Value} (hB:B.StaysIn s.heap) (up:s.heap.UpToSlots h2)
  (inB:∀ b,((∃ o,X.s₀.heap.get? b = some o) /\ b ∉ frs X.outer) \/ H b ≠ none -> ∃ o,B.get? b = some o) (fl:Heap.FlyingW B X.outer ea (.ref C) a0 h2)
  (new:∀ b o,X.s₀.heap.get? b = some o -> b ≠ ea) (fr:H ea = none):Fly X.prog X.w X.outer X.H₀ H X.s₀.heap h2 ea C:=by
 have nx:∀ b:Addr,b ∉ X.ex:=fun b z=>by rw [hex] at z; cases z
 have same:∀ b o,((∃ o,X.s₀.heap.get? b = some o) /\ b ∉ frs X.outer) \/ H b ≠ none -> s.heap.get? b = some o -> h2.get? b = some o:=fun b o hb e=>by
  obtain ⟨o',eB⟩:=inB b hb
  have e1:=hB b o' eB
  rw [e] at e1; cases e1
  exact fl.1 b o eB
 have sl:∀ b o,b ∈ frs X.outer -> s.heap.get? b = some o -> ∃ sl,h2.get? b = some { o with slots:=sl }:=fun b o hb e=>by
  obtain ⟨_,o',ho',hd⟩:=I.funs.mem hb
  rw [e] at ho'; cases ho'
  exact up b o e hd
 refine ⟨⟨fun b o e n hf _=>same b o (.inl ⟨⟨o,e⟩,hf⟩) (I.base.keep b o e n hf (nx b)),fun b o e n hf _=>?_,fun b o e n _=>I.base.free b o e n (nx b),fun b o e _=>?_,I.base.tups,I.base.frzs,I.base.tbls⟩,fun a o e=>?_,new,fr,B,a0,fl,inB⟩
 ·obtain ⟨s1,e1⟩:=I.base.slot b o e n hf (nx b)
  obtain ⟨s2,e2⟩:=sl b _ hf e1
  exact ⟨s2,e2⟩
 ·obtain ⟨o1,e1⟩:=I.base.there b o e (nx b)
  by_cases hf:b ∈ frs X.outer
  ·obtain ⟨s2,e2⟩:=sl b _ hf e1
   exact ⟨_,e2⟩
  ·exact ⟨o1,same b o1 (.inl ⟨⟨o,e⟩,hf⟩) e1⟩
 ·refine (I.hok a o e).stay (fun b u hb q=>same b u (.inr ?_) q) (fun _ q=>q) fun _ _ q=>q
  rcases hb with rfl | hb
  ·rw [e]; simp
  ·rw [hb]; simp
end
def Raises (X:Cx) (E:XK):Prop:=∀ (pins:List (Addr × Obj)) (σ:St) (H:Hp) (s:Shared) (h':Heap) (e C:Addr) (vs:List Value),
 Inv X pins σ H s -> Heap.MadeExcOf s.heap h' e (.ref C) vs -> E (.ref C) none H -> X.xe (.ref e) { s with heap:=h' }
section
variable {P:Program} {w:World} {K:Frag} {mg:Str -> Option Value} {base:Heap} {N:List Str} {qual:Str} {scope:Scope} {f:Addr} {cd:Value} {A:Around} {outer:List Env} {s₀:Shared} {H₀:Hp} {E:XK}
theorem raises_fn:Raises (cxOf (XR P w) P w K mg base N qual scope f cd A outer s₀ H₀ E) E:=by
 intro pins σ H s h' e C vs I M q
 let X:Cx:=cxOf (XR P w) P w K mg base N qual scope f cd A outer s₀ H₀ E
 have I:Inv X pins σ H s:=I
 have hf:X.env.frame = some X.env.locals:=rfl
 have hst:X.stack = X.env :: X.outer:=rfl
 show wpAny (model P w) X.A (leaving X.env (.ref e)) (fun _ s''=>XR P w outer H₀ s₀ E (.ref e) s'') (fun e' s''=>XR P w outer H₀ s₀ E e' s'') { s with heap:=h' }
 have hin:∀ env ∈ X.stack,∀ a,env.frame = some a -> a ∈ frs X.stack:=fun env he a ha=>List.mem_filterMap.mpr ⟨env,he,ha⟩
 refine wpAny_leaves_madeW (s:={ s with heap:=h' }) (base:=PySem.W.hideAll s.heap (frs X.stack)) (h:=s.heap) (env:=X.env) (outer:=X.outer) (L:=X.env.locals) I.ok.frames hf (fun b o z=>PySem.W.of_hideAll _ z) (PySem.W.funFrames_hide I.stack hin) M fun h2 t fl _ _ up=>?_
 have up1:s.heap.UpToSlots h2:=(Heap.UpToSlots.of_keeps M.keeps).trans up
 have ne:∀ b o,s.heap.get? b = some o -> b ≠ e:=fun b o q z=>by rw [z,M.new] at q; cases q
 refine ⟨e,C,H,rfl,I.tk,I.os,I.bare,I.leave rfl (fun b o z=>PySem.W.of_hideAll _ z) up1 (fun b hb=>?_) fl (fun b o z=>?_) ?_,q⟩
 ·rcases hb with ⟨⟨o,eo⟩,nf⟩ | hb
  ·obtain ⟨o1,e1⟩:=I.base.there b o eo (by intro z; cases z)
   refine ⟨o1,PySem.W.hideAll_get _ e1 ?_⟩
   rw [hst,frs_cons hf]
   intro z
   rcases List.mem_cons.mp z with z | z
   ·exact absurd (Nat.lt_of_lt_of_le (Heap.lt_size eo) I.ok.above) (by rw [z]; exact Nat.lt_irrefl _)
   ·exact nf z
  ·cases eb:H b with
   | none=>exact absurd eb hb
   | some u=>
    have lt:=I.hok.lt eb
    cases eo:s.heap.get? b with
    | none=>
     exfalso
     have:=(I.hok b u eb)
     cases u with
     | lst xs=>obtain ⟨_,_,_,_,e⟩:=this; rw [eo] at e; cases e
     | tup xs=>obtain ⟨_,_,_,_,e,_⟩:=this; rw [eo] at e; cases e
     | dK kvs=>obtain ⟨_,_,_,_,o,_,_,e,_⟩:=this; rw [eo] at e; cases e
     | dT kvs=>obtain ⟨_,_,_,_,o,_,_,e,_⟩:=this; rw [eo] at e; cases e
     | set S n=>obtain ⟨o,_,_,_,e,_⟩:=this; rw [eo] at e; cases e
     | ins C dx fs=>obtain ⟨_,_,_,e,_⟩:=this; rw [eo] at e; cases e
     | own y=>obtain ⟨_,e⟩:=this; rw [eo] at e; cases e
     | xd fs=>obtain ⟨_,⟨_,_,_,e,_⟩,_⟩:=this; rw [eo] at e; cases e
     | rng lo hi=>obtain ⟨_,_,_,e⟩:=this; rw [eo] at e; cases e
     | frz ob u=>obtain ⟨e,_⟩:=this; rw [eo] at e; cases e
     | tbl ps=>have e:s.heap.get? b = some _:=this; rw [eo] at e; cases e
     | met f y=>have e:s.heap.get? b = some _:=this; rw [eo] at e; cases e
     | ext φ=>obtain ⟨_,⟨_,e⟩,_⟩:=this; rw [eo] at e; cases e
    | some o=>
     refine ⟨o,PySem.W.hideAll_get _ eo fun z=>?_⟩
     exact hb (I.stkFree b z)
 ·obtain ⟨o1,e1⟩:=I.base.there b o z (by intro z; cases z)
  exact ne b o1 e1
 ·cases eb:H e with
  | none=>rfl
  | some u=>
   exfalso
   have:=(I.hok e u eb)
   have eo:=M.new
   cases u with
   | lst xs=>obtain ⟨_,_,_,_,e⟩:=this; rw [eo] at e; cases e
   | tup xs=>obtain ⟨_,_,_,_,e,_⟩:=this; rw [eo] at e; cases e
   | dK kvs=>obtain ⟨_,_,_,_,o,_,_,e,_⟩:=this; rw [eo] at e; cases e
   | dT kvs=>obtain ⟨_,_,_,_,o,_,_,e,_⟩:=this; rw [eo] at e; cases e
   | set S n=>obtain ⟨o,_,_,_,e,_⟩:=this; rw [eo] at e; cases e
   | ins C dx fs=>obtain ⟨_,_,_,e,_⟩:=this; rw [eo] at e; cases e
   | own y=>obtain ⟨_,e⟩:=this; rw [eo] at e; cases e
   | xd fs=>obtain ⟨_,⟨_,_,_,e,_⟩,_⟩:=this; rw [eo] at e; cases e
   | rng lo hi=>obtain ⟨_,_,_,e⟩:=this; rw [eo] at e; cases e
   | frz ob u=>obtain ⟨e,_⟩:=this; rw [eo] at e; cases e
   | tbl ps=>have e:s.heap.get? _ = some _:=this; rw [eo] at e; cases e
   | met f y=>have e:s.heap.get? _ = some _:=this; rw [eo] at e; cases e
   | ext φ=>obtain ⟨_,⟨_,e⟩,_⟩:=this; rw [eo] at e; cases e
theorem passes_fn:Passes (XR P w) (cxOf (XR P w) P w K mg base N qual scope f cd A outer s₀ H₀ E) E:=by
 intro pins σ H s e s' I h
 let X:Cx:=cxOf (XR P w) P w K mg base N qual scope f cd A outer s₀ H₀ E
 have I:Inv X pins σ H s:=I
 obtain ⟨ea,C,H',rfl,tk,os,bare,F,q⟩:=h
 have hf:X.env.frame = some X.env.locals:=rfl
 have hst:X.stack = X.env :: X.outer:=rfl
 show wpAny (model P w) X.A (leaving X.env (.ref ea)) (fun _ s''=>XR P w outer H₀ s₀ E (.ref ea) s'') (fun e' s''=>XR P w outer H₀ s₀ E e' s'') s'
 obtain ⟨B,a0,fl,inB⟩:=F.fl
 have I2:Inv X pins σ H' s':=I.call' os F.un F.hok bare (fun b z=>nomatch z) tk
 refine wpAny_leaves_onW (env:=X.env) (outer:=X.outer) (L:=X.env.locals) I.ok.frames hf fl fun h2 fl2 up=>?_
 refine ⟨ea,C,H',rfl,tk,os.trans I.os,bare,I2.leave rfl fl.1 up (fun b hb=>inB b ?_) fl2 (fun b o z=>?_) F.fr,q⟩
 ·rcases hb with ⟨⟨o,eo⟩,nf⟩ | hb
  ·obtain ⟨o1,e1⟩:=I.base.there b o eo (by intro z; cases z)
   refine .inl ⟨⟨o1,e1⟩,?_⟩
   show b ∉ frs X.stack
   rw [hst,frs_cons hf]
   intro z
   rcases List.mem_cons.mp z with z | z
   ·exact absurd (Nat.lt_of_lt_of_le (Heap.lt_size eo) I.ok.above) (by rw [z]; exact Nat.lt_irrefl _)
   ·exact nf z
  ·exact .inr hb
 ·obtain ⟨o1,e1⟩:=I.base.there b o z (by intro z; cases z)
  exact F.new b o1 e1
end
abbrev bmV:List Value:=[.type "ValueError",.type "Exception",.type "BaseException",.type "object"]
structure XCl (K:Frag) (C:Addr):Prop where
 ex:PySem.W.excIn K C bmV "ValueError.__new__" = true
 ty:PySem.W.typeIn K (.ref C) = some (.type "type")
 mb:PySem.W.mroIn K C (.type "BaseException") = some true
 ga:findIn K (.ref C) "__getattribute__" = some (some (.builtin "BaseException.__getattribute__"))
 gh:findIn K (.ref C) "__getattr__" = some none
 ca:findIn K (.ref C) "__class__" = some (some (.builtin "object.__class__"))
 gt:PySem.W.specialIn K (.builtin "object.__class__") "__get__" = some (some (.builtin "getset_descriptor.__get__"))
 tk:PySem.W.takesIn K (.builtin "object.__class__") = some true
 mo:PySem.W.mroIn K C (.type "object") = some true
theorem XCl.own {K:Frag} {h:Heap} {C:Addr} (c:XCl K C) (X:K.In h):OwnCls "x" C bmV "ValueError.__new__" (fun _=>some (.ref C)) h:=by
 have q:=c.ex
 refine ⟨rfl,?_⟩
 revert q
 unfold PySem.W.excIn
 rcases hk:K.lookup C with _ | ⟨oc,odd,oda,osl⟩
 ·intro q; cases q
 ·intro q
  split at q
  case h_2=>cases q
  case h_1 dd cdt sl eo=>
   cases eo
   split at q
   case h_2=>cases q
   case h_1 C' bm a0 a1 a2 a3 n a5 em es=>
    simp only [Bool.and_eq_true,beq_iff_eq,Bool.not_eq_true'] at q
    obtain ⟨⟨⟨⟨⟨e1,e2⟩,e3⟩,e4⟩,e5⟩,e6⟩:=q
    subst e1 e2
    obtain ⟨f1,f2,f3,f4,f5,f6,f7,f8,f9,f10,f11⟩:=cdt
    dsimp only at em e3 e5 e6
    subst em e3
    have el:osl = #[a0,a1,a2,a3,some (.builtin "ValueError.__new__"),a5]:=by
     rcases osl with ⟨l⟩
     simp only at es
     rw [es]
    subst el
    exact ⟨bm,f4,f1,f5,f2,f6,f7,f8,f9,f10,odd,a0,a1,a2,a3,a5,_,X _ _ hk,.of_isNs (PySem.W.isNs_of_in X e5),PySem.W.nsMap_none_of_in X e5 e6,PySem.W.tail_of_in X e4⟩
section
variable {X:Cx} {x:Str} {C:Addr} {np cpos pos:Pos} {e:Expr} {es:List Expr} {t:TA} {E:XK}
noncomputable def tRaise (C:Addr) (E:XK) (t:TA):TS:=fun _ σ H=>t σ H fun vs H1=>vs.length <= sizeLine /\ E (.ref C) none H1
theorem ps_raise (hc:X.calm = true) (hx:Raises X E) (hg:Gl X x) (hm:X.mg x = some (.ref C)) (c:XCl X.K C) (ha:PA X (e :: es) t) (hdb:(x == ("__debug__" : Str)) = false:=by decide)
  (he:starEach (e :: es) X.env = (false,eval e X.env) :: starEach es X.env:=by rfl) (hpl:(backTo cpos (starEach es X.env)).any (·.1) = false:=by rfl):
  PS X (.Raise (some (.Call (.Name x np) (e :: es) [] cpos)) none pos) (tRaise C E t):=by
 intro pins s σ H D I h
 obtain ⟨tl,N,nm,q,bs,hdct,sn,sub,ab,col,dd,k0,k1,k2,k3,k5,mN,hC,hN,hni,T⟩:=(c.own I.mod.kin).obj
 refine wpAny_Raise_call_subU (k5:=k5) (k3:=k3) (k2:=k2) (k1:=k1) (k0:=k0) (dd:=dd) (col:=col) (ab:=ab) (sub:=sub) (sn:=sn) (hdct:=hdct) (bs:=bs) (q:=q) (C:=C) (nm:=nm) (N:=N) (bm:=tl) (mN:=mN) PySem.F.excBase_ValueError (by decide) PySem.F.excBase_ValueError (T.hasType PySem.F.excBase_ValueError.hasBase) (I.ok.hd hc) ?_ hni (ld_glob I hg hm ⟨rfl,?_⟩ hdb)
 ·rw [he]
  show (false || (backTo cpos (starEach es X.env)).any (·.1)) = false
  rw [hpl]; rfl
 ·have hp:=ha cpos pins s σ H _ I h
  rw [he] at hp ⊢
  refine Calls.evalArgs_plain (wpAny_mono hp (fun us s2 hq=>?_) fun _ _ y=>y)
  obtain ⟨vs,H1,I1,r,z,q1⟩:=hq
  exact ⟨rfl,by rw [<- r.length]; exact z,I1.bk _ _ hC,hN.keeps I1.bk,T.keeps I1.bk,fun h' ea M=>hx pins σ H1 s2 h' ea C us I1 M q1⟩
end
section
variable {K:Frag} {M:Model} {h:Heap} {C D e:Addr}
end
section
variable {X:Cx} {W:St -> XK} {p pins:List (Addr × Obj)} {σ:St} {H:Hp} {s:Shared}
end
section
variable {X:Cx} {CX:CXT} {k:Nat} {f:Addr} {fd:FuncData} {ps:List Str} {sp:Sp} {dvs:List V} {ds:List Value} {W:St -> XK} {x:Str} {p pos:Pos} {e:Expr} {es:List Expr} {t:TA}
end
noncomputable def XO (C ea:Addr):HO:=.ext fun h=>∃ o,h.get? ea = some o /\ o.cls = .ref C
theorem XO.ok {P:Program} {w:World} {H:Hp} {h:Heap} {C ea:Addr} (e:∃ o,h.get? ea = some o /\ o.cls = .ref C):ObjOk P w H h ea (XO C ea):=
 ⟨e,let ⟨o,e1,_⟩:=e; ⟨o,e1⟩,fun _ _ ⟨o,e1,e2⟩ k=>⟨o,k o e1,e2⟩⟩
structure Caught (K:Frag) (C D:Addr):Prop where
 sub:PySem.W.mroIn K C (.ref D) = some true
end L2
namespace L2
open PySem PySem.Spec PySem.Calls PyProof.Rows PySem.W Builtin Builtin.ObjectAttr Builtin.Getset_descriptor
section
variable {prog:Program} {w:World} {A:Around} {E:Value -> Shared -> Prop} {K:Frag} {x C:Addr} {o:Obj} {h:Heap} {g:Array GenState} {d:Drawn} {t:Nat} {os:OsState}
end
section
variable {X:Cx} {pins:List (Addr × Obj)} {σ:St} {H:Hp} {s:Shared}
noncomputable def V.cv:V -> Option Value
 | .ref a=>some (.ref a)
 | .ty n=>some (.type n)
 | _=>none
end
end L2
namespace L2
open PySem PySem.Spec PyProof.Rows
def CalleeX (P:Program) (w:World) (K:Frag) (mg:Str -> Option Value) (base:Heap) (k:Nat) (x:Str) (ps:List Str) (sp:Sp):Prop:=
 ∃ f fd,FnOk P w K mg base (XR P w) k f fd ps sp /\ Binds K fd ps [] /\ keepIn K (.ref f) = true /\ mg x = some (.ref f)
theorem Fn.calX {P:Program} {w:World} {K:Frag} {mg:Str -> Option Value} {base:Heap} {x:Str} {st:Stmt} {N ps:List Str} {k:Nat} {sp:Sp} (F:Fn K mg x st) (S:FnScope N ps (defScope st)) (len:∀ vs H Q E,sp vs H Q E -> vs.length = ps.length)
  (hb:∀ (kV doc pm:Value) (an:Option Addr) (cdv ct:Value) (us:List Value),us.length = ps.length -> bindArgs (fnOf x x (defArgs st) (defBody st) (defScope st) .none kV doc pm an cdv ct) ⟨us,[]⟩ = pure (ps.zip us))
  (hbody:∀ (f:Addr) (cdv:Value) (A:Around) (outer:List Env) (s:Shared) (H:Hp) (vs:List V) (Q:VK) (E:XK),Room k (A.deeper (envOfC x (defScope st) s.heap.objs.size f cdv)) -> sp vs H Q E ->
   ∃ t,PSs (cxOf (XR P w) P w K mg base N x (defScope st) f cdv A outer s H E) (defBody st) t /\ t { nx:=fun _ H'=>Q .non H',rt:=Q } (start N vs) H):CalleeX P w K mg base (k + 1) x ps sp:=by
 obtain ⟨f,fd,F,m⟩:=F
 have hB:=F.binds hb
 have hK:=F.kp
 obtain ⟨oc,od,kV,doc,pm,an,cdv,ct,osl,rfl,lk,hcd⟩:=F.ex
 exact ⟨f,_,fn_of lk hcd S len (hbody f cdv),hB,hK,m⟩
section
variable {X:Cx} {k:Nat} {x:Str} {ps:List Str} {sp:Sp} {p pos:Pos} {e:Expr} {es:List Expr} {t:TA} {E:XK} {W:St -> XK}
theorem pe_fnX (C:CalleeX X.prog X.w X.K X.mg X.base k x ps sp) (hr:Room k X.A) (hx:Passes (XR X.prog X.w) X E) (hg:Gl X x) (ha:PA X (e :: es) t)
  (he:starEach (e :: es) X.env = (false,eval e X.env) :: starEach es X.env:=by rfl) (hpl:(backTo pos (starEach es X.env)).any (·.1) = false:=by rfl) (hd:(x == ("__debug__" : Str)) = false:=by decide):PE X (.Call (.Name x p) (e :: es) [] pos) (tCall sp [] E t):=by
 obtain ⟨f,fd,F,b,kp,m⟩:=C
 exact pe_call F hr hg m kp b .nil hx ha (hdb:=hd) (he:=he) (hpl:=hpl)
theorem CalleeX.calm {P:Program} {w:World} {K:Frag} {mg:Str -> Option Value} {base:Heap} {k:Nat} {x:Str} {ps:List Str} {sp:Sp} (C:CalleeX P w K mg base k x ps sp):
  Callee P w K mg base k x ps (fun vs H Q _=>sp vs H Q E0):=by
 obtain ⟨f,fd,F,b,kp,m⟩:=C
 refine ⟨f,fd,⟨fun vs H Q _ h=>F.len vs H Q E0 h,fun A outer s H args us vs Q E hr e0 hb hv h=>?_⟩,b,kp,m⟩
 refine codeAny_mono (F.run A outer s H args us vs Q E0 hr e0 hb hv h) fun r s' q=>?_
 rcases r with er | fl
 ·obtain ⟨_,_,_,_,_,_,_,_,z⟩:=q
  exact z.elim
 ·cases fl with
  | ret u=>exact q
  | _=>exact q.elim
end
theorem PS.nox {X:Cx} {st:Stmt} {t:TS} (h:PS X.nox st t):PS X st t:=fun pins s σ H D I hw=>
 wpAny_mono (h pins s σ H D (I.wish _) hw) (fun _ _ q=>q.unwish) fun _ _ z=>z.elim
theorem PS.calm {X:Cx} {st:Stmt} {t:TS} (h:PS X.nox st t):PS X st t:=PS.nox h
section
variable {X:Cx} {a c:Expr} {es:List Expr} {ta:TE} {pos p tpos:Pos} {x1:Nat}
end
noncomputable abbrev TJ:=Nat -> St -> Hp -> (Hp -> Prop) -> Prop
def PJ (X:Cx) (es:List Expr) (t:TJ):Prop:=∀ (acc:Str) (pins:List (Addr × Obj)) (s:Shared) (σ:St) (H:Hp) (Q:Hp -> Prop),acc.length <= sizeLine -> Inv X pins σ H s -> t acc.length σ H Q ->
 Joins (model X.prog X.w) X.A X.xe (evalEach es X.env) acc (fun out s1=>out.length <= sizeLine /\ ∃ H1,Inv X pins σ H1 s1 /\ Q H1) s
noncomputable def jNil:TJ:=fun _ _ H Q=>Q H
noncomputable def jCons (te:TE) (tj:TJ):TJ:=fun n σ H Q=>te σ H fun x H1=>match x with
 | .str y=>n + y.length <= sizeLine /\ tj (n + y.length) σ H1 Q
 | _=>False
section
variable {X:Cx} {e v1 v2:Expr} {es rest:List Expr} {te:TE} {tj:TJ} {pos:Pos}
theorem pj_nil:PJ X [] jNil:=fun acc pins s σ H Q hz I q=>⟨hz,H,I,q⟩
theorem pj_cons (he:PE X e te) (hr:PJ X es tj) (hs:evalEach (e :: es) X.env = eval e X.env :: evalEach es X.env:=by rfl):PJ X (e :: es) (jCons te tj):=by
 intro acc pins s σ H Q hz I q
 rw [hs]
 refine thn (he pins s σ H _ I q) fun u s1 ⟨x,H1,I1,r,z⟩=>?_
 dsimp only at z
 split at z
 ·rename_i y
  obtain ⟨t,rfl⟩:=r
  have hl:(acc ++ y).length = acc.length + y.length:=strLen_append _ _
  exact ⟨y,t,rfl,by rw [hl]; exact z.1,hr (acc ++ y) pins s1 σ H1 Q (by rw [hl]; exact z.1) I1 (by rw [hl]; exact z.2)⟩
 ·exact z.elim
noncomputable def cFS (tj:TJ):TE:=fun σ H Q=>tj 0 σ H fun H1=>∀ z,Q (.str z) H1
theorem pe_fs (h:PJ X (v1 :: v2 :: rest) tj):PE X (.JoinedStr (v1 :: v2 :: rest) pos) (cFS tj):=by
 intro pins s σ H Q I q
 have J:=h Str.empty pins s σ H _ (by decide) I q
 refine wpAny_JoinedStr ?_
 have mono:∀ {P R:Str -> Shared -> Prop} (l:List (Sem Value)) (acc:Str) (s:Shared),(∀ o s,P o s -> R o s) -> Joins (model X.prog X.w) X.A X.xe l acc P s -> Joins (model X.prog X.w) X.A X.xe l acc R s:=by
  intro P R l
  induction l with
  | nil=>intro acc s k z; exact k _ _ z
  | cons x r ih=>
   intro acc s k z
   exact thn z fun v s1 ⟨y,t,e,hz,z⟩=>⟨y,t,e,hz,ih _ _ k z⟩
 exact mono _ _ _ (fun out s1 ⟨hz,H1,I1,z⟩=>⟨hz,⟨.str out,H1,I1.tok _,⟨_,rfl⟩,z out⟩⟩) J
noncomputable def cFmtR (tv:TE):TE:=fun σ H Q=>tv σ H fun x H1=>match x with
 | .str y=>(∀ c ∈ y.cps.toList,c < 16 ^ 8) /\ y.length <= 100000 /\ ∀ z:Str,z.length <= 10 * y.length + 2 -> Q (.str z) H1
 | _=>False
theorem pe_fmtR (hv:PE X e te):PE X (.FormattedValue e 114 none pos) (cFmtR te):=by
 intro pins s σ H Q I q
 refine wpAny_FormattedValue_repr (thn (hv pins s σ H _ I q) fun u s1 ⟨x,H1,I1,r,z⟩=>?_)
 dsimp only at z
 split at z
 ·rename_i y
  obtain ⟨t,rfl⟩:=r
  obtain ⟨h1,h2,z⟩:=z
  have hl:=PySem.StrLaws.reprText_len y h1
  have hs:(reprText y).length <= sizeLine:=Nat.le_trans hl (Nat.le_trans (by omega:10 * y.length + 2 <= 1000002) (by decide))
  refine wpAny_pyReprObj_str ?_ hs
  exact tokQ (Nat.succ_pos _) (formatField_str (fun t' tk (htk:0 < tk)=>⟨.str (reprText y),H1,I1.tok _,⟨_,rfl⟩,z _ hl⟩) hs)
 ·exact z.elim
end
noncomputable def xA (K:Frag) (x:Str):Addr:=match nsIn K mainGlobals x with
 | some (some (.ref a))=>a
 | _=>0
theorem xA_eq {K:Frag} {x:Str} {C:Addr} (e:nsIn K mainGlobals x = some (some (.ref C))):xA K x = C:=by unfold xA; rw [e]
def Xn (K:Frag) (mg:Str -> Option Value) (x:Str):Prop:=mg x = some (.ref (xA K x)) /\ XCl K (xA K x)
def Xm (K:Frag) (x y:Str) (b:Bool):Prop:=PySem.W.mroIn K (xA K x) (.ref (xA K y)) = some b /\ (b = false -> xA K x ≠ xA K y)
def Xv (K:Frag) (x:Str):Prop:=PySem.W.mroIn K (xA K x) (.type "ValueError") = some true
theorem Xm.caught {K:Frag} {x y:Str} (m:Xm K x y true):Caught K (xA K x) (xA K y):=⟨m.1⟩
section
variable {K:Frag} {h:Heap} {mg:Str -> Option Value} {x y:Str} {C D:Addr}
theorem xn_mk (X:K.In h) (G:h.Ns mainGlobals mg) (n:nsIn K mainGlobals x = some (some (.ref C))) (ex:PySem.W.excIn K C bmV "ValueError.__new__" = true) (ty:PySem.W.typeIn K (.ref C) = some (.type "type")) (mb:PySem.W.mroIn K C (.type "BaseException") = some true)
  (ga:findIn K (.ref C) "__getattribute__" = some (some (.builtin "BaseException.__getattribute__"))) (gh:findIn K (.ref C) "__getattr__" = some none) (ca:findIn K (.ref C) "__class__" = some (some (.builtin "object.__class__"))) (mo:PySem.W.mroIn K C (.type "object") = some true)
  (gt:PySem.W.specialIn K (.builtin "object.__class__") "__get__" = some (some (.builtin "getset_descriptor.__get__"))) (tk:PySem.W.takesIn K (.builtin "object.__class__") = some true):Xn K mg x:=by
 unfold Xn
 rw [xA_eq n]
 exact ⟨mg_of X G n,⟨ex,ty,mb,ga,gh,ca,gt,tk,mo⟩⟩
theorem xm_mk {b:Bool} (n:nsIn K mainGlobals x = some (some (.ref C))) (n':nsIn K mainGlobals y = some (some (.ref D))) (m:PySem.W.mroIn K C (.ref D) = some b) (d:b = false -> C ≠ D):Xm K x y b:=by
 unfold Xm
 rw [xA_eq n,xA_eq n']
 exact ⟨m,d⟩
theorem xv_mk (n:nsIn K mainGlobals x = some (some (.ref C))) (m:PySem.W.mroIn K C (.type "ValueError") = some true):Xv K x:=by
 unfold Xv
 rw [xA_eq n]
 exact m
end
theorem a_tRaise {C:Addr} {E:XK} {t:TA} {D:Ends} {σ:St} {H:Hp}:tRaise C E t D σ H = t σ H fun vs H1=>vs.length <= sizeLine /\ E (.ref C) none H1:=rfl
theorem a_cFS {tj:TJ} {σ:St} {H:Hp} {Q:VK}:cFS tj σ H Q = tj 0 σ H fun H1=>∀ z,Q (.str z) H1:=rfl
theorem a_jNil {n:Nat} {σ:St} {H:Hp} {Q:Hp -> Prop}:jNil n σ H Q = Q H:=rfl
theorem a_jCons {te:TE} {tj:TJ} {n:Nat} {σ:St} {H:Hp} {Q:Hp -> Prop}:jCons te tj n σ H Q = te σ H fun x H1=>match x with
 | .str y=>n + y.length <= sizeLine /\ tj (n + y.length) σ H1 Q
 | _=>False:=rfl
theorem a_cFmtR {tv:TE} {σ:St} {H:Hp} {Q:VK}:cFmtR tv σ H Q = tv σ H fun x H1=>match x with
 | .str y=>(∀ c ∈ y.cps.toList,c < 16 ^ 8) /\ y.length <= 100000 /\ ∀ z:Str,z.length <= 10 * y.length + 2 -> Q (.str z) H1
 | _=>False:=rfl
end L2
namespace L2
open PySem PySem.Spec PyProof.Rows PySem.Builtin PySem.Builtin.Str
section
variable {X:Cx}
end
end L2
namespace L2
open PySem PySem.Spec PyProof.Rows
section
variable {K:Frag} {g:TG} {tc:TT} {te:TE} {σc:St} {D:Addr} {Q:VK} {H:Hp}
theorem paired_snoc' {α β:Type} {F:α -> β -> Prop} {l:List α} {m:List β} {x:α} {y:β} (h:Paired F l m) (r:F x y):Paired F (l ++ [x]) (m ++ [y]):=by
 induction h with
 | nil=>exact .cons r .nil
 | cons r' _ ih=>exact .cons r' ih
theorem comp_relR {lo:Int} {n:Nat} (R:Nat -> V -> Hp -> Prop) (hfree:H D = none) (hn:n <= 100000)
  (mono:∀ x v H1 H2 acc,H1 D = some (.lst acc) -> (∀ b o,b ≠ D -> H1 b = some o -> H2 b = some o) -> R x v H1 -> R x v H2)
  (hs:∀ i H1 (out:VK) (non:Hp -> Prop),i < n -> Same H H1 -> (∀ v H6,Same H1 H6 -> R i v H6 -> out v H6) ->
   g (.int (lo + i)) σc H1 fun σ4 H4=>tc σ4 H4 fun b H5=>if b = true then te σ4 H5 out else non H5)
  (hq:∀ H' vs,Same H H' -> H' D = some (.lst vs) -> Paired (fun x v=>R x v H') (List.range n) vs -> Q (.ref D) H'):compW (Itr lo n) g tc te σc D Q H:=by
 refine ⟨fun i m acc H2=>m = n - i /\ i <= n /\ Paired (fun x v=>R x v H2) (List.range i) acc /\ Same H H2 /\ H2 D = some (.lst acc),⟨n,by simp,Nat.zero_le _,.nil,same_new hfree _,upd_same⟩,?_⟩
 rintro i m acc H2 ⟨rfl,hi,pr,sm,hD⟩
 have len:acc.length = i:=by rw [<- pr.length,List.length_range]
 by_cases hlt:i < n
 ·refine .inr ⟨hlt,fun x H3 y=>?_⟩
  obtain ⟨rfl,rfl⟩:=y
  refine hs i _ _ _ hlt sm fun v H6 s6 r=>?_
  refine ⟨s6 _ _ hD,Nat.lt_of_le_of_lt (Nat.le_of_eq len) (sizeBig (by omega)),n - (i + 1),by omega,rfl,hlt,?_,same_upd (sm.trans s6) hfree,upd_same⟩
  have lift:∀ {l:List Nat} {vs:List V},Paired (fun x v=>R x v H3) l vs -> Paired (fun x v'=>R x v' (upd H6 D (.lst (acc ++ [v])))) l vs:=fun pp=>
   L2.Paired.mapP pp fun _ _ r=>mono _ _ H3 _ acc hD (fun b o nb q=>by rw [upd_ne nb]; exact s6 _ _ q) r
  rw [List.range_succ]
  exact paired_snoc' (lift pr) (mono _ _ H6 _ acc (s6 _ _ hD) (fun b o nb q=>by rw [upd_ne nb]; exact q) r)
 ·have e:i = n:=by omega
  subst e
  exact .inl ⟨Nat.le_refl _,hq H2 acc sm hD pr⟩
end
structure RoomH (k:Nat) (A:Around):Prop where
 dp:A.depth + 3 * k + 5 < recursionLimit
 un:A.units + 16 * k + 200 < cLine
theorem Room.h {k:Nat} {A:Around} (r:Room k A):RoomH k A:=⟨r.dp,r.un⟩
theorem RoomH.mono {j k:Nat} {A:Around} (r:RoomH k A) (h:j <= k):RoomH j A:=⟨by have:=r.dp; omega,by have:=r.un; omega⟩
structure FnOkH (P:Program) (w:World) (K:Frag) (mg:Str -> Option Value) (base:Heap) (k:Nat) (f:Addr) (fd:FuncData) (ps:List Str) (sp:Sp):Prop where
 len:∀ vs H Q E,sp vs H Q E -> vs.length = ps.length
 run:∀ (A:Around) (outer:List Env) (s:Shared) (H:Hp) (args:Args) (us:List Value) (vs:List V) (Q:VK) (E:XK),RoomH k A -> Env0 P w K mg base A outer s H -> BindsTo s fd args (ps.zip us) -> Vals vs us -> sp vs H Q E ->
  codeAny (model P w) A (.call (.ref f) args) (CR CX0 outer P w H s Q E) s
section
variable {X:Cx} {k:Nat} {x:Str} {ps:List Str} {sp:Sp} {p pos:Pos} {e:Expr} {es:List Expr} {t:TA}
end
section
variable {κ:Type} [DecidableEq κ]
noncomputable def valV (kvs:List (κ × V)) (k:κ):Option V:=(kvs.find? fun kv=>decide (kv.1 = k)).map (·.2)
noncomputable def putK (kvs:List (κ × V)) (k:κ) (v:V):List (κ × V):=
 if (kvs.any fun kv=>decide (kv.1 = k)) = true then kvs.map (fun kv=>if kv.1 = k then (kv.1,v) else kv) else kvs ++ [(k,v)]
noncomputable def dropK (kvs:List (κ × V)) (k:κ):List (κ × V):=kvs.filter fun kv=>decide (kv.1 ≠ k)
theorem valV_pos {p:κ × V} {r:List (κ × V)} {k:κ} (e:p.1 = k):valV (p :: r) k = some p.2:=by simp [valV,List.find?_cons,e]
theorem valV_neg {p:κ × V} {r:List (κ × V)} {k:κ} (e:¬ p.1 = k):valV (p :: r) k = valV r k:=by simp [valV,List.find?_cons,e]
theorem valV_any (k:κ):∀ kvs:List (κ × V),(kvs.any fun kv=>decide (kv.1 = k)) = (valV kvs k).isSome
 | []=>rfl
 | p :: r=>by
  rw [List.any_cons]
  by_cases e:p.1 = k
  ·simp only [valV_pos e,decide_eq_true e,Bool.true_or,Option.isSome_some]
  ·rw [valV_neg e,decide_eq_false e,Bool.false_or]; exact valV_any k r
theorem RelO.isSome_eq {o:Option V} {u:Option Value} (r:RelO o u):o.isSome = u.isSome:=by
 cases o with
 | none=>cases u with
  | none=>rfl
  | some _=>exact (show False from r).elim
 | some _=>cases u with
  | none=>exact (show False from r).elim
  | some _=>rfl
theorem RelO.getD {o:Option V} {u:Option Value} {d:V} {d':Value} (r:RelO o u) (rd:RelV d d'):RelV (o.getD d) (u.getD d'):=by
 cases o with
 | none=>cases u with
  | none=>exact rd
  | some _=>exact (show False from r).elim
 | some _=>cases u with
  | none=>exact (show False from r).elim
  | some _=>exact r
theorem KV.val {kvs:List (κ × V)} {vs:List (κ × Value)} (r:KV kvs vs) (k:κ):RelO (valV kvs k) (valueAt vs k):=by
 unfold KV at r
 induction r with
 | nil=>exact True.intro
 | @cons p q ps qs h t ih=>
  obtain ⟨h1,h2⟩:=h
  by_cases e:p.1 = k
  ·have e':q.1 = k:=h1.symm.trans e
   have b:valueAt (q :: qs) k = some q.2:=by simp [valueAt,List.find?_cons,e']
   rw [valV_pos e,b]; exact h2
  ·have e':¬ q.1 = k:=fun z=>e (h1.trans z)
   have b:valueAt (q :: qs) k = valueAt qs k:=by simp [valueAt,List.find?_cons,e']
   rw [valV_neg e,b]; exact ih
theorem KV.any {kvs:List (κ × V)} {vs:List (κ × Value)} (r:KV kvs vs) (k:κ):(kvs.any fun kv=>decide (kv.1 = k)) = vs.any fun kv=>decide (kv.1 = k):=by
 unfold KV at r
 induction r with
 | nil=>rfl
 | cons h t ih=>rw [List.any_cons,List.any_cons,ih,h.1]
theorem KV.repl {kvs:List (κ × V)} {vs:List (κ × Value)} (r:KV kvs vs) (k:κ) {y:V} {u:Value} (ry:RelV y u):
  KV (kvs.map fun kv=>if kv.1 = k then (kv.1,y) else kv) (vs.map fun kv=>if kv.1 = k then (kv.1,u) else kv):=by
 unfold KV at r ⊢
 induction r with
 | nil=>exact .nil
 | @cons p q ps qs h t ih=>
  rw [List.map_cons,List.map_cons]
  refine .cons ?_ ih
  obtain ⟨h1,h2⟩:=h
  by_cases e:p.1 = k
  ·rw [if_pos e,if_pos (h1.symm.trans e)]; exact ⟨h1,ry⟩
  ·rw [if_neg e,if_neg (fun z=>e (h1.trans z))]; exact ⟨h1,h2⟩
theorem KV.put {kvs:List (κ × V)} {vs:List (κ × Value)} (r:KV kvs vs) (k:κ) {y:V} {u:Value} (ry:RelV y u):KV (putK kvs k y) (stored vs k u):=by
 unfold putK stored
 rw [r.any k]
 by_cases e:(vs.any fun kv=>decide (kv.1 = k)) = true
 ·rw [if_pos e,if_pos e]; exact r.repl k ry
 ·rw [if_neg e,if_neg e]; exact Paired.snoc r ⟨rfl,ry⟩
theorem KV.drop {kvs:List (κ × V)} {vs:List (κ × Value)} (r:KV kvs vs) (k:κ):KV (dropK kvs k) (without vs k):=by
 unfold KV at r ⊢
 unfold dropK without
 induction r with
 | nil=>exact .nil
 | @cons p q ps qs h t ih=>
  obtain ⟨h1,h2⟩:=h
  rw [List.filter_cons,List.filter_cons]
  by_cases e:p.1 = k
  ·have a:¬ decide (p.1 ≠ k) = true:=by simp [e]
   have b:¬ decide (q.1 ≠ k) = true:=by simp [h1.symm.trans e]
   rw [if_neg a,if_neg b]; exact ih
  ·have e':¬ q.1 = k:=fun z=>e (h1.trans z)
   have a:decide (p.1 ≠ k) = true:=by simp [e]
   have b:decide (q.1 ≠ k) = true:=by simp [e']
   rw [if_pos a,if_pos b]; exact .cons ⟨h1,h2⟩ ih
theorem KV.keys {kvs:List (κ × V)} {vs:List (κ × Value)} (r:KV kvs vs):kvs.map (·.1) = vs.map (·.1):=by
 unfold KV at r
 induction r with
 | nil=>rfl
 | cons h t ih=>rw [List.map_cons,List.map_cons,ih,h.1]
theorem KV.length {kvs:List (κ × V)} {vs:List (κ × Value)} (r:KV kvs vs):kvs.length = vs.length:=Paired.length r
end
noncomputable abbrev KT (H:Hp):List (List Key × V) -> List (List Key × Addr × Value) -> Prop:=Paired fun p q=>p.1 = q.1 /\ H q.2.1 = some (.tup (p.1.map kV)) /\ RelV p.2 q.2.2
theorem KT.val {H:Hp} {kvs:List (List Key × V)} {xs:List (List Key × Addr × Value)} (r:KT H kvs xs) (k:List Key):RelO (valV kvs k) ((atKey xs k).map (·.2)):=by
 induction r with
 | nil=>exact True.intro
 | @cons p q ps qs h t ih=>
  obtain ⟨h1,_,h2⟩:=h
  by_cases e:p.1 = k
  ·have e':q.1 = k:=h1.symm.trans e
   have b:atKey (q :: qs) k = some q.2:=by simp [atKey,List.find?_cons,e']
   rw [valV_pos e,b]; exact h2
  ·have e':¬ q.1 = k:=fun z=>e (h1.trans z)
   have b:atKey (q :: qs) k = atKey qs k:=by simp [atKey,List.find?_cons,e']
   rw [valV_neg e,b]; exact ih
theorem KT.repl {H:Hp} {kvs:List (List Key × V)} {xs:List (List Key × Addr × Value)} (r:KT H kvs xs) (k:List Key) {y:V} {u:Value} (ry:RelV y u):
  KT H (kvs.map fun kv=>if kv.1 = k then (kv.1,y) else kv) (xs.map (putAt k u)):=by
 induction r with
 | nil=>exact .nil
 | @cons p q ps qs h t ih=>
  rw [List.map_cons,List.map_cons]
  refine .cons ?_ ih
  obtain ⟨h1,h2,h3⟩:=h
  unfold putAt
  by_cases e:p.1 = k
  ·rw [if_pos e,if_pos (h1.symm.trans e)]; exact ⟨h1,h2,ry⟩
  ·rw [if_neg e,if_neg (fun z=>e (h1.trans z))]; exact ⟨h1,h2,h3⟩
theorem KT.put {H:Hp} {kvs:List (List Key × V)} {xs:List (List Key × Addr × Value)} (r:KT H kvs xs) (k:List Key) {b:Addr} {y:V} {u:Value} (hb:H b = some (.tup (k.map kV))) (ry:RelV y u):
  KT H (putK kvs k y) (storedH xs k b u):=by
 have e:(kvs.any fun kv=>decide (kv.1 = k)) = (atKey xs k).isSome:=by
  rw [valV_any,(r.val k).isSome_eq,Option.isSome_map]
 unfold putK storedH
 rw [e]
 by_cases q:(atKey xs k).isSome = true
 ·rw [if_pos q,if_pos q]; exact r.repl k ry
 ·rw [if_neg q,if_neg q]; exact Paired.snoc r ⟨rfl,hb,ry⟩
theorem KT.keeps {H H':Hp} {kvs:List (List Key × V)} {xs:List (List Key × Addr × Value)} (r:KT H kvs xs) (ht:∀ b ys,H b = some (.tup ys) -> H' b = some (.tup ys)):KT H' kvs xs:=
 Paired.mapP r fun _ _ z=>⟨z.1,ht _ _ z.2.1,z.2.2⟩
section
variable {P:Program} {w:World} {H:Hp} {h:Heap} {a:Addr}
theorem rd_of {u:HO} (ok:HOk P w H h) (e:Rd H a u):ObjOk P w H h a u:=e.ok ok
theorem dk_rd {kvs:List (Key × V)} (ok:HOk P w H h) (e:Rd H a (.dK kvs)):kvs.length <= sizeLine /\ (a == sysModules) = false /\ ∃ vs,KV kvs vs /\ h.DictOf (mixKind P w) a vs:=
 show ObjOk P w H h a (.dK kvs) from rd_of ok e
theorem dk_of {kvs:List (Key × V)} (ok:HOk P w H h) (e:H a = some (.dK kvs)):kvs.length <= sizeLine /\ (a == sysModules) = false /\ ∃ vs,KV kvs vs /\ h.DictOf (mixKind P w) a vs:=dk_rd ok (.inl e)
end
def DGet (H:Hp) (a:Addr) (y:V) (r:Option V):Prop:=
 (∃ kvs k,Rd H a (.dK kvs) /\ y = kV k /\ r = valV kvs k) \/ ∃ kvs k b,Rd H a (.dT kvs) /\ y = .ref b /\ H b = some (.tup (k.map kV)) /\ r = valV kvs k
def DPut (H:Hp) (a:Addr) (y v:V) (H':Hp):Prop:=
 (∃ kvs k,H a = some (.dK kvs) /\ y = kV k /\ kvs.length < sizeLine /\ H' = upd H a (.dK (putK kvs k v))) \/
 ∃ kvs k b,H a = some (.dT kvs) /\ y = .ref b /\ H b = some (.tup (k.map kV)) /\ kvs.length < sizeLine /\ H' = upd H a (.dT (putK kvs k v))
theorem DGet.k {H:Hp} {a:Addr} {kvs:List (Key × V)} {k:Key} (e:H a = some (.dK kvs)):DGet H a (kV k) (valV kvs k):=.inl ⟨kvs,k,.inl e,rfl,rfl⟩
theorem DGet.t {H:Hp} {a b:Addr} {kvs:List (List Key × V)} {k:List Key} (e:H a = some (.dT kvs)) (eb:H b = some (.tup (k.map kV))):DGet H a (.ref b) (valV kvs k):=.inr ⟨kvs,k,b,.inl e,rfl,eb,rfl⟩
theorem DPut.k {H:Hp} {a:Addr} {kvs:List (Key × V)} {k:Key} {v:V} (e:H a = some (.dK kvs)) (hl:kvs.length < sizeLine):DPut H a (kV k) v (upd H a (.dK (putK kvs k v))):=.inl ⟨kvs,k,e,rfl,hl,rfl⟩
theorem DPut.t {H:Hp} {a b:Addr} {kvs:List (List Key × V)} {k:List Key} {v:V} (e:H a = some (.dT kvs)) (eb:H b = some (.tup (k.map kV))) (hl:kvs.length < sizeLine):
  DPut H a (.ref b) v (upd H a (.dT (putK kvs k v))):=.inr ⟨kvs,k,b,e,rfl,eb,hl,rfl⟩
section
variable {X:Cx} {pins:List (Addr × Obj)} {σ:St} {H:Hp} {s:Shared} {a:Addr} {y v:V} {u r:Value} {o:Option V} {A:Around} {E:Value -> Shared -> Prop}
theorem d_write {h':Heap} {t':Nat} {ob:HO} (I:Inv X pins σ H s) (mu:Mut (H a)) (hs:Heap.SameBut a s.heap h') (he:∃ q,h'.get? a = some q) (new:ObjOk X.prog X.w (upd H a ob) h' a ob) (ht:0 < t':=by first | assumption | exact Nat.succ_pos _ | (apply Inv.tk; assumption) | omega):
  Inv X pins σ (upd H a ob) { s with heap:=h',toks:=t' }:=
 I.write (x:=a) (e:=a) mu (.inl rfl) (fun b q hb z=>(hs.2 b hb).trans z) he new
theorem dk_new {P:Program} {w:World} {H':Hp} {h':Heap} {kvs:List (Key × V)} {vs:List (Key × Value)} (z:kvs.length <= sizeLine) (hd:(a == sysModules) = false) (rel:KV kvs vs) (dd:h'.DictOf (mixKind P w) a vs):
  ObjOk P w H' h' a (.dK kvs):=⟨z,hd,vs,rel,dd⟩
end
section
variable {X:Cx} {pins:List (Addr × Obj)} {σ:St} {H:Hp} {s:Shared} {a:Addr} {kvs:List (Key × V)} {k:Key} {u:Value} {A:Around} {E:Value -> Shared -> Prop}
end
section
variable {X:Cx} {o i e value:Expr} {pos pos' tpos:Pos} {td ty tv:TE}
end
section
variable {X:Cx} {pos:Pos}
end
structure M1 (X:Cx) (o:Expr) (m:Str) (apos:Pos) (e:Expr) (cpos:Pos):Prop where
 base:attributeBase o m X.env (eval o X.env) = eval o X.env
 few:((backTo cpos (starEach [e] X.env)).all (fun x=>!x.1) && (backToKw cpos (keywordEach [] X.env)).all (fun x=>x.1.isSome)
  && decide (([e]:List Expr).length + ([]:List Keyword).length + (if ([]:List Keyword).isEmpty then 0 else 1) < 30)) = true
 line:(apos.endLine == cpos.line) = true
 trees:backTo cpos (starEach [e] X.env) = [(false,eval e X.env)]
structure M2 (X:Cx) (o:Expr) (m:Str) (apos:Pos) (e f:Expr) (cpos:Pos):Prop where
 base:attributeBase o m X.env (eval o X.env) = eval o X.env
 few:((backTo cpos (starEach [e,f] X.env)).all (fun x=>!x.1) && (backToKw cpos (keywordEach [] X.env)).all (fun x=>x.1.isSome)
  && decide (([e,f]:List Expr).length + ([]:List Keyword).length + (if ([]:List Keyword).isEmpty then 0 else 1) < 30)) = true
 line:(apos.endLine == cpos.line) = true
 trees:backTo cpos (starEach [e,f] X.env) = [(false,eval e X.env),(false,eval f X.env)]
section
variable {X:Cx} {pins:List (Addr × Obj)} {σ:St} {H:Hp} {s:Shared} {a:Addr} {y d:V} {u r:Value} {o:Option V} {A:Around} {E:Value -> Shared -> Prop}
end
section
variable {X:Cx} {o e f:Expr} {apos cpos:Pos} {td ty tx:TE}
end
section
variable {X:Cx} {pins:List (Addr × Obj)} {σ:St} {H:Hp} {s:Shared} {a:Addr} {kvs:List (Key × V)} {A:Around} {E:Value -> Shared -> Prop}
end
section
variable {X:Cx} {pins:List (Addr × Obj)} {σ:St} {H:Hp} {s:Shared} {a:Addr} {y:V} {u:Value} {A:Around} {E:Value -> Shared -> Prop}
end
section
variable {X:Cx}
end
section
variable {κ:Type} [DecidableEq κ]
end
section
variable {X:Cx} {o i e value:Expr} {pos pos' apos cpos:Pos} {td ty tv ta:TE}
end
theorem piled_le {ts:List Str} {b:Nat} (h:∀ t ∈ ts,t.length <= b):piled ts <= (b + 2) * ts.length:=by
 induction ts with
 | nil=>simp [piled]
 | cons t r ih=>
  rw [piled_cons,List.length_cons,Nat.mul_succ]
  have:=ih fun x hx=>h x (List.mem_cons_of_mem _ hx)
  have:=h t List.mem_cons_self
  omega
theorem textFrom_le:∀ (ts:List Str) (k:Nat) (acc:Str),(textFrom k acc ts).length <= acc.length + piled ts
 | [],k,acc=>by simp [textFrom,piled]
 | t :: ts,k,acc=>by
  rw [textFrom,piled_cons]
  have:=textFrom_le ts (k + 1) (acc ++ (if k > 0 then ", " else "" : String) ++ t)
  have e:(acc ++ (if k > 0 then ", " else "" : String) ++ t).length <= acc.length + 2 + t.length:=by
   rw [strLen_append,strLen_append]
   split
   ·exact Nat.le_refl _
   ·show acc.length + 0 + t.length <= _; omega
  omega
theorem listText_le {ts:List Str} {b:Nat} (h:∀ t ∈ ts,t.length <= b):(listText ts).length <= (b + 2) * ts.length + 2:=by
 unfold listText
 rw [strLen_append]
 have h1:=textFrom_le ts 0 "["
 have h2:=piled_le h
 have e1:("[" : Str).length = 1:=rfl
 have e2:("]" : Str).length = 1:=rfl
 omega
theorem tupleText_le {ts:List Str} {b:Nat} (h:∀ t ∈ ts,t.length <= b):(tupleText ts).length <= (b + 2) * ts.length + 3:=by
 unfold tupleText
 rw [strLen_append,strLen_append]
 have h2:=piled_le h
 have e1:("(" : Str).length = 1:=rfl
 have e3:((if ts.length == 1 then ",)" else ")" : String):Str).length <= 2:=by split <;> decide
 by_cases hn:ts = []
 ·subst hn
  have:(Str.join ", " ([]:List Str)).length = 0:=rfl
  omega
 ·have:=join_length_add ts hn
  omega
section
variable {X:Cx} {e:Expr} {te:TE} {pos:Pos}
def Few (ls:List (List Nat)):Prop:=ls.length <= 100 /\ ∀ l ∈ ls,l.length <= 100 /\ ∀ c ∈ l,c < 16 ^ 8
noncomputable def cFmtA (tv:TE):TE:=fun σ H Q=>tv σ H fun x H1=>match x with
 | .non=>∀ z:Str,z.length <= 200000 -> Q (.str z) H1
 | .bl _=>∀ z:Str,z.length <= 200000 -> Q (.str z) H1
 | .int i=>(i = 0 \/ i = 10) /\ ∀ z:Str,z.length <= 200000 -> Q (.str z) H1
 | .str y=>(∀ c ∈ y.cps.toList,c < 16 ^ 8) /\ y.length <= 10000 /\ ∀ z:Str,z.length <= 200000 -> Q (.str z) H1
 | .ref p=>∃ ls,Few ls /\ (H1 p = some (.lst (ls.map fun l=>V.str (st l))) \/ H1 p = some (.tup (ls.map fun l=>V.str (st l)))) /\ ∀ z:Str,z.length <= 200000 -> Q (.str z) H1
 | _=>False
theorem few_repr {ls:List (List Nat)} (h:Few ls):∀ t ∈ ls.map fun l=>reprText (st l),t.length <= 1002:=fun t ht=>by
 obtain ⟨l,hl,rfl⟩:=List.mem_map.mp ht
 obtain ⟨h1,h2⟩:=h.2 l hl
 have:=PySem.StrLaws.reprText_len (st l) (by rw [st_cps]; exact h2)
 have e:(st l).length = l.length:=by simp [Str.length]
 omega
theorem vals_txt:∀ {ls:List (List Nat)} {us:List Value},Vals (ls.map fun l=>V.str (st l)) us -> ∃ _:List Nat,us.length = ls.length /\ ∀ (i:Nat) u,us[i]? = some u -> ∃ l t,ls[i]? = some l /\ u = Value.str (st l) t
 | [],_,.nil=>⟨[],rfl,fun i u h=>by simp at h⟩
 | l :: ls,_,.cons r t=>by
  obtain ⟨ts,h1,h2⟩:=vals_txt t
  obtain ⟨tk,rfl⟩:=r
  refine ⟨[],by rw [List.length_cons,List.length_cons,h1],fun i u h=>?_⟩
  cases i with
  | zero=>simp only [List.getElem?_cons_zero,Option.some.injEq] at h; exact ⟨l,tk,rfl,h.symm⟩
  | succ i=>rw [List.getElem?_cons_succ] at h; exact h2 i u h
theorem pe_fmtA (hgd:X.A.guards = some []) (hu:X.A.units < cLine) (hv:PE X e te):PE X (.FormattedValue e 114 none pos) (cFmtA te):=by
 intro pins s σ H Q I q
 refine wpAny_FormattedValue_repr (thn (hv pins s σ H _ I q) fun u s1 ⟨x,H1,I1,r,z⟩=>?_)
 dsimp only at z
 have fin:∀ (y:Str) (h':Heap) (tk:Nat),0 < tk -> (∀ b o,s1.heap.get? b = some o -> h'.get? b = some o) -> y.length <= 200000 -> (∀ z:Str,z.length <= 200000 -> Q (.str z) H1) -> ∀ u,wpAny (model X.prog X.w) X.A (formatField (.str y u) Str.empty) (EP X pins σ Q) X.xe { s1 with heap:=h',toks:=tk }:=
  fun y h' tk htk kp hy z u=>tokQ htk (formatField_str (fun t' tk' (htk':0 < tk')=>⟨.str y,H1,I1.kept kp,⟨_,rfl⟩,z y hy⟩) (Nat.le_trans hy (by decide)))
 have same:∀ b o,s1.heap.get? b = some o -> s1.heap.get? b = some o:=fun _ _ e=>e
 split at z
 ·cases r
  exact pyReprObj_none (fin _ s1.heap _ (Nat.succ_pos _) same (by decide) z _)
 ·rename_i b
  cases r
  exact pyReprObj_bool (fin _ s1.heap _ (Nat.succ_pos _) same (by cases b <;> decide) z _)
 ·rename_i i
  obtain ⟨t,rfl⟩:=r
  obtain ⟨hi,z⟩:=z
  refine pyReprObj_int (by rcases hi with rfl | rfl <;> decide) (fin _ s1.heap _ (Nat.succ_pos _) same ?_ z _)
  rcases hi with rfl | rfl <;> decide
 ·rename_i y
  obtain ⟨t,rfl⟩:=r
  obtain ⟨h1,h2,z⟩:=z
  have hl:=PySem.StrLaws.reprText_len y h1
  exact wpAny_pyReprObj_str (fin _ s1.heap _ (Nat.succ_pos _) same (by omega) z _) (Nat.le_trans (by omega:(reprText y).length <= 200000) (by decide))
 ·rename_i p
  cases r
  obtain ⟨ls,hf,hp,z⟩:=z
  have hb:=few_repr hf
  have hmul:(1002 + 2) * (ls.map fun l=>reprText (st l)).length + 3 <= 200000:=by
   rw [List.length_map]
   have:=hf.1
   omega
  rcases hp with hp | hp
  ·obtain ⟨_,its,n,rv,ho⟩:=I1.hok p _ hp
   obtain ⟨_,hlen,hat⟩:=vals_txt rv
   have hsz:(listText (ls.map fun l=>reprText (st l))).length <= 200000:=by have:=listText_le hb; omega
   cases its with
   | nil=>
    have e:ls = []:=by cases ls with | nil=>rfl | cons _ _=>simp at hlen
    exact wpAny_pyReprObj_list_empty (s:=s1) ⟨_,ho,rfl⟩ hu ho rfl (fin _ s1.heap _ (Nat.succ_pos _) same (by decide) z _)
   | cons v vs=>
    refine tokQ I1.tk (wpAny_pyReprObj_list (s:=s1) (ts:=ls.map fun l=>reprText (st l)) ⟨_,ho,rfl⟩ hgd (fun _ _ _ hm=>by cases hm) hu ho rfl (by simp only [List.length_map,List.size_toArray]; exact hlen.symm) (fun i y hy=>?_) (fun h' u tk kp (htk:0 < tk)=>fin _ h' tk htk kp hsz z u) (Nat.le_trans hsz (by decide)))
    rw [List.getElem?_toArray] at hy
    obtain ⟨l,t,hl,rfl⟩:=hat i y hy
    have hlb:=hb _ (List.mem_map.mpr ⟨l,List.mem_of_getElem? hl,rfl⟩)
    exact ⟨reprText (st l),by rw [List.getElem?_map,hl]; rfl,ReprIs.str (st l) t (Nat.le_trans hlb (by decide))⟩
  ·obtain ⟨_,its,rv,o,ho,hoc,n,hod⟩:=I1.hok p _ hp
   obtain ⟨_,hlen,hat⟩:=vals_txt rv
   have hsz:(tupleText (ls.map fun l=>reprText (st l))).length <= 200000:=by have:=tupleText_le hb; omega
   have all:∀ (ls:List (List Nat)) (us:List Value),us.length = ls.length -> (∀ (i:Nat) u,us[i]? = some u -> ∃ l t,ls[i]? = some l /\ u = Value.str (st l) t) -> (∀ l ∈ ls,(reprText (st l)).length <= 1002) -> ReprAll X.prog X.w us (ls.map fun l=>reprText (st l)):=by
    intro ls
    induction ls with
    | nil=>intro us h1 _ _; cases us with | nil=>exact .nil | cons _ _=>simp at h1
    | cons l ls ih=>
     intro us h1 h2 h3
     cases us with
     | nil=>simp at h1
     | cons u us=>
      obtain ⟨l',t,e1,rfl⟩:=h2 0 u rfl
      cases e1
      exact .cons (ReprIs.str (st l) t (Nat.le_trans (h3 l List.mem_cons_self) (by decide))) (ih us (by simpa using h1) (fun i u hu=>h2 (i + 1) u (by simpa using hu)) fun x hx=>h3 x (List.mem_cons_of_mem _ hx))
   refine tokQ I1.tk (wpAny_pyReprObj_tuple (s:=s1) (ts:=ls.map fun l=>reprText (st l)) ⟨_,ho,hoc⟩ hgd (fun _ hm=>by cases hm) hu ho hod (all ls its hlen hat fun l hl=>hb _ (List.mem_map.mpr ⟨l,hl,rfl⟩)) (fun u tk (htk:0 < tk)=>fin _ s1.heap tk htk same hsz z u) (Nat.le_trans hsz (by decide)))
 ·exact z.elim
end
section
variable {X:Cx}
variable {o e f:Expr} {to te tf:TE} {apos cpos:Pos}
theorem a_cFmtA {tv:TE} {σ:St} {H:Hp} {Q:VK}:cFmtA tv σ H Q = tv σ H fun x H1=>match x with
 | .non=>∀ z:Str,z.length <= 200000 -> Q (.str z) H1
 | .bl _=>∀ z:Str,z.length <= 200000 -> Q (.str z) H1
 | .int i=>(i = 0 \/ i = 10) /\ ∀ z:Str,z.length <= 200000 -> Q (.str z) H1
 | .str y=>(∀ c ∈ y.cps.toList,c < 16 ^ 8) /\ y.length <= 10000 /\ ∀ z:Str,z.length <= 200000 -> Q (.str z) H1
 | .ref p=>∃ ls,Few ls /\ (H1 p = some (.lst (ls.map fun l=>V.str (st l))) \/ H1 p = some (.tup (ls.map fun l=>V.str (st l)))) /\ ∀ z:Str,z.length <= 200000 -> Q (.str z) H1
 | _=>False:=rfl
end
section
variable {X:Cx} {e:Expr} {te:TE} {apos cpos:Pos}
end
section
variable {X:Cx}
end
section
variable {X:Cx} {pins:List (Addr × Obj)} {σ:St} {H:Hp} {s:Shared} {a:Addr} {y v:V} {u r:Value} {A:Around} {E:Value -> Shared -> Prop}
end
section
variable {X:Cx} {o e f:Expr} {apos cpos:Pos} {td ty tx:TE}
theorem Inv.frozen {pins:List (Addr × Obj)} {σ:St} {H:Hp} {s:Shared} {a:Addr} {kvs:List (Key × V)} (I:Inv X pins σ H s) (e:H a = some (.dK kvs)):∃ ob,Inv X pins σ (upd H a (.frz ob (.dK kvs))) s:=by
 obtain ⟨z,hd,vs,rel,dd⟩:=dk_of I.hok e
 obtain ⟨ob,es,ep,hq,r⟩:=id dd
 refine ⟨ob,?_⟩
 exact d_write (h':=s.heap) (t':=s.toks) I (by rw [e]; exact True.intro) ⟨rfl,fun _ _=>rfl⟩ ⟨ob,hq⟩ ⟨hq,dk_new z hd rel dd⟩
end
section
variable {X:Cx} {o:Expr} {to:TE} {apos cpos:Pos}
end
section
variable {X:Cx}
end
section
variable {K:Frag} {g:TG} {tc:TT} {te:TE} {σc:St} {D:Addr} {Q:VK} {H:Hp} {td ty:TE}
end
section
variable {K:Frag} {J:It} {g:TG} {tc:TT} {te:TE} {σc:St} {D:Addr} {Q:VK} {H:Hp}
theorem comp_gen {α:Type} (xs:List α) (keep:α -> Bool) (R:α -> V -> Hp -> Prop) (hfree:H D = none) (hn:xs.length <= 100000) (hgo:∀ i H1,i < xs.length -> Same H H1 -> J.go i H1) (hst:∀ H1,Same H H1 -> J.stop xs.length H1)
  (hy:∀ i H1 v H2,i < xs.length -> J.yld i H1 v H2 -> Same H1 H2)
  (mono:∀ x v H1 H2 acc,H1 D = some (.lst acc) -> (∀ b o,b ≠ D -> H1 b = some o -> H2 b = some o) -> R x v H1 -> R x v H2)
  (hs:∀ i x v H1 H2 (out:VK) (non:Hp -> Prop),xs[i]? = some x -> Same H H1 -> J.yld i H1 v H2 -> (∀ v H6,keep x = true -> Same H2 H6 -> R x v H6 -> out v H6) -> (∀ H5,keep x = false -> Same H2 H5 -> non H5) ->
   g v σc H2 fun σ4 H4=>tc σ4 H4 fun b H5=>if b = true then te σ4 H5 out else non H5)
  (hq:∀ H' vs,Same H H' -> H' D = some (.lst vs) -> Paired (fun x v=>R x v H') (xs.filter keep) vs -> Q (.ref D) H'):compW J g tc te σc D Q H:=by
 refine ⟨fun i m acc H2=>m = xs.length - i /\ i <= xs.length /\ Paired (fun x v=>R x v H2) ((xs.take i).filter keep) acc /\ Same H H2 /\ H2 D = some (.lst acc),⟨xs.length,by simp,Nat.zero_le _,.nil,same_new hfree _,upd_same⟩,?_⟩
 rintro i m acc H2 ⟨rfl,hi,pr,sm,hD⟩
 have len:acc.length <= i:=by
  have a:=pr.length
  have b:=List.length_filter_le keep (xs.take i)
  rw [List.length_take] at b
  omega
 by_cases hlt:i < xs.length
 ·refine .inr ⟨hgo i H2 hlt sm,fun x H3 y=>?_⟩
  have s3:=hy i H2 x H3 hlt y
  have ht:xs.take (i + 1) = xs.take i ++ [xs[i]]:=by rw [List.take_add_one,List.getElem?_eq_getElem hlt]; rfl
  have hD3:=s3 _ _ hD
  refine hs i xs[i] x _ _ _ _ (List.getElem?_eq_getElem hlt) sm y (fun v H6 k s6 r=>?_) fun H5 k s5=>?_
  ·refine ⟨s6 _ _ hD3,Nat.lt_of_le_of_lt len (sizeBig (by omega)),xs.length - (i + 1),by omega,rfl,hlt,?_,?_,upd_same⟩
   ·have m1:∀ x v,R x v H6 -> R x v (upd H6 D (.lst (acc ++ [v]))):=fun x v r=>mono x v H6 _ acc (s6 _ _ hD3) (fun b o nb q=>by rw [upd_ne nb]; exact q) r
    rw [ht,List.filter_append]
    have f1:[xs[i]].filter keep = [xs[i]]:=by simp [k]
    rw [f1]
    have lift:∀ {l:List α} {vs:List V},Paired (fun x v=>R x v H2) l vs -> Paired (fun x v'=>R x v' (upd H6 D (.lst (acc ++ [v])))) l vs:=by
     intro l vs pp
     induction pp with
     | nil=>exact .nil
     | cons r _ ih=>exact .cons (mono _ _ H2 _ acc hD (fun b o nb q=>by rw [upd_ne nb]; exact s6 _ _ (s3 _ _ q)) r) ih
    have app:∀ {l:List α} {vs:List V} {x:α} {v':V} {F:α -> V -> Prop},Paired F l vs -> F x v' -> Paired F (l ++ [x]) (vs ++ [v']):=by
     intro l vs x v' F pp r
     induction pp with
     | nil=>exact .cons r .nil
     | cons r' _ ih=>exact .cons r' ih
    exact app (lift pr) (m1 _ _ r)
   ·exact same_upd (sm.trans (s3.trans s6)) hfree
  ·refine ⟨xs.length - (i + 1),by omega,rfl,hlt,?_,sm.trans (s3.trans s5),s5 _ _ hD3⟩
   rw [ht,List.filter_append]
   have f1:[xs[i]].filter keep = []:=by simp [k]
   rw [f1,List.append_nil]
   have lift:∀ {l:List α} {vs:List V},Paired (fun x v=>R x v H2) l vs -> Paired (fun x v'=>R x v' H5) l vs:=by
    intro l vs pp
    induction pp with
    | nil=>exact .nil
    | cons r _ ih=>exact .cons (mono _ _ H2 _ acc hD (fun b o _ q=>s5 _ _ (s3 _ _ q)) r) ih
   exact lift pr
 ·have e:i = xs.length:=by omega
  subst e
  rw [List.take_length] at pr
  exact .inl ⟨hst H2 sm,hq H2 acc sm hD pr⟩
end
section
variable {X:Cx} {e:Expr} {te:TE} {pos:Pos}
end
section
variable {X:Cx} {o e:Expr} {to te:TE} {apos cpos:Pos}
noncomputable def cPopAt (to te:TE):TE:=fun σ H Q=>to σ H fun x H1=>match x with
 | .ref l=>(∃ xs,H1 l = some (.lst xs)) /\ te σ H1 fun y H2=>match y with
  | .int i=>∃ (xs:List V) (k:Nat) (v:V),i = (k:Int) /\ H2 l = some (.lst xs) /\ xs.length <= 100000 /\ xs[k]? = some v /\ Q v (upd H2 l (.lst (xs.eraseIdx k)))
  | _=>False
 | _=>False
theorem qe_popAt (ho:PE X o to) (he:PE X e te) (hbase:attributeBase o "pop" X.env (eval o X.env) = eval o X.env:=by rfl)
  (hfew:((backTo cpos (starEach [e] X.env)).all (fun x=>!x.1) && (backToKw cpos (keywordEach [] X.env)).all (fun x=>x.1.isSome) && decide ([e].length + ([]:List Keyword).length + (if ([]:List Keyword).isEmpty then 0 else 1) < 30)) = true:=by rfl)
  (hline:(apos.endLine == cpos.line) = true:=by rfl) (hs:starEach [e] X.env = (false,eval e X.env) :: starEach [] X.env:=by rfl) (hplain:(backTo cpos (starEach [] X.env)).any (·.1) = false:=by rfl):
  PE X (.Call (.Attribute o "pop" apos) [e] [] cpos) (cPopAt to te):=
 (pe_bm PySem.F.plainAttrs_list PySem.F.slot_list_pop PySem.F.type_list_pop mt_popAt ho.mono (pa_cons he.mono pa_nil hs) hbase hfew hline hs hplain).imp fun σ H Q q=>⟨_,q,fun x H1 z=>by
  split at z
  ·rename_i l
   obtain ⟨⟨xs,h⟩,z⟩:=z
   refine ⟨.inl ⟨rfl,_,SqL.of h⟩,_,z,fun y H2 z2=>?_⟩
   split at z2
   ·obtain ⟨xs2,k,v,rfl,h2,h3,h4,z3⟩:=z2
    have hk:k < xs2.length:=(List.getElem?_eq_some_iff.mp h4).1
    exact ⟨l,xs2,k,k,v,rfl,rfl,h2,by omega,by omega,by unfold seqIndex?; simp; omega,h4,z3⟩
   ·exact z2.elim
  ·exact z.elim⟩
theorem a_cPopAt {σ:St} {H:Hp} {Q:VK}:cPopAt to te σ H Q = to σ H fun x H1=>match x with
 | .ref l=>(∃ xs,H1 l = some (.lst xs)) /\ te σ H1 fun y H2=>match y with
  | .int i=>∃ (xs:List V) (k:Nat) (v:V),i = (k:Int) /\ H2 l = some (.lst xs) /\ xs.length <= 100000 /\ xs[k]? = some v /\ Q v (upd H2 l (.lst (xs.eraseIdx k)))
  | _=>False
 | _=>False:=rfl
end
end L2
namespace L2
open PySem PySem.Spec PyProof.Rows PySem.W
def Xt (K:Frag) (mg:Str -> Option Value) (x:Str):Prop:=mg x = some (.ref (xA K x)) /\ typeIn K (.ref (xA K x)) = some (.type "type") /\ mroIn K (xA K x) (.type "BaseException") = some true
theorem Xn.t {K:Frag} {mg:Str -> Option Value} {x:Str} (n:Xn K mg x):Xt K mg x:=⟨n.1,n.2.ty,n.2.mb⟩
end L2
namespace L2
open PySem PySem.Spec PyProof.Rows
section
variable {prog:Program} {w:World} {A:Around} {s:Shared} {E:Value -> Shared -> Prop}
end
theorem ObjOk.there {P:Program} {w:World} {H:Hp} {h:Heap} {a:Addr} {o:HO} (x:ObjOk P w H h a o):∃ ob,h.get? a = some ob:=by
 induction o with
 | lst xs=>obtain ⟨_,_,_,_,e⟩:=x; exact ⟨_,e⟩
 | tup xs=>obtain ⟨_,_,_,_,e,_⟩:=x; exact ⟨_,e⟩
 | dK kvs=>obtain ⟨_,_,_,_,_,_,_,e,_⟩:=x; exact ⟨_,e⟩
 | dT kvs=>obtain ⟨_,_,_,_,_,_,_,e,_⟩:=x; exact ⟨_,e⟩
 | set S n=>obtain ⟨_,_,_,_,e,_⟩:=x; exact ⟨_,e⟩
 | ins C dx fs=>obtain ⟨_,_,_,e,_⟩:=x; exact ⟨_,e⟩
 | own y=>exact x
 | xd fs=>obtain ⟨_,⟨_,_,_,e,_⟩,_⟩:=x; exact ⟨_,e⟩
 | rng lo hi=>obtain ⟨_,_,_,e⟩:=x; exact ⟨_,e⟩
 | frz ob u ih=>obtain ⟨e,_⟩:=x; exact ⟨_,e⟩
 | tbl ps=>exact ⟨_,x⟩
 | met f y=>exact ⟨_,x⟩
 | ext φ=>obtain ⟨_,e,_⟩:=x; exact e
section
variable {X:Cx} {pins:List (Addr × Obj)} {σ:St} {H:Hp} {s:Shared}
end
theorem paired_memr {α β:Type} {R:α -> β -> Prop}:∀ {l:List α} {m:List β},Paired R l m -> ∀ b ∈ m,∃ a ∈ l,R a b
 | _,_,.nil,b,h=>absurd h List.not_mem_nil
 | _,_,.cons q r,b,h=>by
  rcases List.mem_cons.mp h with e | h
  ·rw [e]; exact ⟨_,List.mem_cons_self ..,q⟩
  ·obtain ⟨a,h1,h2⟩:=paired_memr r b h
   exact ⟨a,List.mem_cons_of_mem _ h1,h2⟩
theorem paired_zip {key:V -> Nat}:∀ {xs:List V} {vs:List Value},Vals xs vs -> Paired (fun (p:Int × Value) x=>p.1 = key x /\ RelV x p.2) ((xs.map fun x=>(key x:Int)).zip vs) xs
 | _,_,.nil=>.nil
 | _,_,.cons a r=>.cons ⟨rfl,a⟩ (paired_zip r)
structure LamAt (K:Frag) (mg:Str -> Option Value) (c P:Addr):Prop where
 code:∃ od vs sl file tf flags tg inF text tt,K.lookup c = some ⟨.type "code",od,.fields vs,sl⟩ /\ vs[11]? = some (.ref P) /\ vs.getD 11 .none = .ref P /\ vs.getD 18 .none = .str file tf /\
  vs.getD 7 .none = .int flags tg /\ vs.getD 9 .none = .bool inF /\ vs.getD 10 .none = .int text tt
 ne:c ≠ P
 bm:∃ b sl,mg "__builtins__" = some (.ref b) /\ b ≠ builtinsNs /\ b ≠ mainGlobals /\ K.lookup b = some ⟨.type "module",some builtinsNs,.plain,sl⟩
theorem LamAt.hd {K:Frag} {mg:Str -> Option Value} {c P:Addr} {h:Heap} (L:LamAt K mg c P) (X:K.In h):PySem.W.CodeHd h c P:=by
 obtain ⟨od,vs,sl,file,tf,flags,tg,inF,text,tt,e1,e2,e3,e4,e5,e6,e7⟩:=L.code
 exact ⟨_,vs,file,tf,flags,tg,inF,text,tt,X _ _ e1,rfl,rfl,e2,e3,e4,e5,e6,e7,L.ne⟩
section
variable {X:Cx}
end
noncomputable def isTab (o:Obj):Bool:=match o.cls,o.data with
 | .none,.fields vs=>vs.isEmpty
 | _,_=>false
noncomputable def cut (K:Frag):Frag:=K.filter fun p=>!isTab p.2
theorem cut_lookup:∀ {K:Frag} {a:Addr} {o:Obj},K.lookup a = some o -> isTab o = false -> (cut K).lookup a = some o
 | [],_,_,e,_=>by cases e
 | (b,x) :: K,a,o,e,h=>by
  unfold cut
  rw [List.lookup_cons] at e
  rw [List.filter_cons]
  cases hb:a == b with
  | true=>
   rw [hb] at e
   cases e
   rw [if_pos (by simp [h]),List.lookup_cons,hb]
  | false=>
   rw [hb] at e
   have:=cut_lookup e h
   by_cases hx:(!isTab x) = true
   ·rw [if_pos hx,List.lookup_cons,hb]; exact this
   ·rw [if_neg hx]; exact this
theorem cut_ns {K:Frag} {n:Addr} {x:Str} {r:Option Value} (h:nsIn K n x = some r):nsIn (cut K) n x = some r:=by
 unfold nsIn at h ⊢
 cases q:K.lookup n with
 | none=>rw [q] at h; cases h
 | some o=>
  rw [q] at h
  obtain ⟨cl,od,da,sl⟩:=o
  cases da with
  | dict es ep=>rw [cut_lookup q (by unfold isTab; cases cl <;> rfl)]; exact h
  | _=>cases h
theorem cut_tab {K:Frag} {x:Str} {c P:Addr} (h:PySem.W.tabIn K x = some (c,P)):PySem.W.tabIn (cut K) x = some (c,P):=by
 unfold PySem.W.tabIn at h ⊢
 split at h
 ·rename_i f hf
  simp only [cut_ns hf]
  split at h
  ·rename_i hfo
   simp only [cut_lookup hfo (by unfold isTab; split <;> first | rfl | (rename_i q; cases q))]
   split at h
   ·rename_i c₂ hc
    split at h
    ·rename_i vs _ hco
     split at h
     ·rename_i P₂ hv
      have hn:∀ cl od sl,isTab ⟨cl,od,.fields vs,sl⟩ = false:=fun cl od sl=>by
       unfold isTab
       cases cl <;> try rfl
       show vs.isEmpty = false
       cases z:vs.isEmpty with
       | false=>rfl
       | true=>
        have z:vs = #[]:=by simpa using z
        rw [z] at hv
        cases hv
      simp only [cut_lookup hco (hn _ _ _),hv]
      exact h
     ·cases h
    ·cases h
   ·cases h
  ·cases h
 ·cases h
structure LamFn (K:Frag) (mg:Str -> Option Value) (x:Str) (c P:Addr):Prop where
 tb:PySem.W.tabIn K x = some (c,P)
 cd:∀ f fd oc od sl,mg x = some (.ref f) -> K.lookup f = some ⟨oc,od,.func fd,sl⟩ -> fd.code = .ref c
 lam:LamAt K mg c P
theorem lamfn_mk {K:Frag} {h:Heap} {mg:Str -> Option Value} {x:Str} {c P b:Addr} {od:Option Addr} {vs:Array Value} {sl sl2:Array (Option Value)} {file:Str} {tf tg tt:Tok} {flags text:Int} {inF:Bool} (X:K.In h) (G:h.Ns mainGlobals mg)
  (tb:PySem.W.tabIn K x = some (c,P)) (e1:K.lookup c = some ⟨.type "code",od,.fields vs,sl⟩) (e2:vs[11]? = some (.ref P)) (e4:vs.getD 18 .none = .str file tf) (e5:vs.getD 7 .none = .int flags tg) (e6:vs.getD 9 .none = .bool inF) (e7:vs.getD 10 .none = .int text tt) (ne:c ≠ P)
  (b1:nsIn K mainGlobals "__builtins__" = some (some (.ref b))) (b2:b ≠ builtinsNs) (b3:b ≠ mainGlobals) (b4:K.lookup b = some ⟨.type "module",some builtinsNs,.plain,sl2⟩):LamFn K mg x c P where
 tb:=tb
 cd:=fun f fd oc od sl hm ho=>PySem.W.law_code X G tb hm (X _ _ ho) rfl
 lam:=⟨⟨od,vs,sl,file,tf,flags,tg,inF,text,tt,e1,e2,by
   have:vs.getD 11 .none = (vs[11]?).getD .none:=by simp [Array.getD_eq_getD_getElem?]
   rw [this,e2]; rfl,e4,e5,e6,e7⟩,ne,b,sl2,mg_of X G b1,b2,b3,b4⟩
section
variable {X:Cx}
end
structure LamOk (K:Frag) (x:Str) (c T:Addr):Prop where
 tb:PySem.W.tabIn K x = some (c,T)
 code:∃ od vs sl file tf flags tg inF text tt,K.lookup c = some ⟨.type "code",od,.fields vs,sl⟩ /\ vs[11]? = some (.ref T) /\ vs.getD 18 .none = .str file tf /\ vs.getD 7 .none = .int flags tg /\ vs.getD 9 .none = .bool inF /\ vs.getD 10 .none = .int text tt
 ne:c ≠ T
 bm:∃ b sl,nsIn K mainGlobals "__builtins__" = some (some (.ref b)) /\ b ≠ builtinsNs /\ b ≠ mainGlobals /\ K.lookup b = some ⟨.type "module",some builtinsNs,.plain,sl⟩
 tab:K.lookup T = some (PySem.W.tabObj #[])
theorem not_tab {o:Obj} (h:o.cls ≠ .none):isTab o = false:=by
 unfold isTab
 split
 ·rename_i a b; exact absurd a h
 ·rfl
theorem LamOk.fn {K:Frag} {x:Str} {c T:Addr} {h:Heap} {mg:Str -> Option Value} (L:LamOk K x c T) (X:(cut K).In h) (G:h.Ns mainGlobals mg):LamFn (cut K) mg x c T:=by
 obtain ⟨od,vs,sl,file,tf,flags,tg,inF,text,tt,e1,e2,e4,e5,e6,e7⟩:=L.code
 obtain ⟨b,sl2,b1,b2,b3,b4⟩:=L.bm
 exact lamfn_mk X G (cut_tab L.tb) (cut_lookup e1 (not_tab (by nofun))) e2 e4 e5 e6 e7 L.ne (cut_ns b1) b2 b3 (cut_lookup b4 (not_tab (by nofun)))
noncomputable def tupEq (H:Hp) (zs:List V) (y:V):Bool:=match y with
 | .ref t=>match H t with
  | some (.tup ys)=>eqDs (ys.map D.f) (zs.map D.f)
  | _=>false
 | _=>false
noncomputable def tupEqU (H:Hp) (zs:List V) (u:Value):Bool:=match u with
 | .ref t=>tupEq H zs (.ref t)
 | _=>false
def FlatT (H:Hp) (y:V):Prop:=∃ t ys,y = .ref t /\ H t = some (.tup ys) /\ ys.all flatV = true
theorem deep_flats {K:Frag} {H:Hp}:∀ {ys:List V},ys.all flatV = true -> Paired (Deep K H 0) ys (ys.map D.f)
 | [],_=>.nil
 | y :: ys,h=>by
  rw [List.all_cons,Bool.and_eq_true] at h
  exact .cons ⟨rfl,h.1⟩ (deep_flats h.2)
theorem any_tupEqU {H:Hp} {zs:List V}:∀ {xs:List V} {us:List Value},Vals xs us -> (∀ y ∈ xs,FlatT H y) -> us.any (tupEqU H zs) = xs.any (tupEq H zs)
 | _,_,.nil,_=>rfl
 | y :: xs,u :: us,.cons r t,f=>by
  obtain ⟨a,ys,rfl,_⟩:=f _ List.mem_cons_self
  cases r
  rw [List.any_cons,List.any_cons,any_tupEqU t fun z hz=>f z (List.mem_cons_of_mem _ hz)]
  rfl
section
variable {X:Cx}
noncomputable def kInT (K:Frag):R2:=fun x y H Q=>match x,y with
 | .ref r,.ref p=>∃ zs xs,SqL K H p xs /\ H r = some (.tup zs) /\ zs.all flatV = true /\ (∀ y ∈ xs,FlatT H y) /\ Q (.bl (xs.any (tupEq H zs))) H
 | _,_=>False
theorem op_inT (K:Frag) (hK:X.K = K) {k:Nat} (hr:Room k X.A):OpR X (compareOp .In) (kInT K):=by
 subst hK
 intro pins s σ H x y v u Q I rx ry q
 unfold kInT at q
 split at q
 ·rename_i r p
  obtain ⟨zs,xs,hq,hz,fz,fs,q⟩:=q
  cases rx
  cases ry
  obtain ⟨its,rv,pl,_⟩:=I.list hq
  refine SeqAt.in_listAt (tupEqU H zs) pl.isList (fun w hw=>?_) ⟨.bl _,H,I,rfl,?_⟩
  ·have hw:w ∈ its:=by simpa using hw
   obtain ⟨y,hy,ry⟩:=paired_memr rv w hw
   obtain ⟨t,ys,rfl,ht,fy⟩:=fs y hy
   cases ry
   have:=deep_eqAt I 1 X.A.in1 (.ref t) (.ref r) (.t (ys.map D.f)) (.t (zs.map D.f)) (.ref t) (.ref r) (by have:=hr.un; show X.A.units + 1 + 1 < _; omega) (.inr (.inr ⟨t,ys,_,rfl,rfl,SqT.of ht,deep_flats fy⟩)) (.inr (.inr ⟨r,zs,_,rfl,rfl,SqT.of hz,deep_flats fz⟩)) rfl rfl
   have e:tupEqU H zs (.ref t) = eqD (.t (ys.map D.f)) (.t (zs.map D.f)):=by
    show tupEq H zs (.ref t) = _
    unfold tupEq
    simp only [ht]
    rw [eqD]
   rw [e]
   exact this
  ·rw [show its.toArray.any (tupEqU H zs) = its.any (tupEqU H zs) by simp,any_tupEqU rv fs]
   exact q
 ·exact q.elim
theorem a_kInT {K:Frag} {r p:Addr} {H:Hp} {Q:VK}:kInT K (.ref r) (.ref p) H Q = ∃ zs xs,SqL K H p xs /\ H r = some (.tup zs) /\ zs.all flatV = true /\ (∀ y ∈ xs,FlatT H y) /\ Q (.bl (xs.any (tupEq H zs))) H:=rfl
end
structure ClsT (K:Frag) (mg:Str -> Option Value) (x:Str):Prop where
 m:mg x = some (.ref (xA K x))
 c:Cls K (xA K x)
def MethT (K:Frag) (x m qual:Str) (st:Stmt):Prop:=∃ f fd,Meth K (xA K x) m f /\ Fun K m qual st f fd
def MkT (K:Frag) (x qual:Str) (st:Stmt):Prop:=∃ f fd,Mk K (xA K x) f /\ Fun K "__init__" qual st f fd
def MCal (P:Program) (w:World) (K:Frag) (mg:Str -> Option Value) (base:Heap) (k:Nat) (x m:Str) (ps:List Str) (sp:Sp):Prop:=
 ∃ f fd,FnOk P w K mg base CX0 k f fd ps sp /\ Binds K fd ps [] /\ Meth K (xA K x) m f
def KCal (P:Program) (w:World) (K:Frag) (mg:Str -> Option Value) (base:Heap) (k:Nat) (x:Str) (ps:List Str) (sp:Sp):Prop:=
 ∃ f fd,FnOk P w K mg base CX0 k f fd ps sp /\ Binds K fd ps [] /\ Mk K (xA K x) f
theorem MethT.cal {P:Program} {w:World} {K:Frag} {mg:Str -> Option Value} {base:Heap} {x m qual:Str} {st:Stmt} {N ps:List Str} {k:Nat} {sp:Sp} (F:MethT K x m qual st) (S:FnScope N ps (defScope st)) (len:∀ vs H Q E,sp vs H Q E -> vs.length = ps.length)
  (hb:∀ (kV doc pm:Value) (an:Option Addr) (cdv ct:Value) (us:List Value),us.length = ps.length -> bindArgs (fnOf m qual (defArgs st) (defBody st) (defScope st) .none kV doc pm an cdv ct) ⟨us,[]⟩ = pure (ps.zip us))
  (hbody:∀ (f:Addr) (cdv:Value) (A:Around) (outer:List Env) (s:Shared) (H:Hp) (vs:List V) (Q:VK) (E:XK),Room k (A.deeper (envOfC qual (defScope st) s.heap.objs.size f cdv)) -> sp vs H Q E ->
   ∃ t,PSs (cxOf CX0 P w K mg base N qual (defScope st) f cdv A outer s H E).nox (defBody st) t /\ t { nx:=fun _ H'=>Q .non H',rt:=Q } (start N vs) H):MCal P w K mg base (k + 1) x m ps sp:=by
 obtain ⟨f,fd,M,F⟩:=F
 exact ⟨f,fd,F.ok S len (hbody f),F.binds hb,M⟩
theorem MkT.cal {P:Program} {w:World} {K:Frag} {mg:Str -> Option Value} {base:Heap} {x qual:Str} {st:Stmt} {N ps:List Str} {k:Nat} {sp:Sp} (F:MkT K x qual st) (S:FnScope N ps (defScope st)) (len:∀ vs H Q E,sp vs H Q E -> vs.length = ps.length)
  (hb:∀ (kV doc pm:Value) (an:Option Addr) (cdv ct:Value) (us:List Value),us.length = ps.length -> bindArgs (fnOf "__init__" qual (defArgs st) (defBody st) (defScope st) .none kV doc pm an cdv ct) ⟨us,[]⟩ = pure (ps.zip us))
  (hbody:∀ (f:Addr) (cdv:Value) (A:Around) (outer:List Env) (s:Shared) (H:Hp) (vs:List V) (Q:VK) (E:XK),Room k (A.deeper (envOfC qual (defScope st) s.heap.objs.size f cdv)) -> sp vs H Q E ->
   ∃ t,PSs (cxOf CX0 P w K mg base N qual (defScope st) f cdv A outer s H E).nox (defBody st) t /\ t { nx:=fun _ H'=>Q .non H',rt:=Q } (start N vs) H):KCal P w K mg base (k + 1) x ps sp:=by
 obtain ⟨f,fd,M,F⟩:=F
 exact ⟨f,fd,F.ok S len (hbody f),F.binds hb,M⟩
section
variable {X:Cx} {k:Nat} {x m:Str} {ps:List Str} {sp:Sp} {p pos apos:Pos} {e o:Expr} {es:List Expr} {ta:TE} {t:TA}
noncomputable def kTupL (K:Frag):List V -> Hp -> VK -> Prop:=fun xs H Q=>match xs with
 | [.ref p]=>∃ ys,SqL K H p ys /\ ∀ l,H l = none -> Q (.ref l) (upd H l (.tup ys))
 | _=>False
theorem call_tupL (K:Frag) (hK:X.K = K):CallR X (.type "tuple") (kTupL K):=by
 subst hK
 intro pins s σ H xs us Q I r q
 unfold kTupL at q
 split at q
 ·obtain ⟨ys,h,q⟩:=q
  exact call_tuple_of pins s σ H _ us Q I r ⟨_,ys,rfl,.inl ⟨h,q⟩⟩
 ·exact q.elim
theorem a_kTupL {K:Frag} {p:Addr} {H:Hp} {Q:VK}:kTupL K [.ref p] H Q = ∃ ys,SqL K H p ys /\ ∀ l,H l = none -> Q (.ref l) (upd H l (.tup ys)):=rfl
end
section
variable {X:Cx}
noncomputable def kMax2:List V -> Hp -> VK -> Prop:=fun xs H Q=>match xs with
 | [.int a,.int b]=>Q (.int (if a < b then b else a)) H
 | _=>False
noncomputable def kMin2:List V -> Hp -> VK -> Prop:=fun xs H Q=>match xs with
 | [.int a,.int b]=>Q (.int (if b < a then b else a)) H
 | _=>False
theorem call_max2K (hc:X.calm = true):CallR X (.builtin "max") kMax2:=by
 intro pins s σ H xs us Q I r q
 unfold kMax2 at q
 split at q
 ·exact call_max2 hc pins s σ H _ us Q I r ⟨_,_,rfl,q⟩
 ·exact q.elim
theorem call_min2K (hc:X.calm = true):CallR X (.builtin "min") kMin2:=by
 intro pins s σ H xs us Q I r q
 unfold kMin2 at q
 split at q
 ·exact call_min2 hc pins s σ H _ us Q I r ⟨_,_,rfl,q⟩
 ·exact q.elim
theorem a_kMax2 {a b:Int} {H:Hp} {Q:VK}:kMax2 [.int a,.int b] H Q = Q (.int (if a < b then b else a)) H:=rfl
theorem a_kMin2 {a b:Int} {H:Hp} {Q:VK}:kMin2 [.int a,.int b] H Q = Q (.int (if b < a then b else a)) H:=rfl
noncomputable def cListRng2 (te tf:TE):TE:=fun σ H Q=>te σ H fun x H1=>tf σ H1 fun y H2=>match x,y with
 | .int i,.int j=>-1000 <= i /\ i <= 1000 /\ -1000 <= j /\ j <= 100000 /\ ∀ p,H2 p = none -> Q (.ref p) (upd H2 p (.lst ((List.range (j - i).toNat).map fun (k:Nat)=>V.int (i + k))))
 | _,_=>False
theorem vals_range2 {acc:Array Value} {n:Nat} {a:Int} (h:ItemsOf (fun i v=>∃ t,v = Value.int (a + (i:Int) * 1) t) acc n):Vals ((List.range n).map fun (i:Nat)=>V.int (a + i)) acc.toList:=by
 obtain ⟨hs,hi⟩:=h
 have:∀ (l:List Value) (k:Nat),(∀ (j:Nat) (v:Value),l[j]? = some v -> ∃ t,v = Value.int (a + ((k + j:Nat):Int)) t) -> Vals ((List.range' k l.length).map fun (i:Nat)=>V.int (a + i)) l:=by
  intro l
  induction l with
  | nil=>intro k _; exact .nil
  | cons v l ih=>
   intro k hv
   rw [List.length_cons,List.range'_succ,List.map_cons]
   refine .cons ?_ (ih (k + 1) fun j u hu=>?_)
   ·obtain ⟨t,e⟩:=hv 0 v rfl
    exact ⟨t,by simpa using e⟩
   ·obtain ⟨t,e⟩:=hv (j + 1) u (by simpa using hu)
    exact ⟨t,by rw [e]; congr 3; omega⟩
 have:=this acc.toList 0 fun j v hv=>by
  obtain ⟨t,e⟩:=hi j v (by simpa using hv)
  exact ⟨t,by rw [e]; simp⟩
 rw [Array.length_toList,hs,<- List.range_eq_range'] at this
 exact this
theorem qe_listrng2 {e f:Expr} {te tf:TE} {p p2 pos pos2:Pos} (hc:X.calm = true) (hg:Gl X "list") (hm:X.mg "list" = none) (hg2:Gl X "range") (hm2:X.mg "range" = none) (he:PE X e te) (hf:PE X f tf)
  (hs:starEach [e,f] X.env = [(false,eval e X.env),(false,eval f X.env)]:=by rfl)
  (hs2:starEach [Expr.Call (.Name "range" p2) [e,f] [] pos2] X.env = [(false,eval (Expr.Call (.Name "range" p2) [e,f] [] pos2) X.env)]:=by rfl)
  (hs3:starEach [e,f] X.env = (false,eval e X.env) :: starEach [f] X.env:=by rfl) (hs4:(backTo pos2 (starEach [f] X.env)).any (·.1) = false:=by rfl):
  PE X (.Call (.Name "list" p) [.Call (.Name "range" p2) [e,f] [] pos2] [] pos) (cListRng2 te tf):=by
 intro pins s σ H Q I h
 refine wpAny_Call_Name_kw (ld_blt I hg hm bb_list ?_ (by decide) (by decide))
 refine PyProof.Rows.callWith_type1 ?_ hs2 rfl
 rw [hs2]
 show wpAny _ _ (spliced [(false,eval (Expr.Call (.Name "range" p2) [e,f] [] pos2) X.env)]) _ _ s
 refine Calls.spliced_cons ?_
 refine wpAny_Call_Name_kw (ld_blt I hg2 hm2 boot_range ?_ (by decide) (by decide))
 refine PyProof.Rows.callWith_type1 ?_ hs3 hs4
 rw [hs]
 show wpAny _ _ (spliced [(false,eval e X.env),(false,eval f X.env)]) _ _ s
 refine Calls.spliced_cons (thn (he pins s σ H _ I h) fun u s1 ⟨x,H1,I1,r1,q1⟩=>Calls.spliced_cons (thn (hf pins s1 σ H1 _ I1 q1) fun u2 s2 ⟨y,H2,I2,r2,q2⟩=>Calls.spliced_nil ?_))
 match x,y,r1,r2,q2 with
 | .int i,.int j,⟨t,ht⟩,⟨t2,ht2⟩,⟨a0,a1,a2,a3,a4⟩=>
  subst ht
  subst ht2
  refine call_range_2 (Calls.spliced_nil ?_)
  have I3:Inv X pins σ H2 { s2 with heap:=s2.heap.push { cls:=.type "range",data:=.fields #[.int i t,.int j t2,.int 1 s2.toks] },toks:=s2.toks + 1 }:=I2.kept fun b o q=>Heap.get?_push_of_some _ q
  have hsz:Builtin.Range.rangeSize i j 1 = (((j - i).toNat:Nat):Int):=by rw [rangeSize_one]; split <;> omega
  refine tokQ I3.tk (call_list_range (n:=(j - i).toNat) (I.ok.hd hc) (IsRange.new ..) (small_one (by omega) (by omega) (by omega) (by omega)) hsz (by omega) fun h' tk acc c' old ho hi (htk:0 < tk)=>?_)
  exact ⟨.ref _,_,I3.laid (o:=.lst ((List.range (j - i).toNat).map fun (k:Nat)=>V.int (i + k))) (t':=tk) old (Nat.le_refl _) ⟨by rw [List.length_map,List.length_range,sizeLine_eq]; omega,acc.toList,c',vals_range2 hi,by simpa using ho⟩,rfl,a4 _ (I3.hok.fresh (Nat.le_refl _))⟩
theorem a_cListRng2 {te tf:TE} {σ:St} {H:Hp} {Q:VK}:cListRng2 te tf σ H Q = te σ H fun x H1=>tf σ H1 fun y H2=>match x,y with
 | .int i,.int j=>-1000 <= i /\ i <= 1000 /\ -1000 <= j /\ j <= 100000 /\ ∀ p,H2 p = none -> Q (.ref p) (upd H2 p (.lst ((List.range (j - i).toNat).map fun (k:Nat)=>V.int (i + k))))
 | _,_=>False:=rfl
end
section
variable {X:Cx} {a b c:Expr} {ta tb tc:TE} {pos:Pos}
theorem a_tTest {te:TE} {σ:St} {H:Hp} {Q:Bool -> Hp -> Prop}:tTest te σ H Q = te σ H fun z H3=>∃ k,z = .bl k /\ Q k H3:=rfl
end
section
variable {K:Frag} {α:Type} {xs:List α} {item:α -> V} {h:α -> List V} {H:Hp} {D:Addr} {σc:St} {Q:VK}
end
end L2
namespace L2
open PySem
section
variable {K:Frag} {h:Heap} {mg:Str -> Option Value} {x m qual:Str} {C f:Addr} {fd:FuncData} {st:Stmt}
end
end L2
namespace L2
open PySem PySem.Spec PyProof.Rows
section
variable {X:Cx} {o e f:Expr} {to te tf:TE} {apos cpos:Pos}
noncomputable def insAt (xs:List V) (k:Nat) (y:V):List V:=xs.take k ++ y :: xs.drop k
noncomputable def rInsert:V -> List V -> Hp -> VK -> Prop:=fun x vs H Q=>∃ (l:Addr) (xs:List V) (i:Int) (k:Nat) (y:V),x = .ref l /\ vs = [.int i,y] /\ i = (k:Int) /\ H l = some (.lst xs) /\ k <= xs.length /\ xs.length < 100000 /\ Q .non (upd H l (.lst (insAt xs k y)))
theorem ins_arr (l:List Value) (k:Nat) (y:Value):(l.toArray.extract 0 k).push y ++ l.toArray.extract k = (l.take k ++ y :: l.drop k).toArray:=by
 apply Array.toList_inj.mp
 have:(l.drop k).take (l.length - k) = l.drop k:=List.take_of_length_le (by simp)
 simp [this]
theorem mt_insert:MtM X "list.insert" rInsert:=by
 intro pins s σ H x vs v us Q I rx rv h
 obtain ⟨l,xs,i,k,y,rfl,rfl,hi,hH,hk,hz,q⟩:=h
 cases rx
 obtain ⟨u,u2,rfl,ru,ru2⟩:=Vals.two rv
 obtain ⟨t,rfl⟩:=ru
 obtain ⟨z,its,n,r,hl,e⟩:=I.lstM hH
 have hb:=big5
 have h1:-(2 ^ 63) <= i:=by rw [hi]; exact Int.le_trans (by decide) (Int.natCast_nonneg k)
 have h2:i < 2 ^ 63:=by rw [hi]; exact Int.lt_of_le_of_lt (Int.ofNat_le.mpr (Nat.le_trans hk (Nat.le_of_lt hz))) (by decide)
 have h3:¬(!Builtin.List.listFitsIndex i) = true:=by rw [show Builtin.List.listFitsIndex i = true from fitsIndex_both h1 h2]; decide
 have h4:its.toArray.size <= sizeLine:=by rw [List.size_toArray]; omega
 refine call_meets F.slot_list_insert ⟨_,e,rfl⟩ F.entry_list_insert (F.args_list_insert_3 _ _ _) (AutoSeq1.list_insert_list_int_val_1 l its.toArray n i t u2 h3 h4) ⟨e,?_⟩
 refine ⟨.non,_,I.lset (its':=its.take k ++ u2 :: its.drop k) hH e ?_ ((r.take k).append (.cons ru2 (r.drop k))) ?_,rfl,q⟩
 ·show (its.toArray.extract 0 (if i < 0 then (i + (its.toArray.size:Int)).toNat else min i.toNat its.toArray.size)).push u2 ++ its.toArray.extract (if i < 0 then (i + (its.toArray.size:Int)).toNat else min i.toNat its.toArray.size) = _
  rw [if_neg (by omega),show min i.toNat its.toArray.size = k by rw [List.size_toArray]; omega,ins_arr]
 ·rw [List.length_append,List.length_cons,List.length_take,List.length_drop]
  omega
noncomputable def cInsert (to te tf:TE):TE:=fun σ H Q=>to σ H fun x H1=>match x with
 | .ref l=>(∃ xs,H1 l = some (.lst xs)) /\ te σ H1 fun y H2=>tf σ H2 fun z H3=>match y with
  | .int i=>∃ (xs:List V) (k:Nat),i = (k:Int) /\ H3 l = some (.lst xs) /\ k <= xs.length /\ xs.length < 100000 /\ Q .non (upd H3 l (.lst (insAt xs k z)))
  | _=>False
 | _=>False
theorem qe_insert (ho:PE X o to) (he:PE X e te) (hf:PE X f tf) (hbase:attributeBase o "insert" X.env (eval o X.env) = eval o X.env:=by rfl)
  (hfew:((backTo cpos (starEach [e,f] X.env)).all (fun x=>!x.1) && (backToKw cpos (keywordEach [] X.env)).all (fun x=>x.1.isSome) && decide ([e,f].length + ([]:List Keyword).length + (if ([]:List Keyword).isEmpty then 0 else 1) < 30)) = true:=by rfl)
  (hline:(apos.endLine == cpos.line) = true:=by rfl) (hs:starEach [e,f] X.env = (false,eval e X.env) :: starEach [f] X.env:=by rfl) (hs2:starEach [f] X.env = (false,eval f X.env) :: starEach [] X.env:=by rfl) (hplain:(backTo cpos (starEach [f] X.env)).any (·.1) = false:=by rfl):PE X (.Call (.Attribute o "insert" apos) [e,f] [] cpos) (cInsert to te tf):=
 (pe_bm PySem.F.plainAttrs_list PySem.F.slot_list_insert PySem.F.type_list_insert mt_insert ho.mono (pa_cons he.mono (pa_cons hf.mono pa_nil hs2) hs) hbase hfew hline hs hplain).imp fun σ H Q q=>⟨_,q,fun x H1 z=>by
  split at z
  ·rename_i l
   obtain ⟨⟨xs,h⟩,z⟩:=z
   refine ⟨.inl ⟨rfl,_,SqL.of h⟩,_,z,fun y H2 z2=>⟨_,z2,fun w H3 z3=>?_⟩⟩
   split at z3
   ·obtain ⟨xs2,k,rfl,h2,h3,h4,z4⟩:=z3
    exact ⟨l,xs2,_,k,w,rfl,rfl,rfl,h2,h3,h4,z4⟩
   ·exact z3.elim
  ·exact z.elim⟩
theorem a_cInsert {σ:St} {H:Hp} {Q:VK}:cInsert to te tf σ H Q = to σ H fun x H1=>match x with
 | .ref l=>(∃ xs,H1 l = some (.lst xs)) /\ te σ H1 fun y H2=>tf σ H2 fun z H3=>match y with
  | .int i=>∃ (xs:List V) (k:Nat),i = (k:Int) /\ H3 l = some (.lst xs) /\ k <= xs.length /\ xs.length < 100000 /\ Q .non (upd H3 l (.lst (insAt xs k z)))
  | _=>False
 | _=>False:=rfl
noncomputable def kAll (K:Frag):List V -> Hp -> VK -> Prop:=fun xs H Q=>match xs with
 | [.ref p]=>∃ bs:List Bool,SqL K H p (bs.map V.bl) /\ Q (.bl (bs.all id)) H
 | _=>False
theorem call_allK (K:Frag) (hK:X.K = K) (hc:X.calm = true):CallR X (.builtin "all") (kAll K):=by
 subst hK
 intro pins s σ H xs us Q I r q
 unfold kAll at q
 split at q
 ·rename_i p
  obtain ⟨bs,hq,q⟩:=q
  obtain ⟨u,rfl,ru⟩:=vals1 r
  cases ru
  obtain ⟨its,rv,pl,_⟩:=I.list hq
  obtain rfl:=vals_bools rv
  have hl:s.heap.IsList p (bs.map Value.bool).toArray:=pl.isList
  have hp:p < s.heap.objs.size:=by obtain ⟨o,ho,_⟩:=hl; exact Heap.lt_size ho
  refine tokQ I.tk (call_all_walk (wpAny_pyIter_list hl ?_))
  refine ⟨_,_,_,_,_,_,fun i=>(bs[i]?).getD true,rfl,Walks.list (A:=X.A.in1) (I.ok.hd hc) _ p (Nat.ne_of_lt hp) (bs.map Value.bool).toArray,⟨⟨_,Heap.get?_push_size _ rfl,rfl,rfl⟩,hl.push _⟩,?_,fun h' tk k (htk:0 < tk)=>?_⟩
  ·intro i v s' Q' E' hP hQ'
   have hi:bs[i]?.map Value.bool = some v:=by simpa using hP
   cases hb:bs[i]? with
   | none=>rw [hb] at hi; cases hi
   | some b=>
    have e:(fun i=>(bs[i]?).getD true) i = b:=by simp [hb]
    rw [e] at hQ'
    rw [hb] at hi
    cases hi
    exact wpAny_truthy_bool hQ'
  ·have e:((List.range (bs.map Value.bool).toArray.size).all fun i=>(bs[i]?).getD true) = bs.all id:=by
    simp only [List.size_toArray,List.length_map]
    rw [Bool.eq_iff_iff,List.all_eq_true,List.all_eq_true]
    constructor
    ·intro h b hb
     obtain ⟨i,hi,rfl⟩:=List.getElem_of_mem hb
     have:=h i (by simpa using hi)
     rw [List.getElem?_eq_getElem hi] at this
     exact this
    ·intro h i hi
     have hi:i < bs.length:=by simpa using hi
     rw [List.getElem?_eq_getElem hi]
     exact h _ (List.getElem_mem hi)
   rw [e]
   refine ⟨.bl _,H,I.kept (fun b o q=>k b o ?_ (Heap.get?_push_of_some _ q)),rfl,q⟩
   intro z
   have:=Heap.lt_size q
   rw [List.mem_singleton.mp z] at this
   exact Nat.lt_irrefl _ this
 ·exact q.elim
theorem a_kAll {K:Frag} {p:Addr} {H:Hp} {Q:VK}:kAll K [.ref p] H Q = ∃ bs:List Bool,SqL K H p (bs.map V.bl) /\ Q (.bl (bs.all id)) H:=rfl
noncomputable def kStr:List V -> Hp -> VK -> Prop:=fun xs H Q=>match xs with
 | [.int i]=>(i = 0 \/ i = 1) /\ Q (.str (st [48 + i.toNat])) H
 | _=>False
theorem call_strK:CallR X (.type "str") kStr:=by
 intro pins s σ H xs us Q I r q
 unfold kStr at q
 split at q
 ·rename_i i
  obtain ⟨hi,q⟩:=q
  obtain ⟨u,rfl,t,rfl⟩:=vals1 r
  refine P.str_of_int ?_ ⟨.str (st [48 + i.toNat]),H,I.tok _,⟨s.toks,?_⟩,q⟩
  ·rcases hi with rfl | rfl <;> decide
  ·rcases hi with rfl | rfl
   ·exact congrArg (Value.str · s.toks) (by decide +kernel)
   ·exact congrArg (Value.str · s.toks) (by decide +kernel)
 ·exact q.elim
theorem a_kStr {i:Int} {H:Hp} {Q:VK}:kStr [.int i] H Q = ((i = 0 \/ i = 1) /\ Q (.str (st [48 + i.toNat])) H):=rfl
end
section
variable {X:Cx} {e:Expr} {te:TE} {lo hi:Option Expr} {st:Expr} {tl th ts:TO} {p2 pos:Pos}
end
def Rise (xs:Array Nat):Prop:=∀ a b,a < b -> ∀ (hb:b < xs.size) (ha:a < xs.size),xs[a] < xs[b]
theorem below_go {xs:Array Nat} {j:Nat} (hr:Rise xs):∀ (fuel lo hi:Nat),hi - lo <= fuel -> lo <= hi -> hi <= xs.size -> (∀ i (h:i < xs.size),i < lo -> xs[i] < j) -> (∀ i (h:i < xs.size),hi <= i -> j <= xs[i]) ->
  SetTable.below.go xs j fuel lo hi <= xs.size /\ (∀ i (h:i < xs.size),i < SetTable.below.go xs j fuel lo hi -> xs[i] < j) /\ (∀ i (h:i < xs.size),SetTable.below.go xs j fuel lo hi <= i -> j <= xs[i])
 | 0,lo,hi,hf,h1,h2,h3,h4=>by
  have:lo = hi:=by omega
  subst this
  unfold SetTable.below.go
  exact ⟨h2,h3,h4⟩
 | fuel + 1,lo,hi,hf,h1,h2,h3,h4=>by
  unfold SetTable.below.go
  by_cases hlt:lo < hi
  ·rw [if_pos hlt]
   have hm:(lo + hi) / 2 < xs.size:=by omega
   have hg:xs.getD ((lo + hi) / 2) j = xs[(lo + hi) / 2]:=by simp [hm]
   simp only [hg]
   by_cases hx:xs[(lo + hi) / 2] < j
   ·rw [if_pos hx]
    refine below_go hr fuel _ hi (by omega) (by omega) h2 (fun i h hi'=>?_) h4
    rcases Nat.lt_or_ge i ((lo + hi) / 2) with z | z
    ·exact Nat.lt_trans (hr i _ z hm h) hx
    ·obtain rfl:i = (lo + hi) / 2:=by omega
     exact hx
   ·rw [if_neg hx]
    refine below_go hr fuel lo _ (by omega) (by omega) (by omega) h3 (fun i h hi'=>?_)
    rcases Nat.lt_or_ge ((lo + hi) / 2) i with z | z
    ·have:=hr _ i z h hm
     omega
    ·obtain rfl:i = (lo + hi) / 2:=by omega
     omega
  ·rw [if_neg hlt]
   obtain rfl:lo = hi:=by omega
   exact ⟨h2,h3,h4⟩
theorem below_is {xs:Array Nat} (hr:Rise xs) (j:Nat):SetTable.below xs j <= xs.size /\ (∀ i (h:i < xs.size),i < SetTable.below xs j -> xs[i] < j) /\ (∀ i (h:i < xs.size),SetTable.below xs j <= i -> j <= xs[i]):=by
 unfold SetTable.below
 exact below_go hr xs.size 0 xs.size (by omega) (by omega) (Nat.le_refl _) (fun i _ h=>absurd h (by omega)) (fun i h z=>absurd h (by omega))
theorem below_at {xs:Array Nat} (hr:Rise xs) {i:Nat} (h:i < xs.size):SetTable.below xs (xs[i] + 1) = i + 1:=by
 obtain ⟨b0,b1,b2⟩:=below_is hr (xs[i] + 1)
 rcases Nat.lt_trichotomy (SetTable.below xs (xs[i] + 1)) (i + 1) with z | z | z
 ·have:=b2 i h (by omega)
  omega
 ·exact z
 ·have h1:i + 1 < xs.size:=by omega
  have:=b1 (i + 1) h1 z
  have:=hr i (i + 1) (by omega) h1 h
  omega
theorem below_zero {xs:Array Nat} (hr:Rise xs):SetTable.below xs 0 = 0:=by
 obtain ⟨b0,b1,b2⟩:=below_is hr 0
 rcases Nat.eq_zero_or_pos (SetTable.below xs 0) with z | z
 ·exact z
 ·exact absurd (b1 0 (by omega) z) (by omega)
theorem rise_list {xs:Array Nat}:Rise xs ↔ xs.toList.Pairwise (· < ·):=by
 rw [List.pairwise_iff_getElem]
 constructor
 ·intro h a b ha hb hab
  have:=h a b hab (by simpa using hb) (by simpa using ha)
  simpa using this
 ·intro h a b hab hb ha
  have:=h a b (by simpa using ha) (by simpa using hb) hab
  simpa using this
theorem rise_insert {xs:Array Nat} (hr:Rise xs) {j:Nat} (hj:¬ xs[SetTable.below xs j]? = some j):Rise (SetTable.insertAt xs (SetTable.below xs j) j):=by
 obtain ⟨b0,b1,b2⟩:=below_is hr j
 generalize SetTable.below xs j = p at *
 have hlt:∀ i (h:i < xs.size),p <= i -> j < xs[i]:=fun i h z=>by
  have h0:=b2 i h z
  rcases Nat.lt_or_ge j xs[i] with q | q
  ·exact q
  ·exfalso
   have e:xs[i] = j:=by omega
   rcases Nat.lt_or_ge p i with z2 | z2
   ·have hp:p < xs.size:=by omega
    have:=hr p i z2 h hp
    have:=b2 p hp (Nat.le_refl _)
    omega
   ·obtain rfl:i = p:=by omega
    exact hj (by rw [Array.getElem?_eq_getElem h,e])
 have hl:=rise_list.mp hr
 rw [rise_list,SetTable.toList_insertAt]
 have A:∀ a ∈ xs.toList.take p,a < j:=fun a ha=>by
  obtain ⟨i,hi,rfl⟩:=List.mem_take_iff_getElem.mp ha
  have:=b1 i (by simp at hi; omega) (by omega)
  simpa using this
 have B:∀ b ∈ xs.toList.drop p,j < b:=fun b hb=>by
  obtain ⟨i,hi,rfl⟩:=List.mem_drop_iff_getElem.mp hb
  have:=hlt (p + i) (by simp at hi; omega) (by omega)
  simpa using this
 have hl':=hl
 rw [<- List.take_append_drop p xs.toList,List.pairwise_append] at hl'
 refine List.pairwise_append.mpr ⟨hl'.1,List.pairwise_cons.mpr ⟨B,hl'.2.1⟩,fun a ha b hb=>?_⟩
 rcases List.mem_cons.mp hb with rfl | hb
 ·exact A a ha
 ·exact Nat.lt_trans (A a ha) (B b hb)
def Laid0 (t:SetTable):Prop:=Rise t.place /\ t.dummies = #[]
theorem has_nil (j:Nat):SetTable.has #[] j = false:=by
 unfold SetTable.has
 simp
theorem probe_free {t:SetTable} (h0:t.dummies = #[]) (f:Nat -> Int) (h:Int):∀ (n:Nat) (p:SetTable.Probe) (j:Nat) (d:Option Nat),p.dummy = none -> SetTable.probe.go t f h n p = some (.empty j d) -> d = none /\ ¬ t.place[SetTable.below t.place j]? = some j
 | 0,p,j,d,_,e=>by simp [SetTable.probe.go] at e
 | n + 1,p,j,d,hp,e=>by
  unfold SetTable.probe.go at e
  have hs:t.slot p.j = if t.place[SetTable.below t.place p.j]? == some p.j then .live (SetTable.below t.place p.j) else .empty:=by
   unfold SetTable.slot
   rw [h0,has_nil]
   rfl
  rw [hs] at e
  by_cases z:t.place[SetTable.below t.place p.j]? = some p.j
  ·rw [if_pos (by rw [z]; exact beq_self_eq_true _)] at e
   dsimp only at e
   split at e
   ·cases e
   ·refine probe_free h0 f h n _ j d ?_ e
    unfold SetTable.advance
    split
    ·exact hp
    ·exact hp
  ·rw [if_neg (by simpa using z)] at e
   dsimp only at e
   injection e with e
   injection e with e1 e2
   subst e1 e2
   exact ⟨hp,z⟩
theorem rise_range (n:Nat):Rise (Array.range n):=fun a b h hb ha=>by simpa using h
theorem laid0_standIn (t:SetTable) (n:Nat):Laid0 (t.standIn n):=⟨rise_range n,rfl⟩
theorem laid0_or {t:SetTable} (h:Laid0 t) (n:Nat):Laid0 (t.orStandIn n):=by
 unfold SetTable.orStandIn
 split
 ·exact h
 ·exact laid0_standIn t n
theorem laid0_new {t:SetTable} (L:Laid0 t) (es:Array (Int × Value)) (h:Int) (x:Value):Laid0 (layNew t es h x).2.1:=by
 unfold layNew
 split
 ·rename_i slot wd e
  refine laid0_or ?_ _
  unfold SetTable.freeSlot at e
  split at e
  ·rename_i j d e2
   obtain ⟨rfl,hj⟩:=probe_free L.2 _ h _ _ j d rfl e2
   cases e
   refine ⟨rise_insert L.1 hj,?_⟩
   show (if SetTable.has t.dummies _ then _ else t.dummies) = #[]
   rw [L.2,has_nil]
   rfl
  ·cases e
 ·exact laid0_standIn t _
theorem laid0_laid {mask finger moves:Nat} {led plain:Bool} {hs:Array Int} {r:SetTable × Array Nat} (h:SetTable.laid mask finger moves led plain hs = some r):Laid0 r.1:=by
 unfold SetTable.laid at h
 cases q:SetTable.layClean mask hs with
 | none=>rw [q] at h; cases h
 | some ow=>
  rw [q] at h
  cases h
  refine ⟨?_,rfl⟩
  have:(((List.range (mask + 1)).filterMap fun j=>(ow.getD j none).map (j,·)).map (·.1)).Pairwise (· < ·):=by
   rw [List.pairwise_map,List.pairwise_filterMap]
   refine List.pairwise_lt_range.imp fun {a b} hab x hx y hy=>?_
   obtain ⟨_,_,rfl⟩:=Option.map_eq_some_iff.mp hx
   obtain ⟨_,_,rfl⟩:=Option.map_eq_some_iff.mp hy
   exact hab
  intro a b hab hb ha
  have:=List.pairwise_iff_getElem.mp this a b (by simpa using ha) (by simpa using hb) hab
  simpa using this
theorem laid0_relay {t:SetTable} (es:Array (Int × Value)) (n:Nat):Laid0 (relayAll t es n).2.1:=by
 unfold relayAll
 split
 ·rename_i t' order e
  have q:=laid0_laid e
  dsimp only
  split
  ·exact q
  ·exact laid0_standIn t _
 ·exact laid0_standIn t _
noncomputable def intOf:Value -> Int
 | .int x _=>x
 | _=>0
def IsInts (w:World) (h:Heap) (a:Addr) (led:Bool) (ss:List Int):Prop:=
 ∃ es ep t,h.get? a = some { cls:=.type "set",dict:=none,data:=.set es ep t,slots:=#[] } /\ (∀ e ∈ es.toList,∃ x u,e = (hashInt x,Value.int x u)) /\
  (es.toList.map fun e=>intOf e.2).Perm ss /\ t.fits es.size = true /\ t.led = led /\ Laid0 t
section
variable {prog:Program} {w:World} {A:Around} {E:Value -> Shared -> Prop} {s:Shared}
theorem isInt_self (x:Int) (u:Tok):Value.isInt x (Value.int x u) = true:=by simp [Value.isInt]
theorem ints_elems {es:Array (Int × Value)} (h:∀ e ∈ es.toList,∃ x u,e = (hashInt x,Value.int x u)):ElemsOf (PySem.intKind prog w) es.toList:=fun e he=>by
 obtain ⟨x,u,rfl⟩:=h e he
 exact ⟨⟨x,isInt_self x u,rfl⟩,rfl⟩
theorem ints_find {es:List (Int × Value)} (h:∀ e ∈ es,∃ x u,e = (hashInt x,Value.int x u)) (x:Int):
  (es.findIdx? fun e=>(PySem.intKind prog w).is x e.2) = none ↔ x ∉ es.map fun e=>intOf e.2:=by
 rw [List.findIdx?_eq_none_iff]
 constructor
 ·intro q hm
  obtain ⟨e,he,rfl⟩:=List.mem_map.mp hm
  obtain ⟨y,u,rfl⟩:=h e he
  have:=q _ he
  rw [show (PySem.intKind prog w).is (intOf (hashInt y,Value.int y u).2) (hashInt y,Value.int y u).2 = true from isInt_self y u] at this
  cases this
 ·intro q e he
  obtain ⟨y,u,rfl⟩:=h e he
  cases hb:(PySem.intKind prog w).is x (Value.int y u) with
  | false=>rfl
  | true=>
   have e2:y = x:=by
    obtain ⟨t,q⟩:=Value.isInt_shape (v:=Value.int y u) hb
    injection q
   exact absurd (List.mem_map.mpr ⟨_,he,by rw [<- e2]; rfl⟩) q
noncomputable def addI (ss:List Int) (x:Int):List Int:=if x ∈ ss then ss else ss ++ [x]
theorem add_int {a:Addr} {led:Bool} {ss:List Int} {x:Int} {u:Tok} {Q:Bool -> Shared -> Prop} (hS:IsInts w s.heap a led ss) (room:ss.length + 1 < scanBound)
  (h:∀ h' b,Heap.SameBut a s.heap h' -> IsInts w h' a led (addI ss x) -> Q b { s with heap:=h' }):
  wpAny (model prog w) A (setAddHashed a (.int x u) (hashInt x)) Q E s:=by
 obtain ⟨es,ep,t,ho,hel,hp,hf,hl,hL⟩:=hS
 have hE:=ints_elems (prog:=prog) (w:=w) hel
 have hk:(PySem.intKind prog w).is x (Value.int x u) = true:=isInt_self x u
 have hsz:es.size = ss.length:=by have:=hp.length_eq; simpa using this
 have hb:es.size < scanBound:=by omega
 unfold setAddHashed setAddHashedIn
 refine wpAny_holding (wpAny_bind (wpAny_setState_of ho rfl hf ?_))
 dsimp only
 rw [byScan_of (knd:=PySem.intKind prog w) rfl hb hE,if_pos rfl]
 unfold setAddByScan
 refine wpAny_bind (wpAny_bind (wpAny_rule (wpAny_bind (wpAny_setScan_of (knd:=PySem.intKind prog w) hk ho rfl hf hE ?_))))
 have hfind:=ints_find (prog:=prog) (w:=w) hel x
 cases hr:es.toList.findIdx? (fun e=>(PySem.intKind prog w).is x e.2) with
 | some j=>
  have hin:x ∈ ss:=by
   rw [<- hp.mem_iff]
   apply Classical.byContradiction
   intro z
   rw [hfind.mpr z] at hr
   cases hr
  refine wpAny_pure (wpAny_pure ?_)
  have:=h s.heap false (Heap.SameBut.refl a s.heap) ⟨es,ep,t,ho,hel,by unfold addI; rw [if_pos hin]; exact hp,hf,hl,hL⟩
  exact this
 | none=>
  have hin:x ∉ ss:=by
   rw [<- hp.mem_iff]
   exact hfind.mp hr
  dsimp only
  have p1:=layNew_perm t es (hashInt x) (Value.int x u)
  have p2:=layNew_fits t es (hashInt x) (Value.int x u)
  have p3:=tab_layNew t es (hashInt x) (Value.int x u)
  have p4:=laid0_new hL es (hashInt x) (Value.int x u)
  generalize layNew t es (hashInt x) (Value.int x u) = L at p1 p2 p3 p4 ⊢
  obtain ⟨es1,t1,wd,gave⟩:=L
  dsimp only at p1 p2 p3 p4 ⊢
  rw [Array.toList_push] at p1
  have hel1:∀ e ∈ es1.toList,∃ x u,e = (hashInt x,Value.int x u):=fun e he=>by
   rcases List.mem_append.mp (p1.mem_iff.mp he) with q | q
   ·exact hel e q
   ·rw [List.mem_singleton.mp q]; exact ⟨x,u,rfl⟩
  have hp1:(es1.toList.map fun e=>intOf e.2).Perm (addI ss x):=by
   refine (p1.map _).trans ?_
   unfold addI
   rw [if_neg hin,List.map_append]
   exact hp.append_right _
  have hz1:es1.size = ss.length + 1:=by
   have:=p1.length_eq
   simp only [Array.length_toList,List.length_append,List.length_singleton] at this
   omega
  have gw:∀ (b:Bool) (s₁:Shared) (Q':Unit -> Shared -> Prop),Q' () s₁ -> wpAny (model prog w) A (match b with | true=>rule "set.scan.the-table-gave-way" | false=>pure ()) Q' E s₁:=fun b s₁ Q' q=>by
   cases b
   ·exact wpAny_pure q
   ·exact wpAny_rule q
  refine wpAny_bind (gw _ _ _ ?_)
  split
  ·refine wpAny_bind ?_
   rw [hashByValue_scannable 8 (x:=Value.int x u) rfl]
   refine wpAny_pure ?_
   have pk:plainKind (Value.int x u) = true:=rfl
   simp only [pk,↓reduceIte]
   obtain ⟨t2,et,f2,l2,L2'⟩:∃ t2:SetTable,t2 = t1 /\ t2.fits es1.size = true /\ t2.led = led /\ Laid0 t2:=⟨_,rfl,p2,p3.1.trans hl,p4⟩
   rw [<- et]
   refine wpAny_bind (wpAny_storeSet_of ho rfl ?_ (fits_of_scanBound (by omega)))
   have o1:=set_put (es':=es1) (t':=t2) ho
   have sb1:=Heap.SameBut.update s.heap a (Obj.putSet es1 t2)
   refine wpAny_ite_split (fun _=>?_) fun _=>?_
   ·have q1:=relayAll_perm t2 es1 (SetTable.grown es1.size)
    have q2:=relayAll_fits t2 es1 (SetTable.grown es1.size)
    have q3:=tab_relay t2 es1 (SetTable.grown es1.size)
    have q4:=laid0_relay (t:=t2) es1 (SetTable.grown es1.size)
    generalize relayAll t2 es1 (SetTable.grown es1.size) = R at q1 q2 q3 q4 ⊢
    obtain ⟨es2,t3,g2⟩:=R
    dsimp only at q1 q2 q3 q4 ⊢
    have z2:es2.size = es1.size:=by have:=q1.length_eq; simpa using this
    refine wpAny_bind (gw _ _ _ ?_)
    refine wpAny_bind (wpAny_storeSet_of o1 rfl ?_ (fits_of_scanBound (by omega)))
    have o2:=set_put (s:={ s with heap:=s.heap.update a (Obj.putSet es1 t2) }) (es':=es2) (t':=t3) o1
    exact wpAny_pure (wpAny_pure (h _ _ (sb1.trans (Heap.SameBut.update _ a _)) ⟨es2,_,t3,o2,fun e he=>hel1 e (q1.mem_iff.mp he),(q1.map _).trans hp1,q2,q3.1.trans l2,q4⟩))
   ·exact wpAny_pure (wpAny_pure (h _ _ sb1 ⟨es1,_,t2,o1,hel1,hp1,f2,l2,L2'⟩))
  ·rename_i np
   refine wpAny_bind (wpAny_pure ?_)
   simp only [↓reduceIte]
   obtain ⟨t2,et,f2,l2,L2'⟩:∃ t2:SetTable,t2 = t1 /\ t2.fits es1.size = true /\ t2.led = led /\ Laid0 t2:=⟨_,rfl,p2,p3.1.trans hl,p4⟩
   rw [<- et]
   refine wpAny_bind (wpAny_storeSet_of ho rfl ?_ (fits_of_scanBound (by omega)))
   have o1:=set_put (es':=es1) (t':=t2) ho
   have sb1:=Heap.SameBut.update s.heap a (Obj.putSet es1 t2)
   refine wpAny_ite_split (fun _=>?_) fun _=>?_
   ·have q1:=relayAll_perm t2 es1 (SetTable.grown es1.size)
    have q2:=relayAll_fits t2 es1 (SetTable.grown es1.size)
    have q3:=tab_relay t2 es1 (SetTable.grown es1.size)
    have q4:=laid0_relay (t:=t2) es1 (SetTable.grown es1.size)
    generalize relayAll t2 es1 (SetTable.grown es1.size) = R at q1 q2 q3 q4 ⊢
    obtain ⟨es2,t3,g2⟩:=R
    dsimp only at q1 q2 q3 q4 ⊢
    have z2:es2.size = es1.size:=by have:=q1.length_eq; simpa using this
    refine wpAny_bind (gw _ _ _ ?_)
    refine wpAny_bind (wpAny_storeSet_of o1 rfl ?_ (fits_of_scanBound (by omega)))
    have o2:=set_put (s:={ s with heap:=s.heap.update a (Obj.putSet es1 t2) }) (es':=es2) (t':=t3) o1
    exact wpAny_pure (wpAny_pure (h _ _ (sb1.trans (Heap.SameBut.update _ a _)) ⟨es2,_,t3,o2,fun e he=>hel1 e (q1.mem_iff.mp he),(q1.map _).trans hp1,q2,q3.1.trans l2,q4⟩))
   ·exact wpAny_pure (wpAny_pure (h _ _ sb1 ⟨es1,_,t2,o1,hel1,hp1,f2,l2,L2'⟩))
end
noncomputable def dI (l:List Int):List Int:=l.foldl addI []
theorem addI_len (ss:List Int) (x:Int):(addI ss x).length <= ss.length + 1:=by
 unfold addI
 split <;> simp
theorem dI_take {l:List Int} {i:Nat} {x:Int} (h:l[i]? = some x):dI (l.take (i + 1)) = addI (dI (l.take i)) x:=by
 unfold dI
 rw [List.take_add_one,h,List.foldl_append]
 rfl
theorem foldl_addI_len (l:List Int):∀ ss:List Int,(l.foldl addI ss).length <= ss.length + l.length:=by
 induction l with
 | nil=>intro ss; simp
 | cons x l ih=>
  intro ss
  have h1:=ih (addI ss x)
  have h2:=addI_len ss x
  simp only [List.foldl_cons,List.length_cons]
  omega
theorem dI_len (l:List Int):(dI l).length <= l.length:=by
 have:=foldl_addI_len l []
 simpa [dI] using this
theorem addI_mem {ss:List Int} {x y:Int}:y ∈ addI ss x ↔ y ∈ ss \/ y = x:=by
 unfold addI
 split
 ·rename_i h
  exact ⟨.inl,fun q=>q.elim id fun e=>e ▸ h⟩
 ·simp
theorem foldl_addI_mem (l:List Int):∀ (ss:List Int) (y:Int),y ∈ l.foldl addI ss ↔ y ∈ ss \/ y ∈ l:=by
 induction l with
 | nil=>intro ss y; simp
 | cons x l ih=>
  intro ss y
  rw [List.foldl_cons,ih,addI_mem,List.mem_cons]
  exact ⟨fun q=>q.elim (fun z=>z.elim .inl fun e=>.inr (.inl e)) fun z=>.inr (.inr z),fun q=>q.elim (fun z=>.inl (.inl z)) fun z=>z.elim (fun e=>.inl (.inr e)) .inr⟩
theorem dI_mem {l:List Int} {y:Int}:y ∈ dI l ↔ y ∈ l:=by
 unfold dI
 rw [foldl_addI_mem]
 simp
theorem addI_nodup {ss:List Int} (h:ss.Nodup) (x:Int):(addI ss x).Nodup:=by
 unfold addI
 split
 ·exact h
 ·rename_i n
  rw [List.nodup_append]
  exact ⟨h,by simp,fun a ha b hb=>by rw [List.mem_singleton.mp hb]; exact fun e=>n (e ▸ ha)⟩
theorem foldl_addI_nodup (l:List Int):∀ ss:List Int,ss.Nodup -> (l.foldl addI ss).Nodup:=by
 induction l with
 | nil=>intro ss h; exact h
 | cons x l ih=>intro ss h; exact ih _ (addI_nodup h x)
theorem dI_nodup (l:List Int):(dI l).Nodup:=foldl_addI_nodup l [] List.nodup_nil
theorem IsInts.at {w:World} {h h':Heap} {a:Addr} {led:Bool} {ss:List Int} (x:IsInts w h a led ss) (k:∀ o,h.get? a = some o -> h'.get? a = some o):IsInts w h' a led ss:=by
 obtain ⟨es,ep,t,ho,r⟩:=x
 exact ⟨es,ep,t,k _ ho,r⟩
section
variable {prog:Program} {w:World} {A:Around} {R:Result -> Shared -> Prop} {I:Addr} {fp wr:List Addr} {G:Array GenState -> Array GenState -> Prop} {n:Nat} {P:Nat -> Value -> Prop} {St:Nat -> Shared -> Prop}
theorem fill_ints (W:WalksS prog w A.in1 I fp wr G n P St) (S:Addr) (hSf:S ∉ fp) (ss:List Int) (led:Bool) (hn:ss.length = n)
  (hval:∀ i v,P i v -> ∃ x t,ss[i]? = some x /\ v = .int x t) (hb:n + 1 < scanBound):
  ∀ (k i:Nat) (s:Shared),n - i = k -> i <= n -> St i s -> IsInts w s.heap S led (dI (ss.take i)) ->
   (∀ s',Moved (S :: wr) G s s' -> IsInts w s'.heap S led (dI ss) -> R (.ok (.ret .none)) s') ->
   codeAny (model prog w) A (.builtin "set.update.loop" ⟨[.ref S,.ref I],[]⟩) R s:=by
 have hSw:S ∉ wr:=fun h=>hSf (W.sub _ h)
 have up:∀ b ∈ wr,b ∈ S :: wr:=fun b hb=>List.mem_cons_of_mem _ hb
 intro k
 induction k with
 | zero=>
  intro i s hk hi hst hS hR
  obtain rfl:i = n:=by omega
  refine codeAny_builtin PyProof.Rows.F.entry_set_update_loop ?_
  rw [Around.under_plainId PyProof.Rows.F.plain_set_update_loop _]
  show wpAny _ A.in1 (pyNext (.ref I) >>= _) _ _ s
  refine wpAny_bind (W.done s _ _ hst fun s' hm=>?_)
  rw [List.take_of_length_le (Nat.le_of_eq hn)] at hS
  exact wpAny_pure (hR s' (hm.mono up) (hS.at fun o e=>hm.heap S o hSw e))
 | succ k ih=>
  intro i s hk hi hst hS hR
  have hlt:i < n:=by omega
  refine codeAny_builtin PyProof.Rows.F.entry_set_update_loop ?_
  rw [Around.under_plainId PyProof.Rows.F.plain_set_update_loop _]
  show wpAny _ A.in1 (pyNext (.ref I) >>= _) _ _ s
  refine wpAny_bind (W.item i s _ _ hlt hst fun v s' hP hst' hm=>?_)
  obtain ⟨x,t,hx,rfl⟩:=hval i v hP
  have hS':IsInts w s'.heap S led (dI (ss.take i)):=hS.at fun o e=>hm.heap S o hSw e
  show wpAny _ A.in1 (holding [Value.int x t] (setAdd S (.int x t)) >>= _) _ _ s'
  refine wpAny_bind (wpAny_holding ?_)
  unfold setAdd
  refine wpAny_holding (wpAny_bind (wpAny_pyHash_int ?_))
  have hroom:(dI (ss.take i)).length + 1 < scanBound:=by
   have h1:=dI_len (ss.take i)
   rw [List.length_take] at h1
   omega
  refine add_int (s:={ s' with toks:=s'.toks + 1 }) hS' hroom fun h' b hsb hS2=>?_
  rw [<- dI_take hx] at hS2
  refine wpAny_pure ⟨plainId_quiet PyProof.Rows.F.plain_set_update_loop _,ih (i + 1) _ (by omega) hlt (W.frame _ s' _ _ hst' (Nat.le_succ _) fun b hb o e=>?_) hS2 fun s'' hm'' hS''=>?_⟩
  ·rw [hsb.2 b (fun h:b = S=>hSf (h ▸ hb))]
   exact e
  ·refine hR s'' (Moved.trans W.gtrans ((hm.mono up).then_heap (Nat.le_succ _) fun b o hb e=>?_) hm'') hS''
   rw [hsb.2 b (fun h:b = S=>hb (h ▸ List.mem_cons_self))]
   exact e
end
section
variable {prog:Program} {w:World} {A:Around} {E:Value -> Shared -> Prop} {s:Shared}
theorem isInts0 {w:World} {h:Heap} {a:Addr} (ho:h.get? a = some (setObj0 w)):IsInts w h a (ledW w) []:=
 ⟨#[],0,_,ho,fun e he=>by simp at he,by simp,rfl,rfl,⟨fun a b _ hb _=>absurd hb (by simp [SetTable.fresh]),rfl⟩⟩
set_option maxHeartbeats 3200000 in
theorem set_of_ints {l:Addr} {items:Array Value} {ss:List Int} {Q:Value -> Shared -> Prop} (hh:A.handled = none) (hl:s.heap.IsList l items) (hn:ss.length = items.size)
  (hv:∀ (i:Nat) (v:Value),items[i]? = some v -> ∃ x t,ss[i]? = some x /\ v = .int x t) (hb:items.size + 1 < scanBound)
  (h:∀ (h':Heap) (tk:Nat),IsInts w h' s.heap.objs.size (ledW w) (dI ss) -> (∀ b o,s.heap.get? b = some o -> h'.get? b = some o) -> Q (.ref s.heap.objs.size) { s with heap:=h',toks:=tk }):
  wpAny (model prog w) A (call (.type "set") [.ref l]) Q E s:=by
 apply set_by_halves
 intro A₁ _
 apply new_texts
 have hS:(s.heap.push (setObj0 w)).get? s.heap.objs.size = some (setObj0 w):=Heap.get?_push_size _ rfl
 have hT:Shared.TypeIs { s with heap:=s.heap.push (setObj0 w) } (.ref s.heap.objs.size) "set" := ⟨_,hS,rfl⟩
 refine ⟨⟨_,rfl⟩,hT,fun A₂ h2=>?_⟩
 apply codeAny_call_builtin PySem.F.called_set.init.plain PySem.F.entry_set_init
 apply check_set_init_1 hT
 obtain ⟨⟨ocls,odict,odata,oslots⟩,hol,hcl,nl,hdl⟩:=hl
 change ocls = .type "list" at hcl
 change odata = .seq items nl at hdl
 subst hcl hdl
 have hol':(s.heap.push (setObj0 w)).get? l = some { cls:=.type "list",dict:=odict,data:=.seq items nl,slots:=oslots }:=Heap.get?_push_of_some _ hol
 have k1:=PySem.F.sub_list_set
 have k2:=PySem.F.sub_list_frozenset
 have k3:(Value.type "list" == Value.type "dict") = false:=by decide
 have hl1:(s.heap.push (setObj0 w)).IsList l items:=⟨_,hol',rfl,nl,rfl⟩
 unfold Builtin.«set.__init__» noKeywords Builtin.Frozenset.updateFrom
 generalize hPI:pyIter = PI
 wp_walk
 subst hPI
 refine wpAny_pyIter_list hl1 ?_
 apply wpAny_bind
 apply wpAny_runValue
 have hlS:l < s.heap.objs.size:=Heap.lt_size hol
 have hsz:(s.heap.push (setObj0 w)).objs.size = s.heap.objs.size + 1:=Heap.size_push ..
 have hSf:s.heap.objs.size ∉ [(s.heap.push (setObj0 w)).objs.size,l]:=by
  rw [hsz]
  intro z
  rcases List.mem_cons.mp z with z | z
  ·exact Nat.succ_ne_self _ z.symm
  ·exact Nat.ne_of_gt hlS (List.mem_singleton.mp z)
 have W:=Walks.list (prog:=prog) (w:=w) (A:=A₂.in1.in1) (by simp [h2,hh]) (s.heap.push (setObj0 w)).objs.size l (by rw [hsz]; exact Nat.ne_of_lt (Nat.lt_succ_of_lt hlS)) items
 refine fill_ints W.toS s.heap.objs.size hSf ss (ledW w) hn hv hb (items.size - 0) 0 _ (by omega) (Nat.zero_le _) ⟨⟨_,Heap.get?_push_size _ rfl,rfl,rfl⟩,hl1.push _⟩ (isInts0 (Heap.get?_push_of_some _ hS)) fun s' hm hS'=>?_
 obtain ⟨h',g',d',tk',os'⟩:=s'
 obtain rfl:g' = s.gens:=hm.gens
 obtain rfl:d' = s.drawn:=hm.drawn
 obtain rfl:os' = s.os:=hm.os
 apply wpAny_pure
 apply wpAny_pure
 refine ⟨rfl,h h' tk' hS' fun b o e=>?_⟩
 have hbs:=Heap.lt_size e
 apply hm.heap b o
 ·intro z
  rcases List.mem_cons.mp z with z | z
  ·exact Nat.ne_of_lt hbs z
  ·have z:=List.mem_singleton.mp z
   rw [hsz] at z
   exact Nat.ne_of_lt (Nat.lt_succ_of_lt hbs) z
 ·exact Heap.get?_push_of_some _ (Heap.get?_push_of_some _ e)
section
variable {it a:Addr} {es:Array (Int × Value)} {n ep i:Nat} {t:SetTable}
theorem setNext_plain {slot:Nat} {Q:Option (Value × Nat) -> Shared -> Prop} (hb:w.params.followText "set-order" = false) (ha:s.heap.get? a = some (setObj es ep t)) (hf:t.fits es.size = true) (hl:t.led = true) (h1:(!t.plain && decide (es.size > 1)) = false)
  (h:Q (match es[SetTable.below t.place slot]?,t.place[SetTable.below t.place slot]? with | some (_,x),some j=>some (x,j + 1) | _,_=>none) s):wpAny (model prog w) A (setNext a slot i ep) Q E s:=by
 unfold setNext
 refine wpAny_bind (wpAny_setState_of ha rfl hf ?_)
 dsimp only
 refine wpAny_bind (by_text ?_)
 rw [hb]
 show wpAny _ _ (if (!t.plain && decide (es.size > 1)) = true then _ else _) _ _ _
 rw [h1]
 have d2:(!t.led && !es.isEmpty) = false:=by rw [hl]; rfl
 show wpAny _ _ ((if (!t.led && !es.isEmpty) = true then _ else pure ()) >>= _) _ _ _
 rw [d2]
 exact wpAny_bind (wpAny_pure (wpAny_pure h))
theorem walks_places (hh:A.handled = none) (hne:a ≠ it) (hb:w.params.followText "set-order" = false) (hf:t.fits es.size = true) (hz:es.size = n) (hl:t.led = true) (h1:(!t.plain && decide (es.size > 1)) = false) (hL:Laid0 t):
  Walks prog w A it [it,a] [it] n (fun i v=>(es[i]?).map (·.2) = some v) (fun i h=>(∃ sl,h.get? it = some (itObj (.int (sl:Nat) 0) i a n ep) /\ SetTable.below t.place sl = i) /\ h.get? a = some (setObj es ep t)) where
 sub:=fun b hb=>by simp at hb; simp [hb]
 frame:=fun _ _ _ ⟨⟨sl,st,r⟩,st2⟩ k=>⟨⟨sl,k it (by simp) _ st,r⟩,k a (by simp) _ st2⟩
 item:=fun i s Q E hi ⟨⟨sl,st,r⟩,st2⟩ hQ=>by
  have hp:i < t.place.size:=by rw [fits_size hf]; omega
  have hi':i < es.size:=by omega
  have e1:es[i]? = some es[i]:=Array.getElem?_eq_getElem hi'
  have e2:t.place[i]? = some t.place[i]:=Array.getElem?_eq_getElem hp
  refine next_int_item (slot:=sl) (nx:=t.place[i] + 1) (x:=es[i].2) st st2 hf hz (fun E' Q' q=>setNext_plain hb st2 hf hl h1 ?_) fun h' g sb=>?_
  ·rw [r,e1,e2]
   exact q
  ·exact hQ _ h' s.toks (by rw [e1]; rfl) ⟨⟨_,g,below_at hL.1 hp⟩,sb.extBut _ _ hne st2⟩ fun b o hb e=>sb.extBut b o (fun z=>hb (by simp [z])) e
 done:=fun s Q E ⟨⟨sl,st,r⟩,st2⟩ hQ=>by
  refine next_int_end (slot:=sl) hh st st2 hf hz (fun E' Q' q=>setNext_plain hb st2 hf hl h1 ?_) fun h' k=>hQ h' s.toks fun b o hb e=>k b o (fun z=>hb (by simp [z])) e
  rw [r,Array.getElem?_eq_none (by omega)]
  exact q
 self:=fun i s Q E ⟨⟨sl,st,_⟩,_⟩ hQ=>self_setit ⟨_,st,rfl⟩ hQ
end
structure WalkedI (prog:Program) (w:World) (A:Around) (h:Heap) (a:Addr) (ss:List Int) (it:Addr) (h':Heap):Prop where
 old:∀ b o,h.get? b = some o -> h'.get? b = some o
 new:h.objs.size <= it
 walk:∃ fp St,∃ xs:List Value,Walks prog w A it fp [it] xs.length (fun i v=>xs[i]? = some v) St /\ St 0 h' /\ (∀ b ∈ fp,b = a \/ h.objs.size <= b) /\ (∀ v ∈ xs,∃ x u,v = Value.int x u) /\ (xs.map intOf).Perm ss
theorem iter_ints {a:Addr} {ss:List Int} {Q:Value -> Shared -> Prop} (hh:A.handled = none) (hS:IsInts w s.heap a (ledW w) ss) (hb:ss.length <= 100000)
  (h:∀ it h' d,WalkedI prog w A s.heap a ss it h' -> Q (.ref it) { s with heap:=h',drawn:=d }):wpAny (model prog w) A (pyIter (.ref a)) Q E s:=by
 obtain ⟨es,ep,t,ho,hel,hp,hf,hl,hpl⟩:=hS
 have hT:s.TypeIs (.ref a) "set" := ⟨_,ho,rfl⟩
 have hlt:=Heap.lt_size ho
 have hsz:es.size = ss.length:=by have:=hp.length_eq; simpa using this
 have hvs:∀ v ∈ es.toList.map (·.2),∃ x u,v = Value.int x u:=fun v hv=>by
  obtain ⟨e,he,rfl⟩:=List.mem_map.mp hv
  obtain ⟨x,u,rfl⟩:=hel e he
  exact ⟨x,u,rfl⟩
 have hps:((es.toList.map (·.2)).map intOf).Perm ss:=by rw [List.map_map]; exact hp
 have mk:∀ (xs:List Value),xs.Perm (es.toList.map (·.2)) -> (∀ v ∈ xs,∃ x u,v = Value.int x u) /\ (xs.map intOf).Perm ss:=fun xs q=>
  ⟨fun v hv=>hvs v (q.mem_iff.mp hv),(q.map _).trans hps⟩
 refine wpAny_pyIter_slot hT PySem.F.slot_set_iter (wpAny_call_entry PySem.F.slot_set_iter hT entry_set_iter ?_ (PySem.F.args_set_iter_1 _))
 unfold Builtin.«frozenset.__iter__» Builtin.Frozenset.slot0 slotArgs
 simp only [List.isEmpty_nil,Bool.not_true,Bool.false_eq_true,↓reduceIte,bind_assoc,List.length_nil,bne_self_eq_false]
 unfold Builtin.Frozenset.addrOf Builtin.Frozenset.sizeOf
 refine wpAny_bind (wpAny_pure ?_)
 try dsimp only
 refine wpAny_bind (wpAny_pure ?_)
 refine wpAny_bind (wpAny_bind (wpAny_setEntries_of ho rfl hf (wpAny_pure ?_)))
 unfold setDrawn
 refine wpAny_bind (wpAny_bind (wpAny_setState_of ho rfl hf ?_))
 dsimp only
 refine wpAny_bind (by_text (wpAny_pure ?_))
 change wpAny _ _ (if (!w.params.followText "set-order" && (!t.plain && decide (es.size > 1))) = true then _ else _) _ _ _
 have ne1:∀ (h1:Heap),s.heap.objs.size <= h1.objs.size -> a ≠ h1.objs.size:=fun h1 q=>Nat.ne_of_lt (Nat.lt_of_lt_of_le hlt q)
 by_cases hd:(!w.params.followText "set-order" && (!t.plain && decide (es.size > 1))) = true
 ·rw [if_pos hd]
  refine wpAny_bind (draw_order es.size (List.range es.size) s _ (by simp) fun ys d hy=>?_)
  have hyl:ys.length = es.size:=by have:=hy.length_eq; simpa using this
  refine wpAny_bind (wpAny_newTuple ?_ (by rw [List.length_map,hyl,sizeLine_eq]; omega))
  refine wpAny_bind (wpAny_setEpoch_of (Heap.get?_push_of_some _ ho) rfl hf ?_)
  refine wpAny_bind (wpAny_newObj_type (wpAny_pure ⟨_,rfl, "set_iterator",_,⟨_,Heap.get?_push_size _ rfl,rfl⟩,slot_setit_next.lookup,?_⟩))
  have hq:(atPlaces es ys).Perm (es.toList.map (·.2)):=by
   rw [<- places_all]
   exact hy.map _
  have hlen:es.size = (atPlaces es ys).length:=by unfold atPlaces; rw [List.length_map,hyl]
  have e1:(s.heap.push (seqObj "tuple" (ys.map fun (k:Nat)=>rawInt k).toArray 0)).objs.size = s.heap.objs.size + 1:=size_push' ..
  refine h _ _ d ⟨fun b o e=>Heap.get?_push_of_some _ (Heap.get?_push_of_some _ e),Nat.le_trans (Nat.le_succ _) (Nat.le_of_eq e1.symm),_,_,_,
   Walks.cast (walks_drawn (A:=A) (a:=a) (T:=s.heap.objs.size) (ep:=ep) hh (ne1 _ (Nat.le_trans (Nat.le_succ _) (Nat.le_of_eq e1.symm))) ?_ hf rfl hy) hlen fun _ _=>Iff.rfl,?_,?_,(mk _ hq).1,(mk _ hq).2⟩
  ·exact Nat.ne_of_lt (Nat.lt_of_lt_of_le (Nat.lt_succ_self _) (Nat.le_of_eq e1.symm))
  ·exact ⟨Heap.get?_push_size _ rfl,Heap.get?_push_of_some _ (Heap.get?_push_of_some _ ho),Heap.get?_push_of_some _ (Heap.get?_push_size _ rfl)⟩
  ·intro b hb
   simp only [List.mem_cons,List.not_mem_nil,or_false] at hb
   rcases hb with rfl | rfl | rfl
   ·exact .inr (Nat.le_trans (Nat.le_succ _) (Nat.le_of_eq e1.symm))
   ·exact .inl rfl
   ·exact .inr (Nat.le_refl _)
 ·rw [if_neg hd]
  refine wpAny_bind (wpAny_pure ?_)
  refine wpAny_bind (wpAny_setEpoch_of ho rfl hf ?_)
  refine wpAny_bind (wpAny_newObj_type (wpAny_pure ⟨_,rfl, "set_iterator",_,⟨_,Heap.get?_push_size _ rfl,rfl⟩,slot_setit_next.lookup,?_⟩))
  have fpo:∀ b ∈ [s.heap.objs.size,a],b = a \/ s.heap.objs.size <= b:=fun b hb=>by
   simp only [List.mem_cons,List.not_mem_nil,or_false] at hb
   rcases hb with rfl | rfl
   ·exact .inr (Nat.le_refl _)
   ·exact .inl rfl
  refine h _ _ s.drawn ⟨fun b o e=>Heap.get?_push_of_some _ e,Nat.le_refl _,?_⟩
  cases hbt:w.params.followText "set-order" with
  | true=>
   have hq:((pickOrder (w.params.setOrder a ep) es).toList.map (·.2)).Perm (es.toList.map (·.2)):=(pick_perm (w.params.setOrder a ep) es).map _
   refine ⟨_,_,_,Walks.cast (walks_text (A:=A) (a:=a) (ep:=ep) (t:=t) hh (ne1 _ (Nat.le_refl _)) hbt hf rfl) (by have:=hq.length_eq; simpa using this.symm) (fun i v=>?_),⟨Heap.get?_push_size _ rfl,Heap.get?_push_of_some _ ho⟩,fpo,(mk _ hq).1,(mk _ hq).2⟩
   rw [List.getElem?_map,Array.getElem?_toList]
  | false=>
   have h1:(!t.plain && decide (es.size > 1)) = false:=by
    rw [hbt] at hd
    simpa using hd
   have hq:=List.Perm.refl (es.toList.map (·.2))
   refine ⟨_,_,_,Walks.cast (walks_places (A:=A) (a:=a) (ep:=ep) (t:=t) hh (ne1 _ (Nat.le_refl _)) hbt hf rfl (by rw [hl]; unfold ledW; rw [hbt]; rfl) h1 hpl) (by simp) (fun i v=>?_),⟨⟨0,Heap.get?_push_size _ rfl,below_zero hpl.1⟩,Heap.get?_push_of_some _ ho⟩,fpo,(mk _ hq).1,(mk _ hq).2⟩
   rw [List.getElem?_map,Array.getElem?_toList]
theorem collect_ints {a:Addr} {ss:List Int} {R:List Value -> Shared -> Prop} (hh:A.handled = none) (hS:IsInts w s.heap a (ledW w) ss) (hb:ss.length <= 100000)
  (h:∀ (h':Heap) (tk:Nat) (d:Drawn) (vs:List Value),s.heap.objs.size < h'.objs.size -> (∀ b o,s.heap.get? b = some o -> h'.get? b = some o) -> (∀ v ∈ vs,∃ x u,v = Value.int x u) -> (vs.map intOf).Perm ss -> R vs { s with heap:=h',toks:=tk,drawn:=d }):
  wpAny (model prog w) A (collect (.ref a)) R E s:=by
 unfold collect
 refine wpAny_bind (wpAny_runValue (codeAny_builtin entry_proto_collect' ?_))
 rw [Around.under_plainId PySem.F.plain_proto_collect _]
 show wpAny _ A.in1 (newList [] >>= fun l=>again (.builtin "list.__iadd__" ⟨[l,.ref a],[]⟩)) _ _ s
 refine wpAny_bind (wpAny_newObj_type ?_)
 refine wpAny_pure ⟨plainId_quiet PySem.F.plain_list_iadd _,codeAny_builtin entry_list_iadd' ?_⟩
 rw [Around.under_plainId PySem.F.plain_list_iadd _]
 generalize hL:s.heap.objs.size = S
 have hS1:(s.heap.push { cls:=.type "list",data:=.seq ([]:List Value).toArray }).get? S = some { cls:=.type "list",data:=.seq #[] }:=hL ▸ Heap.get?_push_size _ rfl
 have hkeep:∀ b o,s.heap.get? b = some o -> (s.heap.push { cls:=.type "list",data:=.seq ([]:List Value).toArray }).get? b = some o:=fun b o e=>Heap.get?_push_of_some _ e
 have haS:a < S:=by obtain ⟨es,ep,t,ho,_⟩:=hS; rw [<- hL]; exact Heap.lt_size ho
 have hz1:(s.heap.push { cls:=.type "list",data:=.seq ([]:List Value).toArray }).objs.size = S + 1:=by rw [size_push',hL]
 have hS':IsInts w (s.heap.push { cls:=.type "list",data:=.seq ([]:List Value).toArray }) a (ledW w) ss:=hS.at fun o e=>hkeep _ _ e
 generalize hg:s.heap.push { cls:=.type "list",data:=.seq ([]:List Value).toArray } = g at hS1 hkeep hz1 hS'
 have hT:Shared.TypeIs { s with heap:=g } (.ref a) "set" := by obtain ⟨es,ep,t,ho,_⟩:=hS'; exact ⟨_,ho,rfl⟩
 show wpAny _ A.in1 (Builtin.List.listExtendWith (.ref S) (.ref a) (.ref S)) _ _ { s with heap:=g }
 unfold Builtin.List.listExtendWith
 refine wpAny_bind (wpAny_typeOf (T := "set") hT ?_)
 have h1:Builtin.List.listSameRef (.ref S) (.ref a) = false:=by simp [Builtin.List.listSameRef,Nat.ne_of_gt haS]
 have h2:(Value.type "set" == Value.type "list") = false:=by decide
 have h3:(Value.type "set" == Value.type "tuple") = false:=by decide
 simp only [h1,h2,h3,Bool.or_false,Bool.false_eq_true,if_false]
 refine wpAny_bind (iter_ints (A:=A.in1) (s:={ s with heap:=g }) hh hS' hb fun it g' d W=>?_)
 obtain ⟨old,new,fp,St,xs,Wk,st,hfp,hxs,hpx⟩:=W
 have hxl:xs.length = ss.length:=by have:=hpx.length_eq; simpa using this
 have hS2:=old _ _ hS1
 have hSf:S ∉ fp:=fun z=>by
  rcases hfp S z with q | q
  ·exact Nat.lt_irrefl _ (q ▸ haS)
  ·rw [show ({ s with heap:=g }:Shared).heap.objs.size = S + 1 from hz1] at q
   exact absurd q (Nat.not_le.mpr (Nat.lt_succ_self _))
 have itS:it ≠ S:=fun z=>by
  subst z
  rw [show ({ s with heap:=g }:Shared).heap.objs.size = it + 1 from hz1] at new
  exact absurd new (Nat.not_le.mpr (Nat.lt_succ_self _))
 have key:∀ (h:Heap) (c₁ tk:Nat),St 0 h -> (∀ b o,b ≠ S -> g'.get? b = some o -> h.get? b = some o) -> h.get? S = some { cls:=.type "list",data:=.seq #[] c₁ } ->
   codeAny (model prog w) A (.builtin "list.extend.loop" ⟨[.ref S,.ref it,.ref S],[]⟩) (fun r s'=>∃ vs c' k1 k2,r = .ok (.ret (.ref S)) /\ s' = { s with heap:=k1,toks:=k2,drawn:=d } /\ k1.get? S = some { cls:=.type "list",dict:=none,data:=.seq vs c',slots:=#[] } /\ vs.toList = xs /\
    (∀ b o,s.heap.get? b = some o -> k1.get? b = some o)) { s with heap:=h,toks:=tk,drawn:=d }:=by
  intro h c₁ tk hst hk hl
  refine codeAny_extend_loopS (Wk.toS) (by rw [hxl,sizeLine_eq]; omega) S hSf (.ref S) xs.length 0 _ #[] c₁ rfl (Nat.zero_le _) hst hl (ItemsOf.nil _) fun s' acc c' hm hl' hacc=>?_
  obtain ⟨k1,gg,dd',k2,oo⟩:=s'
  obtain rfl:gg = s.gens:=hm.gens
  obtain rfl:dd' = d:=hm.drawn
  obtain rfl:oo = s.os:=hm.os
  refine ⟨acc,c',k1,k2,rfl,rfl,hl',?_,fun b o e=>hm.heap b o (fun z=>?_) (hk b o (fun z=>?_) (old b o (hkeep b o e)))⟩
  ·apply List.ext_getElem?
   intro j
   by_cases hj:j < xs.length
   ·have hj':j < acc.size:=by rw [hacc.1]; exact hj
    have:=hacc.2 j _ (Array.getElem?_eq_getElem hj')
    rw [this,Array.getElem?_toList,Array.getElem?_eq_getElem hj']
   ·rw [List.getElem?_eq_none (by rw [Array.length_toList,hacc.1]; omega),List.getElem?_eq_none (by omega)]
  ·have hbs:=Heap.lt_size e
   rw [hL] at hbs
   rcases List.mem_cons.mp z with q | q
   ·exact Nat.lt_irrefl _ (q ▸ hbs)
   ·rw [List.mem_singleton.mp q] at hbs
    rw [show ({ s with heap:=g }:Shared).heap.objs.size = S + 1 from hz1] at new
    exact absurd (Nat.lt_of_le_of_lt new hbs) (Nat.not_lt.mpr (Nat.le_succ _))
  ·have hbs:=Heap.lt_size e
   rw [hL] at hbs
   exact Nat.lt_irrefl _ (z ▸ hbs)
 have hT2:Shared.TypeIs { s with heap:=g',drawn:=d } (.ref a) "set" := by obtain ⟨es,ep,t,ho,_⟩:=hS'; exact ⟨_,old _ _ ho,rfl⟩
 refine wpAny_bind (wpAny_holding (hint_set hT2 ?_))
 have last:∀ (r:Result) (s':Shared),(∃ vs c' k1 k2,r = .ok (.ret (.ref S)) /\ s' = { s with heap:=k1,toks:=k2,drawn:=d } /\ k1.get? S = some { cls:=.type "list",dict:=none,data:=.seq vs c',slots:=#[] } /\ vs.toList = xs /\
    (∀ b o,s.heap.get? b = some o -> k1.get? b = some o)) -> ∃ vs c' k1 k2,r = .ok (.ret (.ref S)) /\ s' = { s with heap:=k1,toks:=k2,drawn:=d } /\ k1.get? S = some { cls:=.type "list",dict:=none,data:=.seq vs c',slots:=#[] } /\ R vs.toList s':=by
  rintro r s' ⟨vs,c',k1,k2,rfl,rfl,hl,hv,hk⟩
  exact ⟨vs,c',k1,k2,rfl,rfl,hl,h k1 k2 d vs.toList (hL ▸ Heap.lt_size hl) hk (hv ▸ hxs) (hv ▸ hpx)⟩
 refine wpAny_ite_split (fun _=>?_) (fun _=>wpAny_pure ⟨plainId_quiet PySem.F.plain_extend_loop _,codeAny_mono (key g' 0 s.toks st (fun _ _ _ e=>e) hS2) fun r s' q=>?_⟩)
 ·refine wpAny_bind (wpAny_rule ?_)
  refine wpAny_bind ?_
  show wpAny _ _ (updateSeq S (·.push .none) >>= fun _=>updateSeq S (·.pop)) _ _ _
  refine wpAny_bind (wpAny_updateSeq hS2 rfl ?_)
  have hS3:=Heap.get?_update_self (Obj.mapSeq (·.push Value.none)) hS2 rfl
  refine wpAny_updateSeq (hz:=by seq_fits) hS3 rfl ?_
  have hS4:=Heap.get?_update_self (Obj.mapSeq (·.pop)) hS3 rfl
  have up:∀ b o,b ≠ S -> g'.get? b = some o -> ((g'.update S (Obj.mapSeq (·.push Value.none))).update S (Obj.mapSeq (·.pop))).get? b = some o:=fun b o nb e=>
   (Heap.get?_update_other _ _ (Ne.symm nb)).trans ((Heap.get?_update_other _ _ (Ne.symm nb)).trans e)
  refine wpAny_pure ⟨plainId_quiet PySem.F.plain_extend_loop _,codeAny_mono (key _ _ s.toks (Wk.frame 0 _ _ st fun b hb o e=>up b o (fun z=>hSf (z ▸ hb)) e) up hS4) fun r s' q=>?_⟩
  obtain ⟨vs,c',k1,k2,rfl,rfl,hl,hr⟩:=last r s' q
  exact wpAny_bind (wpAny_load hl (wpAny_pure hr))
 ·obtain ⟨vs,c',k1,k2,rfl,rfl,hl,hr⟩:=last r s' q
  exact wpAny_bind (wpAny_load hl (wpAny_pure hr))
end
section
variable {prog:Program} {w:World} {A:Around} {E:Value -> Shared -> Prop} {s:Shared}
theorem intsAre_vals:∀ {vs:List Value},(∀ v ∈ vs,∃ x u,v = Value.int x u) -> IntsAre vs (vs.map intOf)
 | [],_=>.nil
 | v :: vs,h=>by
  obtain ⟨x,u,rfl⟩:=h v List.mem_cons_self
  exact .cons x u (intsAre_vals fun v hv=>h v (List.mem_cons_of_mem _ hv))
theorem sorted_intset {a:Addr} {ss:List Int} {Q:Value -> Shared -> Prop} (hh:A.handled = none) (hS:IsInts w s.heap a (ledW w) ss) (hb:ss.length < 64)
  (h:∀ (D:Addr) (h':Heap) (tk:Nat) (d:Drawn) (out:List Value) (ss':List Int) (e:Nat),(∀ b o,s.heap.get? b = some o -> h'.get? b = some o) -> s.heap.objs.size <= D -> h'.get? D = some (seqObj "list" out.toArray e) ->
   IntsAre out ss' -> ss'.Perm ss -> ss'.Pairwise (· <= ·) -> Q (.ref D) { s with heap:=h',toks:=tk,drawn:=d }):
  wpAny (model prog w) A (call (.builtin "sorted") [.ref a]) Q E s:=by
 refine Calls.call_function_entry kind_sorted plain_sorted entry_sorted (args_sorted1 _) ?_
 unfold Builtin.«sorted»
 refine wpAny_bind (m:=checkCount "sorted" 1 1 _) (wpAny_pure ?_)
 refine wpAny_bind (collect_ints (A:=A.in1) hh hS (by omega) fun h1 tk d vs more old hv hp=>?_)
 have hl:vs.length = ss.length:=by have:=hp.length_eq; simpa using this
 refine wpAny_bind (wpAny_newList ?_ (by rw [hl,sizeLine_eq]; omega))
 have hD:(h1.push (seqObj "list" vs.toArray 0)).get? h1.objs.size = some (seqObj "list" vs.toArray 0):=Heap.get?_push_size _ rfl
 have hSA:=intsAre_vals hv
 refine wpAny_bind (wpAny_holding (wpAny_call_entry slot_list_sort ⟨_,hD,rfl⟩ entry_list_sort (list_sort_tree hD hSA (by omega) fun out ns' a1 a2 a3=>⟨_,rfl,?_⟩) (args_list_sort _)))
 obtain ⟨e,he⟩:=sortedHeap_at (out:=out) hD
 refine wpAny_pure ⟨_,rfl,h _ _ tk d out.toList ns' e (fun b o q=>?_) ?_ (by rw [Array.toArray_toList]; exact he) a1 (a2.trans hp) a3⟩
 ·have hb1:=Heap.lt_size (old b o q)
  rw [sortedHeap_old (Nat.ne_of_lt hb1) (by rw [size_push']; exact Nat.lt_succ_of_lt hb1)]
  exact Heap.get?_push_of_some _ (old b o q)
 ·exact Nat.le_of_lt more
end
section
variable {X:Cx}
theorem ints_at:∀ {vs:List Value} {ys:List Int},IntsAre vs ys -> ∀ (i:Nat) (v:Value),vs[i]? = some v -> ∃ x t,ys[i]? = some x /\ v = .int x t
 | _,_,.nil,i,v,h=>by simp at h
 | _,_,.cons y t r,0,v,h=>by simp at h; exact ⟨y,t,rfl,h.symm⟩
 | _,_,.cons y t r,i + 1,v,h=>by simpa using ints_at r i v (by simpa using h)
noncomputable def cSortInts (K:Frag) (te:TE):TE:=fun σ H Q=>te σ H fun x H1=>match x with
 | .ref p=>∃ ns:List Int,SqL K H1 p (ns.map V.int) /\ ns.length < 64 /\ ∀ (q:Addr) (ms:List Int),H1 q = none -> (∀ n,n ∈ ms ↔ n ∈ ns) -> ms.length <= ns.length -> ms.Pairwise (· <= ·) -> ms.Nodup -> Q (.ref q) (upd H1 q (.lst (ms.map V.int)))
 | _=>False
theorem call_set_sortedI {K:Frag} (hK:X.K = K) (hc:X.calm = true) {pins:List (Addr × Obj)} {s:Shared} {σ:St} {H:Hp} {p:Addr} {ns:List Int} {Q:VK} (I:Inv X pins σ H s)
  (h:SqL K H p (ns.map V.int)) (h1:ns.length < 64) (q:∀ (q:Addr) (ms:List Int),H q = none -> (∀ n,n ∈ ms ↔ n ∈ ns) -> ms.length <= ns.length -> ms.Pairwise (· <= ·) -> ms.Nodup -> Q (.ref q) (upd H q (.lst (ms.map V.int)))):
  wpAny (model X.prog X.w) X.A (call (.type "set") [.ref p]) (fun v s1=>wpAny (model X.prog X.w) X.A (call (.builtin "sorted") [v]) (EP X pins σ Q) X.xe s1) X.xe s:=by
 subst hK
 obtain ⟨its,rv,pl,_⟩:=I.list h
 have hss:IntsAre its ns:=intsAre_of rv
 have hlen:its.length = ns.length:=by have:=rv.length; simpa using this.symm
 have e63:scanBound = 4096:=rfl
 refine tokQ I.tk (set_of_ints (items:=its.toArray) (ss:=ns) (I.ok.hd hc) pl.isList (by simp [hlen]) (fun i v hv=>ints_at hss i v (by simpa using hv)) (by simp only [List.size_toArray,hlen,e63]; omega) fun h' tk hS old (htk:0 < tk)=>?_)
 have I1:Inv X pins σ H { s with heap:=h',toks:=tk }:=I.kept old
 have hdl:=dI_len ns
 refine tokQ I1.tk (sorted_intset (s:={ s with heap:=h',toks:=tk }) (I.ok.hd hc) hS (by omega) fun D h2 tk2 d out ss' e old2 hD ho hso hp hsd (htk2:0 < tk2)=>?_)
 have hl2:ss'.length = (dI ns).length:=hp.length_eq
 have I2:=I1.laid (a:=D) (o:=.lst (ss'.map V.int)) (t':=tk2) old2 hD ⟨by rw [List.length_map,sizeLine_eq]; omega,out,e,vals_ints hso,ho⟩
 exact ⟨.ref D,_,I2.drew d,rfl,q D ss' (I1.hok.fresh hD) (fun n=>by rw [hp.mem_iff,dI_mem]) (by omega) hsd (hp.nodup_iff.mpr (dI_nodup ns))⟩
theorem qe_sortsetI {K:Frag} {e:Expr} {te:TE} {p p2 pos pos2:Pos} (hK:X.K = K) (hc:X.calm = true) (hg:Gl X "sorted") (hm:X.mg "sorted" = none) (hg2:Gl X "set") (hm2:X.mg "set" = none) (he:PE X e te)
  (hs:starEach [e] X.env = [(false,eval e X.env)]:=by rfl)
  (hs2:starEach [Expr.Call (.Name "set" p2) [e] [] pos2] X.env = [(false,eval (Expr.Call (.Name "set" p2) [e] [] pos2) X.env)]:=by rfl):
  PE X (.Call (.Name "sorted" p) [.Call (.Name "set" p2) [e] [] pos2] [] pos) (cSortInts K te):=by
 intro pins s σ H Q I h
 refine wpAny_Call_Name_kw (ld_blt I hg hm bb_sorted ?_ (by decide) (by decide))
 refine PyProof.Rows.callWith_builtin1 ?_ hs2 rfl
 rw [hs2]
 show wpAny _ _ (spliced [(false,eval (Expr.Call (.Name "set" p2) [e] [] pos2) X.env)]) _ _ s
 refine Calls.spliced_cons ?_
 refine wpAny_Call_Name_kw (ld_blt I hg2 hm2 bb_set ?_ (by decide) (by decide))
 refine PyProof.Rows.callWith_type1 ?_ hs rfl
 rw [hs]
 show wpAny _ _ (spliced [(false,eval e X.env)]) _ _ s
 refine Calls.spliced_cons (thn (he pins s σ H _ I h) fun u s1 ⟨x,H1,I1,r1,q1⟩=>Calls.spliced_nil ?_)
 match x,r1,q1 with
 | .ref p,rfl,⟨ls,a1,a2,a3⟩=>exact thn (call_set_sortedI hK hc I1 a1 a2 a3) fun v s2 q=>Calls.spliced_nil q
theorem a_cSortInts {K:Frag} {te:TE} {σ:St} {H:Hp} {Q:VK}:cSortInts K te σ H Q = te σ H fun x H1=>match x with
 | .ref p=>∃ ns:List Int,SqL K H1 p (ns.map V.int) /\ ns.length < 64 /\ ∀ (q:Addr) (ms:List Int),H1 q = none -> (∀ n,n ∈ ms ↔ n ∈ ns) -> ms.length <= ns.length -> ms.Pairwise (· <= ·) -> ms.Nodup -> Q (.ref q) (upd H1 q (.lst (ms.map V.int)))
 | _=>False:=rfl
end
section
variable {prog:Program} {w:World} {A:Around} {E:Value -> Shared -> Prop} {s:Shared}
theorem nextOf_tup {it:Addr} {Q:Value -> Shared -> Prop} (ty:s.TypeIs (.ref it) "tuple_iterator")
  (q:wpAny (model prog w) A.in1 (Builtin.«tuple_iterator.__next__» ⟨[.ref it],[]⟩) (fun fin s'=>∃ v,fin = .done (.ret v) /\ Q v s') E s):wpAny (model prog w) A (Builtin.SmallTypes.nextOf (.ref it)) Q E s:=by
 have sl:=F.slot_tuple_iterator_next
 unfold Builtin.SmallTypes.nextOf
 refine wpAny_bind (wpAny_callSpecial?_slot (name:=Str.ofString "__next__") ty sl (wpAny_call_entry sl ty F.entry_tuple_iterator_next (wpAny_mono q (fun fin s' ⟨v,e,z⟩=>⟨v,e,wpAny_pure z⟩) fun _ _ z=>z) (F.args_tuple_iterator_next_1 _)))
theorem nextOf_tup_item {it t:Addr} {i:Nat} {ys:Array Value} {x:Value} {Q:Value -> Shared -> Prop} (st:s.heap.IsTupleIter it t i) (tu:s.heap.IsTuple t ys) (e:ys[i]? = some x)
  (q:∀ h',h'.IsTupleIter it t (i + 1) -> Heap.SameBut it s.heap h' -> Q x { s with heap:=h' }):wpAny (model prog w) A (Builtin.SmallTypes.nextOf (.ref it)) Q E s:=by
 apply nextOf_tup st.typeIs
 obtain ⟨ob,g1,g2,g3⟩:=st
 obtain ⟨tb,k1,_,kn,k2⟩:=tu
 change wpAny _ _ (field (.ref it) 0 >>= _) _ _ _
 apply wpAny_bind
 apply wpAny_field g1 g3 (x:=.ref t) rfl
 have nn:(Value.ref t == Value.none) = false:=rfl
 simp only [nn,Bool.false_eq_true,if_false]
 apply wpAny_bind
 apply wpAny_field g1 g3 (x:=.int i 0) rfl
 apply wpAny_bind
 apply wpAny_seqItems k1 k2
 simp only [Int.toNat_natCast,e]
 apply wpAny_bind
 apply wpAny_setField g1 g3 (by simp)
 apply wpAny_pure
 refine ⟨x,rfl,q _ ⟨_,Heap.get?_update_self _ g1 (Obj.isFreed_of_fields (Obj.data_mapFields g3 _)),(Obj.cls_mapFields ..).trans g2,?_⟩ (Heap.SameBut.update ..)⟩
 rw [Obj.data_mapFields g3]
 simp [rawInt]
theorem nextOf_tup_end {it t:Addr} {i:Nat} {ys:Array Value} {Q:Value -> Shared -> Prop} (hh:A.handled = none) (st:s.heap.IsTupleIter it t i) (tu:s.heap.IsTuple t ys) (e:ys[i]? = none)
  (q:∀ h' e,Heap.ExtBut it s.heap h' -> (∃ o,h'.get? e = some o /\ o.cls = .type "StopIteration") -> E (.ref e) { s with heap:=h' }):wpAny (model prog w) A (Builtin.SmallTypes.nextOf (.ref it)) Q E s:=by
 apply nextOf_tup st.typeIs
 obtain ⟨ob,g1,g2,g3⟩:=st
 obtain ⟨tb,k1,_,kn,k2⟩:=tu
 change wpAny _ _ (field (.ref it) 0 >>= _) _ _ _
 apply wpAny_bind
 apply wpAny_field g1 g3 (x:=.ref t) rfl
 have nn:(Value.ref t == Value.none) = false:=rfl
 simp only [nn,Bool.false_eq_true,if_false]
 apply wpAny_bind
 apply wpAny_field g1 g3 (x:=.int i 0) rfl
 apply wpAny_bind
 apply wpAny_seqItems k1 k2
 simp only [Int.toNat_natCast,e]
 apply wpAny_bind
 apply wpAny_rule
 apply wpAny_bind
 apply wpAny_setField g1 g3 (by simp)
 have hh1:A.in1.handled = none:=hh
 exact raise_stop hh1 fun h2 x k c=>q h2 x (fun b o nb z=>k b o ((Heap.SameBut.update s.heap it _).extBut b o nb z)) c
end
def TGo (H:Hp) (a:Addr) (i:Nat):Prop:=∃ xs v,H a = some (.tup xs) /\ xs[i]? = some v
def TAt (H:Hp) (a:Addr) (i:Nat) (v:V):Prop:=∀ xs,H a = some (.tup xs) -> xs[i]? = some v
def TEnd (H:Hp) (a:Addr) (i:Nat):Prop:=∃ xs,H a = some (.tup xs) /\ xs.length <= i
theorem tupIt_obj {h:Heap} {a it:Addr} {i:Nat} (st:h.IsTupleIter it a i):∃ o,h.get? it = some o /\ (∀ v,o.data ≠ .cell v) /\ o.cls ≠ .type "list" /\ o.cls ≠ .type "zip" /\ o.cls ≠ .type "tuple" := by
 obtain ⟨o,e,c,d⟩:=st
 refine ⟨o,e,(fun v z=>by rw [d] at z; cases z),?_⟩
 rw [c]
 decide
section
variable {X:Cx} {pins:List (Addr × Obj)} {σ:St} {H:Hp} {s:Shared} {A:Around}
theorem tup_nx (I:Inv X pins σ H s) {a it:Addr} {i:Nat} (st:s.heap.IsTupleIter it a i) (go:TGo H a i):
  ∃ (f:List Addr) (Sa Sb:Heap -> Prop) (P:Value -> Prop),Nx X.prog X.w A it f Sa Sb P /\ Sa s.heap /\ (∀ c ∈ f,c = it \/ ((∃ o,s.heap.get? c = some o /\ o.cls = .type "tuple") /\ H c ≠ none)) /\ (∀ h,Sb h -> h.IsTupleIter it a (i + 1)) /\ ∀ v,P v -> ∃ x,RelV x v /\ TAt H a i x:=by
 obtain ⟨xs,v,hq,hv⟩:=go
 obtain ⟨its,rv,pl,hz⟩:=I.tuple (SqT.of hq)
 obtain ⟨u,hu,ru⟩:=rv.get hv
 have pl:s.heap.IsTuple a its.toArray:=pl
 obtain ⟨o,e,c,n,hd⟩:=id pl
 have hne:a ≠ it:=by
  rintro rfl
  obtain ⟨o',e',c',_⟩:=st
  rw [e] at e'
  cases e'
  rw [c] at c'
  exact absurd c' (by decide)
 refine ⟨[it,a],fun h=>h.IsTupleIter it a i /\ h.IsTuple a its.toArray,fun h=>h.IsTupleIter it a (i + 1) /\ h.IsTuple a its.toArray,fun z=>z = u,⟨?_,?_,?_⟩,⟨st,pl⟩,?_,fun h q=>q.1,?_⟩
 ·rintro h h' ⟨⟨o1,s1,r1⟩,⟨o2,s2,r2⟩⟩ k
  exact ⟨⟨o1,k it (by simp) o1 s1,r1⟩,⟨o2,k a (by simp) o2 s2,r2⟩⟩
 ·rintro h h' ⟨⟨o1,s1,r1⟩,⟨o2,s2,r2⟩⟩ k
  exact ⟨⟨o1,k it (by simp) o1 s1,r1⟩,⟨o2,k a (by simp) o2 s2,r2⟩⟩
 ·intro s Q E st hQ
  exact nextOf_tup_item st.1 st.2 (x:=u) (by simpa using hu) fun h' st' sb=>hQ _ h' s.toks rfl ⟨st',st.2.extBut sb.extBut hne⟩ sb
 ·intro c' hc
  rcases (by simpa using hc:c' = it \/ c' = a) with z | z
  ·exact .inl z
  ·subst z
   exact .inr ⟨⟨o,e,c⟩,by rw [hq]; simp⟩
 ·rintro z rfl
  exact ⟨v,ru,fun ys hy=>by rw [hq] at hy; cases hy; exact hv⟩
theorem tup_nd (I:Inv X pins σ H s) (hh:A.handled = none) {a it:Addr} {i:Nat} (st:s.heap.IsTupleIter it a i) (en:TEnd H a i):
  ∃ (f:List Addr) (Sa:Heap -> Prop),Nd X.prog X.w A it f Sa /\ Sa s.heap /\ (∀ c ∈ f,c = it \/ ((∃ o,s.heap.get? c = some o /\ o.cls = .type "tuple") /\ H c ≠ none)):=by
 obtain ⟨xs,hq,hv⟩:=en
 obtain ⟨its,rv,pl,hz⟩:=I.tuple (SqT.of hq)
 have pl:s.heap.IsTuple a its.toArray:=pl
 obtain ⟨o,e,c,n,hd⟩:=id pl
 have hl:=rv.length
 refine ⟨[it,a],fun h=>h.IsTupleIter it a i /\ h.IsTuple a its.toArray,⟨?_,?_⟩,⟨st,pl⟩,?_⟩
 ·rintro h h' ⟨⟨o1,s1,r1⟩,⟨o2,s2,r2⟩⟩ k
  exact ⟨⟨o1,k it (by simp) o1 s1,r1⟩,⟨o2,k a (by simp) o2 s2,r2⟩⟩
 ·intro s Q E st hE
  exact nextOf_tup_end hh st.1 st.2 (by simp; omega) hE
 ·intro c' hc
  rcases (by simpa using hc:c' = it \/ c' = a) with z | z
  ·exact .inl z
  ·subst z
   exact .inr ⟨⟨o,e,c⟩,by rw [hq]; simp⟩
end
noncomputable def ItzT (a b:Addr):It:=⟨fun i H=>TGo H a i /\ TGo H b i,fun i H v H'=>∃ T x y,v = .ref T /\ H T = none /\ H' = upd H T (.tup [x,y]) /\ TAt H a i x /\ TAt H b i y,
 fun i H=>TEnd H a i \/ (TGo H a i /\ TEnd H b i)⟩
def ZipTt (z TI TO i1 i2:Addr) (S1 S2:Addr) (i:Nat) (h:Heap):Prop:=∃ a b,IsZip h z TI TO .none /\ IsPair h TI (.ref i1) (.ref i2) /\ IsPair h TO a b /\ h.IsTupleIter i1 S1 i /\ h.IsTupleIter i2 S2 i
theorem off_ofT {H:Hp} {h:Heap} {f:List Addr} {z TI TO i1 i2:Addr} {S2:Addr} {k:Nat} (hTn:H TO = none) (hz:IsZip h z TI TO .none) (h2:h.IsTupleIter i2 S2 k) (n1:i1 ≠ z) (n2:i1 ≠ TO) (n3:i1 ≠ i2)
  (m:∀ c ∈ f,c = i1 \/ ((∃ o,h.get? c = some o /\ o.cls = .type "tuple") /\ H c ≠ none)):∀ c ∈ f,c ≠ z /\ c ≠ TO /\ c ≠ i2:=fun c hc=>by
 rcases m c hc with e | ⟨⟨o,e,c1⟩,hn⟩
 ·subst e
  exact ⟨n1,n2,n3⟩
 ·refine ⟨?_,?_,?_⟩
  ·rintro rfl
   rw [hz] at e
   cases e
   exact absurd (show Value.type "zip" = Value.type "tuple" from c1) (by decide)
  ·rintro rfl
   exact hn hTn
  ·rintro rfl
   obtain ⟨o',e',_,_,_,q⟩:=tupIt_obj h2
   rw [e] at e'
   cases e'
   exact q c1
theorem turn_zipT {P:Program} {w:World} {K:Frag} {elts:List Expr} {kk:Nat} {pos:Pos} {z TI TO i1 i2:Addr} (D:ZAp z TI TO i1 i2) (S1 S2:Addr):
  Turn P w K (.Tuple elts kk pos) (ItzT S1 S2) [z,TI,TO,i1,i2] z (ZipTt z TI TO i1 i2 S1 S2) where
 mem:=by simp
 obj:=fun i h st b hb=>by
  obtain ⟨a,c,hz,hTI,hTO,h1,h2⟩:=st
  simp only [List.mem_cons,List.not_mem_nil,or_false] at hb
  rcases hb with rfl | rfl | rfl | rfl | rfl
  ·exact ⟨_,hz,fun v q=>by have q':Data.fields _ = Data.cell v:=q; cases q'⟩
  ·exact ⟨_,hTI,fun v q=>by have q':Data.seq _ _ = Data.cell v:=q; cases q'⟩
  ·exact ⟨_,hTO,fun v q=>by have q':Data.seq _ _ = Data.cell v:=q; cases q'⟩
  ·obtain ⟨o,e,q,_⟩:=(tupIt_obj h1)
   exact ⟨o,e,q⟩
  ·obtain ⟨o,e,q,_⟩:=(tupIt_obj h2)
   exact ⟨o,e,q⟩
 keep:=fun i h h' st k=>by
  obtain ⟨a,c,hz,hTI,hTO,h1,h2⟩:=st
  exact ⟨a,c,k z (by simp) _ hz,k TI (by simp) _ hTI,k TO (by simp) _ hTO,h1.at fun o e=>k i1 (by simp) o e,h2.at fun o e=>k i2 (by simp) o e⟩
 item:=by
  intro X hP hw hK hc i pins s σ H E I hf st hg
  subst hP hw hK
  obtain ⟨a,b,hz,hTI,hTO,h1,h2⟩:=st
  have hTn:H TO = none:=(hf TO (by simp)).1
  obtain ⟨g1,g2⟩:=hg
  obtain ⟨f1,Sa,Sb,P1,n1,a1,m1,b1,r1⟩:=tup_nx (A:=X.A.in1) I h1 g1
  obtain ⟨f2,Sc,Sd,P2,n2,a2,m2,b2,r2⟩:=tup_nx (A:=X.A.in1) I h2 g2
  refine tokQ I.tk (pyNext_zip_item hz rfl (zip_next_itemN D n1 n2 (off_ofT hTn hz h2 D.i1z D.TOi1.symm D.i12 m1) (off_ofT hTn hz h1 D.i2z D.TOi2.symm D.i12.symm m2) hz hTI hTO a1 a2 fun x y h' tk p1 p2 z1 z2 q1 q2 z3 z4 kp (htk:0 < tk)=>?_))
  obtain ⟨vx,rx,ax⟩:=r1 x p1
  obtain ⟨vy,ry,ay⟩:=r2 y p2
  have fresh:H s.heap.objs.size = none:=I.hok.fresh (Nat.le_refl _)
  have off:∀ {c o},s.heap.get? c = some o -> c ≠ s.heap.objs.size:=fun e=>Nat.ne_of_lt (Heap.lt_size e)
  refine ⟨_,rfl,wpAny_letOwnedTupleGo_zip z1 fun h'' z1' sb=>?_⟩
  replace sb:Heap.SameBut z h' h'':=sb
  have hT:IsPair h'' s.heap.objs.size x y:=sb.extBut _ _ (Ne.symm (off hz)) z3
  have I1:Inv X pins σ (upd H s.heap.objs.size (.tup [vx,vy])) { s with heap:=h'',toks:=tk }:=by
   refine I.turnedLaid (its:=[z,TO,i1,i2]) (fun c o hc' e=>?_) (fun c hc'=>hf c ?_) (Nat.le_refl _) ?_
   ·simp only [List.mem_cons,List.not_mem_nil,or_false,not_or] at hc'
    exact sb.extBut _ _ hc'.1 (kp c o hc'.1 hc'.2.1 hc'.2.2.1 hc'.2.2.2 e)
   ·simp only [List.mem_cons,List.not_mem_nil,or_false] at hc' ⊢
    rcases hc' with q | q | q | q
    ·exact .inl q
    ·exact .inr (.inr (.inl q))
    ·exact .inr (.inr (.inr (.inl q)))
    ·exact .inr (.inr (.inr (.inr q)))
   ·exact ⟨by show 2 <= sizeLine; decide,[x,y],.cons rx (.cons ry .nil),_,hT,rfl,_,rfl⟩
  refine ⟨.ref s.heap.objs.size,_,I1,rfl,⟨_,vx,vy,rfl,fresh,rfl,ax,ay⟩,⟨x,y,z1',?_,?_,?_,?_⟩,fun c hc'=>?_⟩
  ·exact sb.extBut _ _ D.TIz (kp _ _ D.TIz D.TITO D.TIi1 D.TIi2 hTI)
  ·exact sb.extBut _ _ D.TOz z2
  ·exact (b1 h' q1).at fun o e=>sb.extBut _ _ D.i1z e
  ·exact (b2 h' q2).at fun o e=>sb.extBut _ _ D.i2z e
  ·have ne:c ≠ s.heap.objs.size:=by
    simp only [List.mem_cons,List.not_mem_nil,or_false] at hc'
    rcases hc' with rfl | rfl | rfl | rfl | rfl
    ·exact off hz
    ·exact off hTI
    ·exact off hTO
    ·obtain ⟨o,e,_⟩:=(tupIt_obj h1)
     exact off e
    ·obtain ⟨o,e,_⟩:=(tupIt_obj h2)
     exact off e
   rw [upd_ne ne]
   exact (hf c hc').1
 done:=by
  intro X hP hw hK hc i pins s σ H E I hf st hg
  subst hP hw hK
  obtain ⟨a,b,hz,hTI,hTO,h1,h2⟩:=st
  have hTn:H TO = none:=(hf TO (by simp)).1
  have hh:X.A.in1.handled = none:=I.ok.hd hc
  have fin:∀ (h':Heap) (tk:Nat),0 < tk -> (∀ c o,c ≠ z -> c ≠ TO -> c ≠ i1 -> c ≠ i2 -> s.heap.get? c = some o -> h'.get? c = some o) -> Inv X pins σ H { s with heap:=h',toks:=tk }:=fun h' tk htk kp=>
   I.turnedL (its:=[z,TO,i1,i2]) (fun c o hc' e=>by
    simp only [List.mem_cons,List.not_mem_nil,or_false,not_or] at hc'
    exact kp c o hc'.1 hc'.2.1 hc'.2.2.1 hc'.2.2.2 e) (fun c hc'=>hf c (by
    simp only [List.mem_cons,List.not_mem_nil,or_false] at hc' ⊢
    rcases hc' with q | q | q | q
    ·exact .inl q
    ·exact .inr (.inr (.inl q))
    ·exact .inr (.inr (.inr (.inl q)))
    ·exact .inr (.inr (.inr (.inr q)))))
  rcases hg with e1 | ⟨g1,e2⟩
  ·obtain ⟨f1,Sa,n1,a1,m1⟩:=tup_nd I hh h1 e1
   exact tokQ I.tk (pyNext_zip_end hz rfl (zip_next_end1 D n1 (off_ofT hTn hz h2 D.i1z D.TOi1.symm D.i12 m1) hz hTI a1 fun h' e tk kp he=>⟨e,rfl,he,fun htk=>⟨rfl,fin h' tk htk kp⟩⟩))
  ·obtain ⟨f1,Sa,Sb,P1,n1,a1,m1,b1,r1⟩:=tup_nx (A:=X.A.in1) I h1 g1
   obtain ⟨f2,Sc,n2,a2,m2⟩:=tup_nd I hh h2 e2
   exact tokQ I.tk (pyNext_zip_end hz rfl (zip_next_end2 D n1 n2 (off_ofT hTn hz h2 D.i1z D.TOi1.symm D.i12 m1) (off_ofT hTn hz h1 D.i2z D.TOi2.symm D.i12.symm m2) hz hTI hTO a1 a2 fun h' e tk kp he=>⟨e,rfl,he,fun htk=>⟨rfl,fin h' tk htk kp⟩⟩))
 self:=fun _ _ _ _ _ st h=>by
  obtain ⟨a,b,hz,_⟩:=st
  exact wpAny_pyIter_zip hz h
noncomputable abbrev tupIt0 (a:Addr):Obj:={ cls:=.type "tuple_iterator",data:=.fields #[.ref a,.int 0 0] }
noncomputable abbrev yH1 (h:Heap) (a:Addr):Heap:=h.push (tupIt0 a)
noncomputable abbrev yH2 (h:Heap) (a b:Addr):Heap:=(yH1 h a).push (tupIt0 b)
noncomputable abbrev yH3 (h:Heap) (a b:Addr):Heap:=(yH2 h a b).push { cls:=.type "tuple",data:=.seq #[.ref h.objs.size,.ref (yH1 h a).objs.size] }
noncomputable abbrev yH4 (h:Heap) (a b:Addr):Heap:=(yH3 h a b).push { cls:=.type "tuple",data:=.seq #[.none,.none] }
noncomputable abbrev yH5 (h:Heap) (a b:Addr):Heap:=(yH4 h a b).push { cls:=.type "zip",data:=.fields #[.none,.bool false,.bool false,.ref (yH2 h a b).objs.size,.ref (yH3 h a b).objs.size] }
theorem meets_zip_newT (a b:Addr):
  Meets (Builtin.«zip.__new__» ⟨[.type "zip",.ref a,.ref b],[]⟩) (fun _ R s=>(∃ x,s.heap.IsTuple a x) /\ (∃ x,s.heap.IsTuple b x) /\
   R (.ok (.ret (.ref (yH4 s.heap a b).objs.size))) { s with heap:=yH5 s.heap a b }):=
 .of_wp fun prog w A R s h=>by
  obtain ⟨hp,g,d,tk,os⟩:=s; obtain ⟨⟨x1,hl1⟩,⟨x2,hl2⟩,h⟩:=h
  have hsub:=sub_zip
  have hL1:Heap.IsTuple (Shared.heap ⟨hp,g,d,tk,os⟩) a x1:=hl1
  have hL2:Heap.IsTuple (Shared.heap ⟨hp.push (tupIt0 a),g,d,tk,os⟩) b x2:=hl2.push _
  wp_walk using wpAny_pyIter_tuple hL1,wpAny_pyIter_tuple hL2
  exact ⟨_,rfl,h⟩
section
variable {prog:Program} {w:World} {A:Around} {E:Value -> Shared -> Prop} {s:Shared}
theorem call_zipT {a b:Addr} {Q:Value -> Shared -> Prop} (hl1:∃ x,s.heap.IsTuple a x) (hl2:∃ x,s.heap.IsTuple b x)
  (h:∀ h',ZipTt (s.heap.objs.size + 4) (s.heap.objs.size + 2) (s.heap.objs.size + 3) s.heap.objs.size (s.heap.objs.size + 1) a b 0 h' -> (∀ c o,s.heap.get? c = some o -> h'.get? c = some o) -> Q (.ref (s.heap.objs.size + 4)) { s with heap:=h' }):
  wpAny (model prog w) A (call (.type "zip") [.ref a,.ref b]) Q E s:=by
 refine callType_new F.called_zip (by decide) (F.typeCall_zip_2 _ _) (F.newCall_zip_2 _ _) (fun obj=>F.args_object_init_3 obj _ _) F.entry_zip_new
  (meets_zip_newT a b) ⟨hl1,hl2,?_⟩
 have z1:(yH1 s.heap a).objs.size = s.heap.objs.size + 1:=Heap.size_push ..
 have z2:(yH2 s.heap a b).objs.size = s.heap.objs.size + 2:=by rw [Heap.size_push,z1]
 have z3:(yH3 s.heap a b).objs.size = s.heap.objs.size + 3:=by rw [Heap.size_push,z2]
 have z4:(yH4 s.heap a b).objs.size = s.heap.objs.size + 4:=by rw [Heap.size_push,z3]
 have g5:(yH5 s.heap a b).get? (yH4 s.heap a b).objs.size = some _:=Heap.get?_push_size _ rfl
 have g4:(yH5 s.heap a b).get? (yH3 s.heap a b).objs.size = some _:=Heap.get?_push_of_some _ (Heap.get?_push_size _ rfl)
 have g3:(yH5 s.heap a b).get? (yH2 s.heap a b).objs.size = some _:=Heap.get?_push_of_some _ (Heap.get?_push_of_some _ (Heap.get?_push_size _ rfl))
 have g2:(yH5 s.heap a b).get? (yH1 s.heap a).objs.size = some (tupIt0 b):=Heap.get?_push_of_some _ (Heap.get?_push_of_some _ (Heap.get?_push_of_some _ (Heap.get?_push_size _ rfl)))
 have g1:(yH5 s.heap a b).get? s.heap.objs.size = some (tupIt0 a):=Heap.get?_push_of_some _ (Heap.get?_push_of_some _ (Heap.get?_push_of_some _ (Heap.get?_push_of_some _ (Heap.get?_push_size _ rfl))))
 show _ /\ _
 rw [z2,z3,z4] at g5
 rw [z1,z2] at g3
 rw [z3] at g4
 rw [z1] at g2
 rw [z4]
 exact ⟨⟨_,g5,rfl⟩,h _ ⟨_,_,g5,g3,g4,⟨_,g1,rfl,rfl⟩,⟨_,g2,rfl,rfl⟩⟩ fun c o x=>
  Heap.get?_push_of_some _ (Heap.get?_push_of_some _ (Heap.get?_push_of_some _ (Heap.get?_push_of_some _ (Heap.get?_push_of_some _ x))))⟩
end
section
variable {X:Cx}
noncomputable def cZipA (K:Frag) (ta tb:TE):TI:=fun σ H R=>ta σ H fun x H1=>tb σ H1 fun y H2=>(srcK K H2 x fun S1=>srcK K H2 y fun S2=>R (Itz K S1 S2) H2) \/ ∃ a b,x = .ref a /\ y = .ref b /\ (∃ xs,H2 a = some (.tup xs)) /\ (∃ xs,H2 b = some (.tup xs)) /\ R (ItzT a b) H2
theorem qi_zipA {a b:Expr} {ta tb:TE} {elts:List Expr} {kk:Nat} {tpos p pos:Pos} {K:Frag} (hK:X.K = K) (hg:Gl X "zip") (hm:X.mg "zip" = none) (ha:PE X a ta) (hb:PE X b tb) (hs:starEach [a,b] X.env = [(false,eval a X.env),(false,eval b X.env)]:=by rfl) (hs2:starEach [b] X.env = [(false,eval b X.env)]:=by rfl):
  PI X (.Tuple elts kk tpos) (.Call (.Name "zip" p) [a,b] [] pos) (cZipA K ta tb):=by
 subst hK
 intro pins s σ H R I h
 have hA:PA X [a,b] _:=pa_cons ha.mono (pa_cons hb.mono pa_nil hs2) (by rw [hs,hs2])
 refine Call_ (ld_blt I hg hm boot_zip (PyProof.Rows.callWith_type1 (thn (hA pos pins s σ H (fun vs H2=>∃ x y,vs = [x,y] /\ ((srcK X.K H2 x fun S1=>srcK X.K H2 y fun S2=>R (Itz X.K S1 S2) H2) \/ ∃ a b,x = .ref a /\ y = .ref b /\ (∃ xs,H2 a = some (.tup xs)) /\ (∃ xs,H2 b = some (.tup xs)) /\ R (ItzT a b) H2)) I ⟨_,h,fun x H1 z=>⟨_,z,fun y H2 z=>⟨x,y,rfl,z⟩⟩⟩) fun us s1 ⟨vs,H1,I1,r1,q1⟩=>?_) (by rw [hs,hs2]) (by rw [hs2]; rfl)))
 obtain ⟨v1,v2,e,q⟩:=q1
 subst e
 cases r1 with
 | cons r rr=>
  cases rr with
  | cons r' rr=>
   cases rr
   have fp:∀ c ∈ [s1.heap.objs.size + 4,s1.heap.objs.size + 2,s1.heap.objs.size + 3,s1.heap.objs.size,s1.heap.objs.size + 1],FpOk X pins H1 c:=fun c hc=>by
    have hc':s1.heap.objs.size <= c:=by
     simp only [List.mem_cons,List.not_mem_nil,or_false] at hc
     rcases hc with rfl | rfl | rfl | rfl | rfl <;> omega
    exact I1.fpOk hc' (I1.hok.fresh hc')
   rcases q with q | ⟨a1,b1,rfl,rfl,⟨xs,e1⟩,⟨ys,e2⟩,q⟩
   ·obtain ⟨S1,o1,q⟩:=srcK_ex q
    obtain ⟨S2,o2,q⟩:=srcK_ex q
    obtain ⟨t1,rfl,k1⟩:=srcOf_val I1 o1 r
    obtain ⟨t2,rfl,k2⟩:=srcOf_val I1 o2 r'
    refine call_zipS k1 k2 fun h' st kp=>?_
    have st':=st
    obtain ⟨_,_,hz,_⟩:=st'
    exact wpAny_pyIter_zip hz ⟨_,_,_,Itz X.K S1 S2,H1,rfl,I1.kept (t':=s1.toks) kp,turn_zip (zap_new _) S1 S2,st,fp,q⟩
   ·cases r
    cases r'
    obtain ⟨_,_,p1,_⟩:=I1.tuple (SqT.of e1)
    obtain ⟨_,_,p2,_⟩:=I1.tuple (SqT.of e2)
    refine call_zipT ⟨_,p1⟩ ⟨_,p2⟩ fun h' st kp=>?_
    have st':=st
    obtain ⟨_,_,hz,_⟩:=st'
    exact wpAny_pyIter_zip hz ⟨_,_,_,ItzT a1 b1,H1,rfl,I1.kept (t':=s1.toks) kp,turn_zipT (zap_new _) a1 b1,st,fp,q⟩
theorem a_cZipA {K:Frag} {ta tb:TE} {σ:St} {H:Hp} {R:It -> Hp -> Prop}:cZipA K ta tb σ H R = ta σ H fun x H1=>tb σ H1 fun y H2=>(srcK K H2 x fun S1=>srcK K H2 y fun S2=>R (Itz K S1 S2) H2) \/ ∃ a b,x = .ref a /\ y = .ref b /\ (∃ xs,H2 a = some (.tup xs)) /\ (∃ xs,H2 b = some (.tup xs)) /\ R (ItzT a b) H2:=rfl
end
theorem bb_all:bootBuiltins "all" = some (.builtin "all"):=by decide +kernel
section
variable {K:Frag} {J:It} {g:TG} {tc:TT} {te:TE} {σc:St} {D:Addr} {Q:VK} {H:Hp}
theorem comp_genD {α:Type} (xs:List α) (R:α -> V -> Hp -> Prop) (hfree:H D = none) (hn:xs.length <= 100000) (hgo:∀ i H1,i < xs.length -> Same H H1 -> J.go i H1) (hst:∀ H1,Same H H1 -> J.stop xs.length H1)
  (hy:∀ i H1 v H2,i < xs.length -> J.yld i H1 v H2 -> Same H1 H2)
  (mono:∀ x v H1 H2 acc,H1 D = some (.lst acc) -> (∀ b o,b ≠ D -> H1 b = some o -> H2 b = some o) -> R x v H1 -> R x v H2)
  (hs:∀ i x v H1 H2 (out:VK) (non:Hp -> Prop),xs[i]? = some x -> Same H H1 -> (∀ b,H1 b = none -> b ≠ D) -> J.yld i H1 v H2 -> (∀ v H6,Same H2 H6 -> R x v H6 -> out v H6) ->
   g v σc H2 fun σ4 H4=>tc σ4 H4 fun b H5=>if b = true then te σ4 H5 out else non H5)
  (hq:∀ H' vs,Same H H' -> H' D = some (.lst vs) -> Paired (fun x v=>R x v H') xs vs -> Q (.ref D) H'):compW J g tc te σc D Q H:=by
 refine ⟨fun i m acc H2=>m = xs.length - i /\ i <= xs.length /\ Paired (fun x v=>R x v H2) (xs.take i) acc /\ Same H H2 /\ H2 D = some (.lst acc),⟨xs.length,by simp,Nat.zero_le _,.nil,same_new hfree _,upd_same⟩,?_⟩
 rintro i m acc H2 ⟨rfl,hi,pr,sm,hD⟩
 have len:acc.length <= i:=by
  have a:=pr.length
  rw [List.length_take] at a
  omega
 by_cases hlt:i < xs.length
 ·refine .inr ⟨hgo i H2 hlt sm,fun x H3 y=>?_⟩
  have s3:=hy i H2 x H3 hlt y
  have hD3:=s3 _ _ hD
  refine hs i xs[i] x _ _ _ _ (List.getElem?_eq_getElem hlt) sm (fun b hb z=>by rw [z,hD] at hb; cases hb) y fun v H6 s6 r=>?_
  refine ⟨s6 _ _ hD3,Nat.lt_of_le_of_lt len (sizeBig (by omega)),xs.length - (i + 1),by omega,rfl,hlt,?_,same_upd (sm.trans (s3.trans s6)) hfree,upd_same⟩
  rw [List.take_add_one,List.getElem?_eq_getElem hlt]
  have lift:∀ {l:List α} {vs:List V} {z:α} {u:V} {F G:α -> V -> Prop},(∀ a b,F a b -> G a b) -> Paired F l vs -> G z u -> Paired G (l ++ [z]) (vs ++ [u]):=by
   intro l vs z u F G f pp r
   induction pp with
   | nil=>exact .cons r .nil
   | cons r' _ ih=>exact .cons (f _ _ r') ih
  exact lift (fun _ _ r'=>mono _ _ H2 _ acc hD (fun b o nb q=>by rw [upd_ne nb]; exact s6 _ _ (s3 _ _ q)) r') pr (mono _ _ H6 _ acc (s6 _ _ hD3) (fun b o nb q=>by rw [upd_ne nb]; exact q) r)
 ·have hi':i = xs.length:=by omega
  subst hi'
  rw [List.take_length] at pr
  exact .inl ⟨hst H2 sm,hq H2 acc sm hD pr⟩
end
section
variable {X:Cx} {o e:Expr} {to te:TE} {apos cpos:Pos}
noncomputable def cExtend (to te:TE):TE:=fun σ H Q=>to σ H fun x H1=>match x with
 | .ref l=>(∃ xs,H1 l = some (.lst xs)) /\ te σ H1 fun y H2=>match y with
  | .ref b=>∃ xs zs,H2 l = some (.lst xs) /\ H2 b = some (.lst zs) /\ xs.length + zs.length <= sizeLine /\ Q .non (upd H2 l (.lst (xs ++ zs)))
  | _=>False
 | _=>False
theorem qe_extend (ho:PE X o to) (he:PE X e te) (hbase:attributeBase o "extend" X.env (eval o X.env) = eval o X.env:=by rfl)
  (hfew:((backTo cpos (starEach [e] X.env)).all (fun x=>!x.1) && (backToKw cpos (keywordEach [] X.env)).all (fun x=>x.1.isSome) && decide ([e].length + ([]:List Keyword).length + (if ([]:List Keyword).isEmpty then 0 else 1) < 30)) = true:=by rfl)
  (hline:(apos.endLine == cpos.line) = true:=by rfl) (hs:starEach [e] X.env = (false,eval e X.env) :: starEach [] X.env:=by rfl) (hplain:(backTo cpos (starEach [] X.env)).any (·.1) = false:=by rfl):
  PE X (.Call (.Attribute o "extend" apos) [e] [] cpos) (cExtend to te):=
 (pe_bm PySem.F.plainAttrs_list PySem.F.slot_list_extend PySem.F.type_list_extend mt_extend ho.mono (pa_cons he.mono pa_nil hs) hbase hfew hline hs hplain).imp fun σ H Q q=>⟨_,q,fun x H1 z=>by
  split at z
  ·rename_i l
   obtain ⟨⟨xs,h⟩,z⟩:=z
   refine ⟨.inl ⟨rfl,_,SqL.of h⟩,_,z,fun y H2 z2=>?_⟩
   split at z2
   ·obtain ⟨xs2,zs,h2,h3,h4,z3⟩:=z2
    exact ⟨l,_,xs2,zs,rfl,rfl,h2,h3,h4,z3⟩
   ·exact z2.elim
  ·exact z.elim⟩
theorem a_cExtend {σ:St} {H:Hp} {Q:VK}:cExtend to te σ H Q = to σ H fun x H1=>match x with
 | .ref l=>(∃ xs,H1 l = some (.lst xs)) /\ te σ H1 fun y H2=>match y with
  | .ref b=>∃ xs zs,H2 l = some (.lst xs) /\ H2 b = some (.lst zs) /\ xs.length + zs.length <= sizeLine /\ Q .non (upd H2 l (.lst (xs ++ zs)))
  | _=>False
 | _=>False:=rfl
theorem ps_tryN {body:List Stmt} {h₀:ExceptHandler} {hs:List ExceptHandler} {pos:Pos} {tb:TS} (hb:PSs X body tb) (hx:∀ e s,X.xe e s -> False:=by intro _ _ h; exact h):PS X (.Try body (h₀ :: hs) [] [] pos) tb:=by
 intro pins s σ H R I h
 refine wpAny_Try_except (wpAny_mono (hb pins s σ H R I h) (fun f s1 q=>?_) fun e s1 q=>(hx e s1 q).elim)
 cases f with
 | next=>exact wpAny_execs_nil q
 | _=>exact q
noncomputable def strOf:Value -> Option Str
 | .str x _=>some x
 | _=>none
theorem strOf_is {v:Value} {y:Str} (h:strOf v = some y):∃ t,v = .str y t:=by
 unfold strOf at h
 split at h
 ·cases h; exact ⟨_,rfl⟩
 ·cases h
theorem strs_look:∀ {vs:List Value} {ys:List Str},vs.map strOf = ys.map some -> Vals (ys.map V.str) vs
 | [],[],_=>.nil
 | v :: vs,y :: ys,h=>by
  rw [List.map_cons,List.map_cons,List.cons.injEq] at h
  obtain ⟨t,rfl⟩:=strOf_is h.1
  exact .cons ⟨t,rfl⟩ (strs_look h.2)
 | [],_ :: _,h=>by cases h
 | _ :: _,[],h=>by cases h
noncomputable def txtsLook (K:Frag) (ys:List Str) (a:Addr):Bool:=match K.lookup a with
 | some o=>o.cls == .type "tuple" && (match o.data with | .seq its _=>decide (its.toList.map strOf = ys.map some) && decide (ys.length <= 100) | _=>false)
 | none=>false
theorem txts_of {K:Frag} {ys:List Str} {a:Addr} (h:txtsLook K ys a = true) (H:Hp):SqT K H a (ys.map V.str):=by
 unfold txtsLook at h
 split at h
 ·rename_i o ho
  simp only [Bool.and_eq_true,beq_iff_eq] at h
  obtain ⟨h1,h2⟩:=h
  split at h2
  ·rename_i its n hd
   simp only [Bool.and_eq_true,decide_eq_true_eq] at h2
   have hv:=strs_look h2.1
   refine .inr ⟨o,its,n,ho,h1,hd,?_,hv⟩
   have:=hv.length
   rw [List.length_map] at this
   rw [<- Array.length_toList,<- this]
   exact Nat.le_trans h2.2 (by decide)
  ·cases h2
 ·cases h
def TupK (K:Frag) (mg:Str -> Option Value) (x:Str) (ys:List Str):Prop:=∃ a,mg x = some (.ref a) /\ txtsLook K ys a = true
noncomputable def cTupG (K:Frag) (ys:List Str):TE:=fun _ H Q=>∀ a,SqT K H a (ys.map V.str) -> Q (.ref a) H
theorem qe_gtup {K:Frag} {ys:List Str} {x:Str} {p:Pos} (T:TupK K X.mg x ys) (hg:Gl X x) (hd:(x == ("__debug__" : Str)) = false:=by decide):PE X (.Name x p) (cTupG K ys):=by
 intro pins s σ H Q I h
 obtain ⟨a,hm,ht⟩:=T
 exact ld_glob I hg hm ⟨.ref a,H,I,rfl,h a (txts_of ht H)⟩ hd
theorem a_cTupG {K:Frag} {ys:List Str} {σ:St} {H:Hp} {Q:VK}:cTupG K ys σ H Q = ∀ a,SqT K H a (ys.map V.str) -> Q (.ref a) H:=rfl
end
end L2
set_option maxHeartbeats 4000000
namespace L2
open PySem PySem.Spec PyProof.Rows
theorem lc {c:Scope} {x:Str} (h:Loc c x:=by first | exact Or.inl rfl | exact Or.inr rfl):Loc c x:=h
theorem Room.m {j k:Nat} {A:Around} (r:Room k A) (h:j <= k:=by first | decide | omega):Room j A:=r.mono h
end L2
namespace Law
open PySem L2 Mir
noncomputable def top (i:Nat):Stmt:=PySem.Challenge.pw_throng_k35_nets_let_by.main.body.getD i (.Pass ⟨0,0,0,0⟩)
noncomputable abbrev s_is_row:Stmt:=top 9
theorem sc_is_row:FnScope ["thing", "width"] ["thing", "width"] (defScope s_is_row):=⟨rfl,rfl,rfl,by decide +kernel,rfl,by decide +kernel,by decide +kernel⟩
noncomputable abbrev s_is_letter:Stmt:=top 10
theorem sc_is_letter:FnScope ["thing", "width"] ["thing", "width"] (defScope s_is_letter):=⟨rfl,rfl,rfl,by decide +kernel,rfl,by decide +kernel,by decide +kernel⟩
noncomputable abbrev s_is_text_of:Stmt:=top 11
theorem sc_is_text_of:FnScope ["thing", "width", "signs", "sign"] ["thing", "width", "signs"] (defScope s_is_text_of):=⟨rfl,rfl,rfl,by decide +kernel,rfl,by decide +kernel,by decide +kernel⟩
noncomputable abbrev s_layout_width:Stmt:=top 13
theorem sc_layout_width:FnScope ["layout"] ["layout"] (defScope s_layout_width):=⟨rfl,rfl,rfl,by decide +kernel,rfl,by decide +kernel,by decide +kernel⟩
noncomputable abbrev s_field_span:Stmt:=top 14
theorem sc_field_span:FnScope ["layout", "name", "first", "field", "size"] ["layout", "name"] (defScope s_field_span):=⟨rfl,rfl,rfl,by decide +kernel,rfl,by decide +kernel,by decide +kernel⟩
noncomputable abbrev s_is_beginning:Stmt:=top 16
theorem sc_is_beginning:FnScope ["thing", "longest"] ["thing", "longest"] (defScope s_is_beginning):=⟨rfl,rfl,rfl,by decide +kernel,rfl,by decide +kernel,by decide +kernel⟩
noncomputable abbrev s_gate_rules:Stmt:=top 18
theorem sc_gate_rules:FnScope ["house", "door", "gate", "rules"] ["house", "door"] (defScope s_gate_rules):=⟨rfl,rfl,rfl,by decide +kernel,rfl,by decide +kernel,by decide +kernel⟩
noncomputable abbrev s_net_checked:Stmt:=top 21
theorem sc_net_checked:FnScope ["net"] ["net"] (defScope s_net_checked):=⟨rfl,rfl,rfl,by decide +kernel,rfl,by decide +kernel,by decide +kernel⟩
noncomputable abbrev s_check_new:Stmt:=top 22
theorem sc_check_new:FnScope ["thing", "earlier"] ["thing", "earlier"] (defScope s_check_new):=⟨rfl,rfl,rfl,by decide +kernel,rfl,by decide +kernel,by decide +kernel⟩
noncomputable abbrev s_check_layout:Stmt:=top 23
theorem sc_check_layout:FnScope ["layout", "names", "name", "size"] ["layout"] (defScope s_check_layout):=⟨rfl,rfl,rfl,by decide +kernel,rfl,by decide +kernel,by decide +kernel⟩
noncomputable abbrev s_check_houses:Stmt:=top 24
theorem sc_check_houses:FnScope ["layout", "houses", "names", "name", "house"] ["layout", "houses"] (defScope s_check_houses):=⟨rfl,rfl,rfl,by decide +kernel,rfl,by decide +kernel,by decide +kernel⟩
noncomputable abbrev s_check_gates:Stmt:=top 25
theorem sc_check_gates:FnScope ["layout", "house", "doors", "door", "rules", "row", "word", "over"] ["layout", "house"] (defScope s_check_gates):=⟨rfl,rfl,rfl,by decide +kernel,rfl,by decide +kernel,by decide +kernel⟩
noncomputable abbrev s_check_rule:Stmt:=top 26
theorem sc_check_rule:FnScope ["layout", "row", "word", "over", "width"] ["layout", "row", "word", "over"] (defScope s_check_rule):=⟨rfl,rfl,rfl,by decide +kernel,rfl,by decide +kernel,by decide +kernel⟩
noncomputable abbrev s_check_ways:Stmt:=top 27
theorem sc_check_ways:FnScope ["layout", "house", "beginnings", "beginning", "door"] ["layout", "house"] (defScope s_check_ways):=⟨rfl,rfl,rfl,by decide +kernel,rfl,by decide +kernel,by decide +kernel⟩
noncomputable abbrev s_check_way:Stmt:=top 28
theorem sc_check_way:FnScope ["layout", "house", "beginning", "door", "beginnings", "span"] ["layout", "house", "beginning", "door", "beginnings"] (defScope s_check_way):=⟨rfl,rfl,rfl,by decide +kernel,rfl,by decide +kernel,by decide +kernel⟩
noncomputable abbrev s_check_lines:Stmt:=top 29
theorem sc_check_lines:FnScope ["net", "tied", "line", "spot"] ["net"] (defScope s_check_lines):=⟨rfl,rfl,rfl,by decide +kernel,rfl,by decide +kernel,by decide +kernel⟩
noncomputable abbrev s_check_spot:Stmt:=top 30
theorem sc_check_spot:FnScope ["net", "house", "door"] ["net", "house", "door"] (defScope s_check_spot):=⟨rfl,rfl,rfl,by decide +kernel,rfl,by decide +kernel,by decide +kernel⟩
noncomputable abbrev s_house_named:Stmt:=top 31
theorem sc_house_named:FnScope ["net", "name", "its", "house"] ["net", "name"] (defScope s_house_named):=⟨rfl,rfl,rfl,by decide +kernel,rfl,by decide +kernel,by decide +kernel⟩
noncomputable abbrev s__law_draw:Stmt:=top 33
theorem sc__law_draw:FnScope ["_law_script", "_law_k", "_law_many", "_law_cell", "_law_mixed"] ["_law_script", "_law_k", "_law_many"] (defScope s__law_draw):=⟨rfl,rfl,rfl,by decide +kernel,rfl,by decide +kernel,by decide +kernel⟩
noncomputable abbrev s__law_names:Stmt:=top 34
theorem sc__law_names:FnScope ["_law_script", "_law_k", "_law_many", "_law_letters", "_law_start", "_law_body", "_law_j", "_law_at", "_law_step"] ["_law_script", "_law_k", "_law_many"] (defScope s__law_names):=⟨rfl,rfl,rfl,by decide +kernel,rfl,by decide +kernel,by decide +kernel⟩
noncomputable abbrev s__law_layout:Stmt:=top 35
theorem sc__law_layout:FnScope ["_law_script", "_law_size", "_law_ahead", "_law_behind", "_law_names_here", "_law_layout_here"] ["_law_script"] (defScope s__law_layout):=⟨rfl,rfl,rfl,by decide +kernel,rfl,by decide +kernel,by decide +kernel⟩
noncomputable abbrev s__law_width:Stmt:=top 36
theorem sc__law_width:FnScope ["_law_layout_here"] ["_law_layout_here"] (defScope s__law_width):=⟨rfl,rfl,rfl,by decide +kernel,rfl,by decide +kernel,by decide +kernel⟩
noncomputable abbrev s__law_span:Stmt:=top 37
theorem sc__law_span:FnScope ["_law_layout_here", "_law_first", "_law_name", "_law_size"] ["_law_layout_here"] (defScope s__law_span):=⟨rfl,rfl,rfl,by decide +kernel,rfl,by decide +kernel,by decide +kernel⟩
noncomputable abbrev s__law_told:Stmt:=top 38
theorem sc__law_told:FnScope ["_law_script", "_law_layout_here", "_law_width_here", "_law_first", "_law_behind", "_law_places", "_law_k"] ["_law_script", "_law_layout_here"] (defScope s__law_told):=⟨rfl,rfl,rfl,by decide +kernel,rfl,by decide +kernel,by decide +kernel⟩
noncomputable abbrev s__law_over_at:Stmt:=top 39
theorem sc__law_over_at:FnScope ["_law_script", "_law_told_here", "_law_turn", "_law_count"] ["_law_script", "_law_told_here"] (defScope s__law_over_at):=⟨rfl,rfl,rfl,by decide +kernel,rfl,by decide +kernel,by decide +kernel⟩
noncomputable abbrev s__law_signs:Stmt:=top 40
theorem sc__law_signs:FnScope ["_law_number", "_law_places", "_law_width_here", "_law_menu", "_law_signs_here", "_law_place"] ["_law_number", "_law_places", "_law_width_here", "_law_menu"] (defScope s__law_signs):=⟨rfl,rfl,rfl,by decide +kernel,rfl,by decide +kernel,by decide +kernel⟩
noncomputable abbrev s__law_rule:Stmt:=top 41
theorem sc__law_rule:FnScope ["_law_script", "_law_k", "_law_told_here", "_law_over_at_here", "_law_width_here", "_law_row", "_law_number", "_law_over"] ["_law_script", "_law_k", "_law_told_here", "_law_over_at_here", "_law_width_here"] (defScope s__law_rule):=⟨rfl,rfl,rfl,by decide +kernel,rfl,by decide +kernel,by decide +kernel⟩
noncomputable abbrev s__law_ways:Stmt:=top 42
theorem sc__law_ways:FnScope ["_law_script", "_law_k", "_law_doors", "_law_size", "_law_ways_here", "_law_j", "_law_number", "_law_beginning", "_law_door"] ["_law_script", "_law_k", "_law_doors", "_law_size"] (defScope s__law_ways):=⟨rfl,rfl,rfl,by decide +kernel,rfl,by decide +kernel,by decide +kernel⟩
noncomputable abbrev s__law_house:Stmt:=top 43
theorem sc__law_house:FnScope ["_law_script", "_law_k", "_law_told_here", "_law_layout_here", "_law_pool", "_law_width_here", "_law_first", "_law_behind", "_law_over_at_here", "_law_turn", "_law_count", "_law_doors", "_law_gates", "_law_g", "_law_many", "_law_rules", "_law_over"] ["_law_script", "_law_k", "_law_told_here", "_law_layout_here", "_law_pool"] (defScope s__law_house):=⟨rfl,rfl,rfl,by decide +kernel,rfl,by decide +kernel,by decide +kernel⟩
noncomputable abbrev s__law_spots:Stmt:=top 44
theorem sc__law_spots:FnScope ["_law_houses", "_law_spots_here", "_law_name", "_law_house_here"] ["_law_houses"] (defScope s__law_spots):=⟨rfl,rfl,rfl,by decide +kernel,rfl,by decide +kernel,by decide +kernel⟩
noncomputable abbrev s__law_lines:Stmt:=top 45
theorem sc__law_lines:FnScope ["_law_script", "_law_spots_here", "_law_pool", "_law_most", "_law_lines_here", "_law_j", "_law_one"] ["_law_script", "_law_spots_here"] (defScope s__law_lines):=⟨rfl,rfl,rfl,by decide +kernel,rfl,by decide +kernel,by decide +kernel⟩
noncomputable abbrev s__law_net:Stmt:=top 46
theorem sc__law_net:FnScope ["_law_script", "_law_told_here", "_law_most", "_law_layout_here", "_law_pool", "_law_many", "_law_names_here", "_law_houses"] ["_law_script", "_law_told_here", "_law_most"] (defScope s__law_net):=⟨rfl,rfl,rfl,by decide +kernel,rfl,by decide +kernel,by decide +kernel⟩
noncomputable abbrev s__law_same:Stmt:=top 47
theorem sc__law_same:FnScope ["_law_found", "_law_due"] ["_law_found", "_law_due"] (defScope s__law_same):=⟨rfl,rfl,rfl,by decide +kernel,rfl,by decide +kernel,by decide +kernel⟩
noncomputable abbrev s__law_copy:Stmt:=top 48
theorem sc__law_copy:FnScope ["_law_thing"] ["_law_thing"] (defScope s__law_copy):=⟨rfl,rfl,rfl,by decide +kernel,rfl,by decide +kernel,by decide +kernel⟩
noncomputable abbrev s__law_large:Stmt:=top 49
theorem sc__law_large:FnScope ["_law_script", "_law_told_here", "_law_layout_here", "_law_width_here", "_law_pool", "_law_over_at_here", "_law_many", "_law_letters", "_law_houses", "_law_left", "_law_h", "_law_more", "_law_name", "_law_gates", "_law_some", "_law_house_here"] ["_law_script", "_law_told_here"] (defScope s__law_large):=⟨rfl,rfl,rfl,by decide +kernel,rfl,by decide +kernel,by decide +kernel⟩
noncomputable abbrev s_law:Stmt:=top 50
theorem sc_law:FnScope ["_law_script", "_law_told_here", "_law_way", "_law_net_here", "_law_handed", "_law_found", "_law_turn", "_law_told_of"] ["_law_script"] (defScope s_law):=⟨rfl,rfl,rfl,by decide +kernel,rfl,by decide +kernel,by decide +kernel⟩
structure Top (K:Frag) (mg:Str -> Option Value):Prop where
 f_is_row:Fn K mg "is_row" s_is_row
 f_is_letter:Fn K mg "is_letter" s_is_letter
 f_is_text_of:Fn K mg "is_text_of" s_is_text_of
 f_layout_width:Fn K mg "layout_width" s_layout_width
 f_field_span:Fn K mg "field_span" s_field_span
 f_is_beginning:Fn K mg "is_beginning" s_is_beginning
 f_gate_rules:Fn K mg "gate_rules" s_gate_rules
 f_net_checked:Fn K mg "net_checked" s_net_checked
 f_check_new:Fn K mg "check_new" s_check_new
 f_check_layout:Fn K mg "check_layout" s_check_layout
 f_check_houses:Fn K mg "check_houses" s_check_houses
 f_check_gates:Fn K mg "check_gates" s_check_gates
 f_check_rule:Fn K mg "check_rule" s_check_rule
 f_check_ways:Fn K mg "check_ways" s_check_ways
 f_check_way:Fn K mg "check_way" s_check_way
 f_check_lines:Fn K mg "check_lines" s_check_lines
 f_check_spot:Fn K mg "check_spot" s_check_spot
 f_house_named:Fn K mg "house_named" s_house_named
 f__law_draw:Fn K mg "_law_draw" s__law_draw
 f__law_names:Fn K mg "_law_names" s__law_names
 f__law_layout:Fn K mg "_law_layout" s__law_layout
 f__law_width:Fn K mg "_law_width" s__law_width
 f__law_span:Fn K mg "_law_span" s__law_span
 f__law_told:Fn K mg "_law_told" s__law_told
 f__law_over_at:Fn K mg "_law_over_at" s__law_over_at
 f__law_signs:Fn K mg "_law_signs" s__law_signs
 f__law_rule:Fn K mg "_law_rule" s__law_rule
 f__law_ways:Fn K mg "_law_ways" s__law_ways
 f__law_house:Fn K mg "_law_house" s__law_house
 f__law_spots:Fn K mg "_law_spots" s__law_spots
 f__law_lines:Fn K mg "_law_lines" s__law_lines
 f__law_net:Fn K mg "_law_net" s__law_net
 f__law_same:Fn K mg "_law_same" s__law_same
 f__law_copy:Fn K mg "_law_copy" s__law_copy
 f__law_large:Fn K mg "_law_large" s__law_large
 f_law:Fn K mg "law" s_law
 b_isinstance:mg "isinstance" = none
 b_str:mg "str" = none
 b_len:mg "len" = none
 b_sum:mg "sum" = none
 b_range:mg "range" = none
 b_list:mg "list" = none
 b_sorted:mg "sorted" = none
 b_set:mg "set" = none
 b_min:mg "min" = none
 b_max:mg "max" = none
 b_int:mg "int" = none
 b_tuple:mg "tuple" = none
 b_all:mg "all" = none
 b_bool:mg "bool" = none
 b_zip:mg "zip" = none
 u_WORDS:TupK K mg "WORDS" ["pass", "drop"]
 x_NoField:Xn K mg "NoField"
 x_NoDoor:Xn K mg "NoDoor"
 x_NoHouse:Xn K mg "NoHouse"
 x_Twice:Xn K mg "Twice"
 x_Misfit:Xn K mg "Misfit"
 x_BadWord:Xn K mg "BadWord"
 x_ThrongError:Xn K mg "ThrongError"
 v_NoField:Xv K "NoField"
 m_NoField_ThrongError:Xm K "NoField" "ThrongError" true
 v_NoDoor:Xv K "NoDoor"
 m_NoDoor_ThrongError:Xm K "NoDoor" "ThrongError" true
 v_NoHouse:Xv K "NoHouse"
 m_NoHouse_ThrongError:Xm K "NoHouse" "ThrongError" true
 v_Twice:Xv K "Twice"
 m_Twice_ThrongError:Xm K "Twice" "ThrongError" true
 v_Misfit:Xv K "Misfit"
 m_Misfit_ThrongError:Xm K "Misfit" "ThrongError" true
 v_BadWord:Xv K "BadWord"
 m_BadWord_ThrongError:Xm K "BadWord" "ThrongError" true
local macro_rules | `(tactic| walk_at "rd")=>`(tactic| try simp only [a_cVar,a_tC,a_tOp,a_kAddI,a_kAddS,a_kAddL,a_kI,a_kI0,a_kMulI,a_kMulS,a_kEqI,a_kEqS,a_kEqB,a_kEqNS,a_kEqSN,a_kEqNN,a_kIs,a_kInS,a_kInL,a_kIxS,a_kIxL,a_kLenS,a_kLenL,a_kSlTo,a_kSlFrom,a_kSlL,a_tSl,a_tNoPart,a_cPart,a_kEqNil,a_cIsI,Ty.isBl,Ty.isInt,Ty.isStr,Ty.isLst,Ty.isTup,a_cTest,a_blK,a_cAndV,a_tAnd,a_tOr,a_tNot,a_tYes,a_cApp,a_cJoin1,a_tNil,a_tCons,a_tCall,a_tCB,a_tLst,a_tTup,a_tNext,a_tSeq,a_tDrop,a_tRet,a_tIfS,a_tAsg,a_gName,a_tJoin,a_cFor,a_cIter,a_cRng1,a_srcKS,a_srcKL,a_cComp,compσ,L2.start,a_cxK,a_cxCK,CDiv,CPow,List.map_cons,List.map_nil,List.length_cons,List.length_nil,List.replicate_succ,List.replicate_zero,List.cons_append,List.nil_append,List.getElem?_cons_zero,List.getElem?_cons_succ,List.set_cons_zero,List.set_cons_succ,Option.getD_some,Option.getD_none,Nat.reduceAdd,Nat.reduceSub,Bool.false_bne,Bool.true_bne,Bool.false_xor,Bool.true_xor,Bool.not_eq_true',decide_eq_true_eq,decide_eq_false_iff_not,Bool.not_true,Bool.not_false,if_true,if_false,true_and,and_true,Int.reduceLT,Int.reduceLE,Nat.reduceLeDiff,Bool.false_eq_true,a_gCons,a_gNil,a_gSeq,a_kListS,a_kListL,a_kSum,a_kSlF,a_cListRng,a_kMulL,a_gSub,a_rSetL,a_tRaise,a_cFS,a_jNil,a_jCons,a_cFmtR,a_cFmtA,a_cPopAt,a_one,a_kInT,a_kTupL,a_kMax2,a_kMin2,a_cListRng2,a_tTest,a_cInsert,a_kAll,a_kStr,a_cSortInts,a_cZipA,a_cExtend,a_cTupG,ite_not,st_cps,Bool.true_eq_false,Int.zero_add,reduceIte,ite_true,ite_false])
section
variable {P:Program} {w:World} {K:Frag} {mg:Str -> Option Value} {base:Heap}
noncomputable def wSign (s o:Nat):Nat:=if o = 45 then s else o
noncomputable def written (r o:List Nat):List Nat:=(r.zip o).map fun p=>wSign p.1 p.2
noncomputable def textOf (v:V) (w:Int) (l:List Nat):Bool:=match v with
 | .str a=>decide ((a.cps.toList.length:Int) = w) && a.cps.toList.all fun c=>decide (c ∈ l)
 | _=>false
def Known (H:Hp) (v:V):Prop:=match v with
 | .non=>True
 | .bl _=>True
 | .int _=>True
 | .str a=>a.cps.toList.length <= 1000
 | .ref p=>(∃ xs,H p = some (.lst xs)) \/ (∃ xs,H p = some (.tup xs))
 | _=>False
theorem Known.same {H H':Hp} {v:V} (k:Known H v) (s:Same H H'):Known H' v:=by
 cases v <;> try exact k
 rcases k with ⟨xs,h⟩ | ⟨xs,h⟩
 ·exact .inl ⟨xs,s _ _ h⟩
 ·exact .inr ⟨xs,s _ _ h⟩
noncomputable def sp_is_text_of:Sp:=fun vs H Q _=>match vs with
 | [v,.int w,.str l]=>Known H v /\ Q (.bl (textOf v w l.cps.toList)) H
 | _=>False
theorem ok_is_text_of (T:Top K mg):Callee P w K mg base 1 "is_text_of" ["thing", "width", "signs"] sp_is_text_of:=by
 refine T.f_is_text_of.cal sc_is_text_of (by intro vs H Q E h; unfold sp_is_text_of at h; split at h <;> first | rfl | exact h.elim) (fun _ _ _ _ _ _ us hl=>match us,hl with | [_,_,_],_=>rfl) (fun f cdv A outer s H vs Q E hr h=>?_)
 unfold sp_is_text_of at h
 split at h
 case h_2=>exact h.elim
 refine ⟨_,(pss_cons (ps_if (PW.pt (pw_or (pt_not (qt_val (qe_isinst .str rfl T.b_isinstance (qv 0) rfl T.b_str bb_str))) (pw_or1 (qt_cmp op_neK (pe_callB (lenE K rfl) rfl T.b_len bb_len (pa_cons (qv 0) pa_nil)) (qv 1))))) (pss_one (ps_ret pe_bl)) pss_nil)
   (pss_cons (qs_for PassesOwn.never rfl (iterE K rfl (qv 0)) (pg_name (i:=3) sc_is_text_of.nd rfl lc) (pss_one (ps_if (qt_cmp (notinE K rfl) (qv 3) (qv 2)) (pss_one (ps_ret pe_bl)) pss_nil)))
   (pss_one (ps_ret pe_bl)))),?_⟩
 rename_i v n z
 obtain ⟨l,rfl⟩:∃ x,z = st x:=⟨_,(st_eta z).symm⟩
 obtain ⟨hk,q⟩:=h
 simp only [st_cps] at q
 walk_at "rd"
 cases v with
 | str a=>
  obtain ⟨x,rfl⟩:∃ x,a = st x:=⟨_,(st_eta a).symm⟩
  walk_at "rd"
  have hk':x.length <= 1000:=hk
  refine ⟨by omega,ite2 (fun g1=>?_) fun g1=>?_⟩
  ·refine loop_str (fun i σ H'=>∃ k,σ = [some (.str (st x)),some (.int n),some (.str (st l)),k] /\ H' = H /\ (x.take i).all (fun c=>decide (c ∈ l)) = true) ⟨none,rfl,rfl,rfl⟩ ?_ ?_
   ·rintro i c σ H1 hc ⟨k,rfl,rfl,e1⟩
    walk_at "rd"
    refine ite2 (fun g2=>⟨_,rfl,?_⟩) fun g2=>?_
    ·rw [List.take_succ,hc,List.all_append,e1]
     simp [g2]
    ·have e:textOf (.str (st x)) n l = false:=by
      simp only [textOf,st_cps,Bool.and_eq_false_iff]
      refine .inr ?_
      rw [Bool.eq_false_iff]
      intro z
      rw [List.all_eq_true] at z
      exact g2 (of_decide_eq_true (z c (List.mem_of_getElem? hc)))
     rw [e] at q
     exact q
   ·rintro σ H1 ⟨k,rfl,rfl,e1⟩
    walk_at "rd"
    rw [List.take_length] at e1
    have e:textOf (.str (st x)) n l = true:=by
     simp only [textOf,st_cps,Bool.and_eq_true]
     exact ⟨decide_eq_true g1,e1⟩
    rw [e] at q
    exact q
  ·have e:textOf (.str (st x)) n l = false:=by
    simp only [textOf,st_cps,Bool.and_eq_false_iff]
    exact .inl (decide_eq_false g1)
   rw [e] at q
   exact q
 | ref p=>
  rcases hk with hk | hk
  ·exact .inl ⟨hk,q⟩
  ·exact .inr ⟨hk,q⟩
 | non=>exact q
 | bl b=>exact q
 | int i=>exact q
 | _=>exact hk.elim
noncomputable def sp_is_row:Sp:=fun vs H Q _=>match vs with
 | [v,.int w]=>Known H v /\ Q (.bl (textOf v w [48,49,45])) H
 | _=>False
theorem ok_is_row (T:Top K mg):Callee P w K mg base 2 "is_row" ["thing", "width"] sp_is_row:=by
 refine T.f_is_row.cal sc_is_row (by intro vs H Q E h; unfold sp_is_row at h; split at h <;> first | rfl | exact h.elim) (fun _ _ _ _ _ _ us hl=>match us,hl with | [_,_],_=>rfl) (fun f cdv A outer s H vs Q E hr h=>?_)
 unfold sp_is_row at h
 split at h
 case h_2=>exact h.elim
 refine ⟨_,(pss_one (ps_ret (pe_fn (ok_is_text_of T) hr.m rfl (pa_cons (qv 0) (pa_cons (qv 1) (pa_cons (qs [48,49,45]) pa_nil)))))),?_⟩
 walk_at "rd"
 exact h
noncomputable abbrev Fld:=List Nat × Nat
def FldAt (H:Hp) (x:Fld) (v:V):Prop:=∃ t,v = .ref t /\ H t = some (.tup [tx x.1,.int x.2])
def Lay (H:Hp) (p:Addr) (ls:List Fld):Prop:=∃ vs,H p = some (.lst vs) /\ Paired (FldAt H) ls vs
theorem flds_keep {H H':Hp} (k:∀ t vs,H t = some (.tup vs) -> H' t = some (.tup vs)) {ls:List Fld} {vs:List V} (h:Paired (FldAt H) ls vs):Paired (FldAt H') ls vs:=
 L2.Paired.mapP h fun _ _ ⟨t,e,q⟩=>⟨t,e,k _ _ q⟩
theorem Lay.same {H H':Hp} {p:Addr} {ls:List Fld} (h:Lay H p ls) (s:Same H H'):Lay H' p ls:=by
 obtain ⟨vs,e,pr⟩:=h
 exact ⟨vs,s _ _ e,flds_keep (fun t us q=>s _ _ q) pr⟩
noncomputable def fldD (x:Fld):D:=.t [.f (tx x.1),.f (.int x.2)]
noncomputable def widthL (ls:List Fld):Nat:=(ls.map (·.2)).sum
theorem paired_zip {α β:Type} {F:α -> β -> Prop} {l:List α} {m:List β} (h:Paired F l m):(l.zip m).map (·.2) = m /\ ∀ x ∈ l.zip m,F x.1 x.2:=by
 induction h with
 | nil=>exact ⟨rfl,fun x hx=>by cases hx⟩
 | cons r _ ih=>exact ⟨by rw [List.zip_cons_cons,List.map_cons,ih.1],fun x hx=>by
   rw [List.zip_cons_cons] at hx
   rcases List.mem_cons.mp hx with rfl | hx
   ·exact r
   ·exact ih.2 x hx⟩
theorem zip_fst {α β:Type}:∀ {l:List α} {m:List β},l.length = m.length -> (l.zip m).map (·.1) = l
 | [],_,_=>rfl
 | x :: l,[],h=>by cases h
 | x :: l,y :: m,h=>by rw [List.zip_cons_cons,List.map_cons,zip_fst (by simpa using h)]
theorem sum_cast:∀ l:List Nat,(l.map fun n:Nat=>(n:Int)).sum = (l.sum:Nat)
 | []=>rfl
 | x :: l=>by rw [List.map_cons,List.sum_cons,List.sum_cons,sum_cast l]; omega
noncomputable def sp_layout_width (K:Frag):Sp:=fun vs H Q _=>match vs with
 | [.ref p]=>∃ ls:List Fld,Lay H p ls /\ ls.length <= 1000 /\ ∀ H',Same H H' -> Q (.int (widthL ls:Nat)) H'
 | _=>False
theorem ok_layout_width (T:Top K mg):Callee P w K mg base 1 "layout_width" ["layout"] (sp_layout_width K):=by
 refine T.f_layout_width.cal sc_layout_width (by intro vs H Q E h; unfold sp_layout_width at h; split at h <;> first | rfl | exact h.elim) (fun _ _ _ _ _ _ us hl=>match us,hl with | [_],_=>rfl) (fun f cdv A outer s H vs Q E hr h=>?_)
 unfold sp_layout_width at h
 split at h
 case h_2=>exact h.elim
 refine ⟨_,(pss_one (ps_ret (pe_callB (call_sumK K rfl rfl) rfl T.b_sum bb_sum (pa_cons (qe_comp (nt:=2) (fi:=[]) (N':=["name", "size"]) rfl (cscope rfl (by decide +kernel)) (cnames (N:=["layout"]) (sc:=defScope s_layout_width) rfl rfl (by decide +kernel)) (gk_tup2 (by decide) (by decide)) (iterE K rfl (qv 0)) (fun _ _ _ _ _=>(tupE K rfl rfl (n:=2) (pgs_cons (pg_name (i:=0) (by show (["name", "size"]:List Str).Nodup; decide +kernel) rfl lc) (pgs_cons (pg_name (i:=1) (by show (["name", "size"]:List Str).Nodup; decide +kernel) rfl lc) pgs_nil)))) (fun _ _ _ _ _=>pif_nil) (fun _ _ _ _ _=>(qv 1))) pa_nil)))),?_⟩
 rename_i p
 obtain ⟨ls,⟨vs,e0,pr⟩,hn,q⟩:=h
 have hl:=pr.length
 obtain ⟨z1,z2⟩:=paired_zip pr
 walk_at "rd"
 refine .inl ⟨⟨_,SqL.of e0⟩,fun D hD=>?_⟩
 refine comp_list (item:=fun x:Fld × V=>x.2) (xs:=ls.zip vs) (h:=fun x=>[V.int x.1.2]) hD (by rw [z1]; exact SqL.of e0) (by rw [List.length_zip]; omega) (fun _=>by simp) ?_ ?_
 ·intro x H1 out non hx s1 ho _
  obtain ⟨t,ex,et⟩:=z2 x hx
  rw [ex]
  refine ⟨t,[_,_],rfl,SqT.of (s1 _ _ et),rfl,_,[_],rfl,_,[],rfl,rfl,?_⟩
  walk_at "rd"
  exact ho _ _ rfl (Same.refl _)
 ·intro H1 s1 e1
  rw [show (ls.zip vs).flatMap (fun x=>[V.int x.1.2]) = (ls.map fun x:Fld=>(x.2:Int)).map V.int by
   rw [<- zip_fst (l:=ls) (m:=vs) hl]
   simp only [List.map_map]
   rw [zip_fst hl]
   induction ls.zip vs with
   | nil=>rfl
   | cons x r ih=>rw [List.flatMap_cons,ih]; rfl] at e1
  walk_at "rd"
  refine ⟨_,SqL.of e1,?_⟩
  have:=q H1 s1
  unfold widthL at this
  rw [show (ls.map fun x:Fld=>(x.2:Int)).sum = ((ls.map (·.2)).sum:Nat) by rw [<- sum_cast,List.map_map]; rfl]
  exact this
noncomputable def spanF:List Fld -> List Nat -> Nat -> Option (Nat × Nat)
 | [],_,_=>none
 | (f,z) :: r,n,a=>if f = n then some (a,a + z) else spanF r n (a + z)
theorem spanF_skip:∀ (l r:List Fld) (n:List Nat) (a:Nat),(∀ x ∈ l,¬ x.1 = n) -> spanF (l ++ r) n a = spanF r n (a + widthL l)
 | [],r,n,a,_=>rfl
 | (f,z) :: l,r,n,a,h=>by
  have h0:¬ f = n:=h (f,z) List.mem_cons_self
  rw [List.cons_append,spanF,if_neg h0,spanF_skip l r n (a + z) fun x hx=>h x (List.mem_cons_of_mem _ hx)]
  unfold widthL
  rw [List.map_cons,List.sum_cons,Nat.add_assoc]
theorem st_len (n:List Nat):(st n).length = n.length:=by simp [Str.length]
noncomputable def sp_field_span (K:Frag):Sp:=fun vs H Q E=>match vs with
 | [.ref p,.str n]=>∃ ls:List Fld,Lay H p ls /\ (∀ c ∈ n.cps.toList,c < 16 ^ 8) /\ n.cps.toList.length <= 1000 /\
   (∀ a b,spanF ls n.cps.toList 0 = some (a,b) -> ∀ t H',H t = none -> Same H H' -> H' t = some (.tup [.int (a:Nat),.int (b:Nat)]) -> Q (.ref t) H') /\
   (spanF ls n.cps.toList 0 = none -> ∀ H',Same H H' -> E (.ref (xA K "NoField")) none H')
 | _=>False
theorem ok_field_span (T:Top K mg):CalleeX P w K mg base 1 "field_span" ["layout", "name"] (sp_field_span K):=by
 refine T.f_field_span.calX sc_field_span (by intro vs H Q E h; unfold sp_field_span at h; split at h <;> first | rfl | exact h.elim) (fun _ _ _ _ _ _ us hl=>match us,hl with | [_,_],_=>rfl) (fun f cdv A outer s H vs Q E hr h=>?_)
 unfold sp_field_span at h
 split at h
 case h_2=>exact h.elim
 refine ⟨_,(pss_cons (ps_set (i:=2) sc_field_span.nd rfl lc pe_int)
   (pss_cons (qs_for PassesOwn.leaving rfl (iterE K rfl (qv 0)) (tupE K rfl rfl (n:=2) (pgs_cons (pg_name (i:=3) sc_field_span.nd rfl lc) (pgs_cons (pg_name (i:=4) sc_field_span.nd rfl lc) pgs_nil))) (pss_cons (ps_if (qt_cmp op_eqK (qv 3) (qv 1)) (pss_one (ps_ret (pe_tup (pa_cons (qv 2) (pa_cons (pe_op op_addK (qv 2) (qv 4)) pa_nil))))) pss_nil)
   (pss_one (ps_set (i:=2) sc_field_span.nd rfl lc (pe_op op_addK (qv 2) (qv 4))))))
   (pss_one (ps_raise rfl raises_fn rfl T.x_NoField.1 T.x_NoField.2 (pa_cons (pe_fs (pj_cons (qs [110,111,32,102,105,101,108,100,32]) (pj_cons (pe_fmtR (qv 1)) pj_nil))) pa_nil))))),?_⟩
 rename_i p s
 obtain ⟨n,rfl⟩:∃ x,s = st x:=⟨_,(st_eta s).symm⟩
 obtain ⟨ls,⟨vs,e0,pr⟩,hc,hn,q1,q2⟩:=h
 simp only [st_cps] at q1 q2 hc hn
 have hl:=pr.length
 walk_at "rd"
 refine .inl ⟨⟨_,SqL.of e0⟩,?_⟩
 refine loop_list (xs:=vs) (fun i σ H'=>∃ u v,σ = [some (.ref p),some (.str (st n)),some (.int (widthL (ls.take i):Nat)),u,v] /\ Same H H' /\ ∀ x ∈ ls.take i,¬ x.1 = n) ⟨none,none,rfl,Same.refl _,fun x hx=>by simp at hx⟩ (fun i σ H' _ ⟨_,_,_,z,_⟩=>SqL.of (z _ _ e0)) ?_ ?_
 ·rintro i x σ H1 hx ⟨u,v,rfl,s1,h1⟩
  have hi:i < vs.length:=(List.getElem?_eq_some_iff.mp hx).1
  have hil:i < ls.length:=by omega
  obtain ⟨y,hy,t,ey,et⟩:=paired_at pr (List.getElem?_eq_getElem hil)
  obtain rfl:x = .ref t:=by rw [hy] at hx; rw [<- Option.some.inj hx,ey]
  refine ⟨t,[_,_],rfl,SqT.of (s1 _ _ et),rfl,_,[_],rfl,_,[],rfl,rfl,?_⟩
  walk_at "rd"
  have sp:spanF ls n 0 = spanF (ls.drop i) n (0 + widthL (ls.take i)):=by
   have:=spanF_skip (ls.take i) (ls.drop i) n 0 h1
   rw [List.take_append_drop] at this
   exact this
  rw [List.drop_eq_getElem_cons hil,Nat.zero_add] at sp
  have w1:widthL (ls.take (i + 1)) = widthL (ls.take i) + ls[i].2:=by
   unfold widthL
   rw [List.take_add_one,List.getElem?_eq_getElem hil,Option.toList_some,List.map_append,List.sum_append]
   simp
  refine ite2 (fun g=>⟨by decide,fun t2 ht2=>?_⟩) fun g=>⟨some (tx ls[i].1),some (.int ls[i].2),?_,s1,fun y hy=>?_⟩
  ·refine q1 (widthL (ls.take i)) (widthL (ls.take i) + ls[i].2) ?_ t2 _ (s1.free ht2) (s1.trans (same_new ht2 _)) ?_
   ·rw [sp,show ls[i] = (ls[i].1,ls[i].2) from rfl,spanF,if_pos g]
   ·rw [upd_same]
    simp
  ·rw [w1]
   simp
  ·rw [List.take_add_one,List.getElem?_eq_getElem hil] at hy
   rcases List.mem_append.mp hy with hy | hy
   ·exact h1 y hy
   ·have e:y = ls[i]:=by simpa using hy
    rw [e]
    exact g
 ·rintro σ H1 ⟨u,v,rfl,s1,h1⟩
  walk_at "rd"
  have e:spanF ls n 0 = none:=by
   have:=spanF_skip ls [] n 0 fun x hx=>h1 x (by rw [<- hl,List.take_length]; exact hx)
   rw [List.append_nil] at this
   exact this
  have hz:(st n).length = n.length:=st_len n
  refine ⟨by rw [st_len]; exact Nat.le_of_lt (sizeBig (by decide)),hc,by omega,fun z hzz=>⟨?_,fun _=>⟨by decide,q2 e H1 s1⟩⟩⟩
  rw [st_len]
  exact Nat.le_of_lt (sizeBig (by simp only [List.length_cons,List.length_nil]; omega))
theorem spanF_le:∀ (l:List Fld) (n:List Nat) (a x y:Nat),spanF l n a = some (x,y) -> x <= y
 | [],_,_,_,_,h=>by cases h
 | (f,z) :: l,n,a,x,y,h=>by
  rw [spanF] at h
  split at h
  ·cases h; omega
  ·exact spanF_le l n _ x y h
noncomputable abbrev Rule:=List Nat × List Nat × List Nat
def RuleAt (H:Hp) (x:Rule) (v:V):Prop:=∃ t,v = .ref t /\ H t = some (.tup [tx x.1,tx x.2.1,tx x.2.2])
def Rules (H:Hp) (p:Addr) (rs:List Rule):Prop:=∃ vs,H p = some (.lst vs) /\ Paired (RuleAt H) rs vs
theorem rules_keep {H H':Hp} (k:∀ t vs,H t = some (.tup vs) -> H' t = some (.tup vs)) {rs:List Rule} {vs:List V} (h:Paired (RuleAt H) rs vs):Paired (RuleAt H') rs vs:=
 L2.Paired.mapP h fun _ _ ⟨t,e,q⟩=>⟨t,e,k _ _ q⟩
theorem keep_lst {H:Hp} {g:Addr} {xs ys:List V} (h:H g = some (.lst xs)):∀ t vs,H t = some (.tup vs) -> upd H g (.lst ys) t = some (.tup vs):=fun t vs q=>by
 rw [upd_ne (fun e=>by rw [e,h] at q; cases q)]
 exact q
theorem Rules.same {H H':Hp} {p:Addr} {rs:List Rule} (h:Rules H p rs) (s:Same H H'):Rules H' p rs:=by
 obtain ⟨vs,e,pr⟩:=h
 exact ⟨vs,s _ _ e,rules_keep (fun t us q=>s _ _ q) pr⟩
noncomputable def ruleD (x:Rule):D:=.t [.f (tx x.1),.f (tx x.2.1),.f (tx x.2.2)]
noncomputable def dropT:List Nat:=[100,114,111,112]
noncomputable def passT:List Nat:=[112,97,115,115]
noncomputable abbrev Way:=List Nat × List Nat
def WayAt (H:Hp) (x:Way) (v:V):Prop:=∃ t,v = .ref t /\ H t = some (.tup [tx x.1,tx x.2])
def Ways (H:Hp) (p:Addr) (ws:List Way):Prop:=∃ vs,H p = some (.lst vs) /\ Paired (WayAt H) ws vs
theorem ways_keep {H H':Hp} (k:∀ t vs,H t = some (.tup vs) -> H' t = some (.tup vs)) {ws:List Way} {vs:List V} (h:Paired (WayAt H) ws vs):Paired (WayAt H') ws vs:=
 L2.Paired.mapP h fun _ _ ⟨t,e,q⟩=>⟨t,e,k _ _ q⟩
theorem Ways.same {H H':Hp} {p:Addr} {ws:List Way} (h:Ways H p ws) (s:Same H H'):Ways H' p ws:=by
 obtain ⟨vs,e,pr⟩:=h
 exact ⟨vs,s _ _ e,ways_keep (fun t us q=>s _ _ q) pr⟩
theorem paired_snoc {α β:Type} {F:α -> β -> Prop} {l:List α} {m:List β} {x:α} {y:β} (h:Paired F l m) (r:F x y):Paired F (l ++ [x]) (m ++ [y]):=by
 induction h with
 | nil=>exact .cons r .nil
 | cons r' _ ih=>exact .cons r' ih
noncomputable def wayD (x:Way):D:=.t [.f (tx x.1),.f (tx x.2)]
noncomputable abbrev Gate:=List Nat × List Rule
noncomputable abbrev House:=List Gate × List Way
def GateAt (H:Hp) (x:Gate) (v:V):Prop:=∃ t p,v = .ref t /\ H t = some (.tup [tx x.1,.ref p]) /\ Rules H p x.2
def Gates (H:Hp) (p:Addr) (gs:List Gate):Prop:=∃ vs,H p = some (.lst vs) /\ Paired (GateAt H) gs vs
def HouseAt (H:Hp) (t:Addr) (h:House):Prop:=∃ g w,H t = some (.tup [.ref g,.ref w]) /\ Gates H g h.1 /\ Ways H w h.2
theorem Gates.same {H H':Hp} {p:Addr} {gs:List Gate} (h:Gates H p gs) (s:Same H H'):Gates H' p gs:=by
 obtain ⟨vs,e,pr⟩:=h
 exact ⟨vs,s _ _ e,L2.Paired.mapP pr fun _ _ ⟨t,q,e,h1,h2⟩=>⟨t,q,e,s _ _ h1,h2.same s⟩⟩
theorem HouseAt.same {H H':Hp} {t:Addr} {h:House} (x:HouseAt H t h) (s:Same H H'):HouseAt H' t h:=by
 obtain ⟨g,w,e,h1,h2⟩:=x
 exact ⟨g,w,s _ _ e,h1.same s,h2.same s⟩
noncomputable def gateOf (gs:List Gate) (n:List Nat):Option (List Rule):=(gs.find? fun g=>decide (g.1 = n)).map (·.2)
noncomputable def sp_gate_rules (K:Frag):Sp:=fun vs H Q E=>match vs with
 | [.ref t,.str n]=>∃ h:House,HouseAt H t h /\ (∀ c ∈ n.cps.toList,c < 16 ^ 8) /\ n.cps.toList.length <= 1000 /\
   (∀ rs,gateOf h.1 n.cps.toList = some rs -> ∀ p H',Same H H' -> Rules H' p rs -> Q (.ref p) H') /\
   (gateOf h.1 n.cps.toList = none -> ∀ H',Same H H' -> E (.ref (xA K "NoDoor")) none H')
 | _=>False
theorem ok_gate_rules (T:Top K mg):CalleeX P w K mg base 1 "gate_rules" ["house", "door"] (sp_gate_rules K):=by
 refine T.f_gate_rules.calX sc_gate_rules (by intro vs H Q E h; unfold sp_gate_rules at h; split at h <;> first | rfl | exact h.elim) (fun _ _ _ _ _ _ us hl=>match us,hl with | [_,_],_=>rfl) (fun f cdv A outer s H vs Q E hr h=>?_)
 unfold sp_gate_rules at h
 split at h
 case h_2=>exact h.elim
 refine ⟨_,(pss_cons (qs_for PassesOwn.leaving rfl (iterE K rfl (pe_ix (ixE K rfl) (qv 0) pe_int (fun _ _=>rfl))) (tupE K rfl rfl (n:=2) (pgs_cons (pg_name (i:=2) sc_gate_rules.nd rfl lc) (pgs_cons (pg_name (i:=3) sc_gate_rules.nd rfl lc) pgs_nil))) (pss_one (ps_if (qt_cmp op_eqK (qv 2) (qv 1)) (pss_one (ps_ret (qv 3))) pss_nil)))
   (pss_one (ps_raise rfl raises_fn rfl T.x_NoDoor.1 T.x_NoDoor.2 (pa_cons (pe_fs (pj_cons (qs [110,111,32,100,111,111,114,32]) (pj_cons (pe_fmtR (qv 1)) pj_nil))) pa_nil)))),?_⟩
 rename_i p s
 obtain ⟨n,rfl⟩:∃ x,s = st x:=⟨_,(st_eta s).symm⟩
 obtain ⟨hs,⟨g,w,e,⟨vs,e0,pr⟩,hw⟩,hc,hn,q1,q2⟩:=h
 simp only [st_cps] at q1 q2 hc hn
 have hl:=pr.length
 walk_at "rd"
 refine ⟨_,_,.inr (SqT.of e),rfl,?_⟩
 walk_at "rd"
 refine .inl ⟨⟨_,SqL.of e0⟩,?_⟩
 refine loop_list (xs:=vs) (fun i σ H'=>∃ u v,σ = [some (.ref p),some (.str (st n)),u,v] /\ Same H H' /\ ∀ x ∈ hs.1.take i,¬ x.1 = n) ⟨none,none,rfl,Same.refl _,fun x hx=>by simp at hx⟩ (fun i σ H' _ ⟨_,_,_,z,_⟩=>SqL.of (z _ _ e0)) ?_ ?_
 ·rintro i x σ H1 hx ⟨u,v,rfl,s1,h1⟩
  have hi:i < vs.length:=(List.getElem?_eq_some_iff.mp hx).1
  have hil:i < hs.1.length:=by omega
  obtain ⟨y,hy,t,r,ey,et,hr⟩:=paired_at pr (List.getElem?_eq_getElem hil)
  obtain rfl:x = .ref t:=by rw [hy] at hx; rw [<- Option.some.inj hx,ey]
  refine ⟨t,[_,_],rfl,SqT.of (s1 _ _ et),rfl,_,[_],rfl,_,[],rfl,rfl,?_⟩
  walk_at "rd"
  refine ite2 (fun g=>?_) fun g=>⟨some (tx hs.1[i].1),some (.ref r),rfl,s1,fun y hy=>?_⟩
  ·refine q1 hs.1[i].2 ?_ r H1 s1 (hr.same s1)
   unfold gateOf
   rw [show hs.1.find? (fun g=>decide (g.1 = n)) = some hs.1[i] from List.find?_eq_some_iff_append.mpr ⟨by simpa using g,hs.1.take i,hs.1.drop (i + 1),by simp,fun y hy=>by simpa using h1 y hy⟩]
   rfl
  ·rw [List.take_add_one,List.getElem?_eq_getElem hil] at hy
   rcases List.mem_append.mp hy with hy | hy
   ·exact h1 y hy
   ·have e:y = hs.1[i]:=by simpa using hy
    rw [e]
    exact g
 ·rintro σ H1 ⟨u,v,rfl,s1,h1⟩
  walk_at "rd"
  have e:gateOf hs.1 n = none:=by
   unfold gateOf
   rw [List.find?_eq_none.mpr fun y hy=>by simpa using h1 y (by rw [<- hl,List.take_length]; exact hy)]
   rfl
  have hz:(st n).length = n.length:=st_len n
  refine ⟨by rw [st_len]; exact Nat.le_of_lt (sizeBig (by decide)),hc,by omega,fun z hzz=>⟨?_,fun _=>⟨by decide,q2 e H1 s1⟩⟩⟩
  rw [st_len]
  exact Nat.le_of_lt (sizeBig (by simp only [List.length_cons,List.length_nil]; omega))
noncomputable def toT:List Nat:=[116,111]
structure Meet (ls:List Fld) (rs:List Rule) (ws:List Way) (n:Nat):Prop where
 wide:n <= 1000
 over:∀ r ∈ rs,r.2.2.length = n
 ways:∀ x ∈ ws,x.1.length <= 1000
 to:∃ a b,spanF ls toT 0 = some (a,b) /\ b <= n
noncomputable def sp__law_width (K:Frag):Sp:=fun vs H Q _=>match vs with
 | [.ref p]=>∃ ls:List Fld,Lay H p ls /\ ls.length <= 1000 /\ ∀ H',Same H H' -> Q (.int (widthL ls:Nat)) H'
 | _=>False
theorem ok__law_width (T:Top K mg):Callee P w K mg base 1 "_law_width" ["_law_layout_here"] (sp__law_width K):=by
 refine T.f__law_width.cal sc__law_width (by intro vs H Q E h; unfold sp__law_width at h; split at h <;> first | rfl | exact h.elim) (fun _ _ _ _ _ _ us hl=>match us,hl with | [_],_=>rfl) (fun f cdv A outer s H vs Q E hr h=>?_)
 unfold sp__law_width at h
 split at h
 case h_2=>exact h.elim
 refine ⟨_,(pss_one (ps_ret (pe_callB (call_sumK K rfl rfl) rfl T.b_sum bb_sum (pa_cons (qe_comp (nt:=2) (fi:=[]) (N':=["_law_name", "_law_size"]) rfl (cscope rfl (by decide +kernel)) (cnames (N:=["_law_layout_here"]) (sc:=defScope s__law_width) rfl rfl (by decide +kernel)) (gk_tup2 (by decide) (by decide)) (iterE K rfl (qv 0)) (fun _ _ _ _ _=>(tupE K rfl rfl (n:=2) (pgs_cons (pg_name (i:=0) (by show (["_law_name", "_law_size"]:List Str).Nodup; decide +kernel) rfl lc) (pgs_cons (pg_name (i:=1) (by show (["_law_name", "_law_size"]:List Str).Nodup; decide +kernel) rfl lc) pgs_nil)))) (fun _ _ _ _ _=>pif_nil) (fun _ _ _ _ _=>(qv 1))) pa_nil)))),?_⟩
 rename_i p
 obtain ⟨ls,⟨vs,e0,pr⟩,hn,q⟩:=h
 have hl:=pr.length
 obtain ⟨z1,z2⟩:=paired_zip pr
 walk_at "rd"
 refine .inl ⟨⟨_,SqL.of e0⟩,fun D hD=>?_⟩
 refine comp_list (item:=fun x:Fld × V=>x.2) (xs:=ls.zip vs) (h:=fun x=>[V.int x.1.2]) hD (by rw [z1]; exact SqL.of e0) (by rw [List.length_zip]; omega) (fun _=>by simp) ?_ ?_
 ·intro x H1 out non hx s1 ho _
  obtain ⟨t,ex,et⟩:=z2 x hx
  rw [ex]
  refine ⟨t,[_,_],rfl,SqT.of (s1 _ _ et),rfl,_,[_],rfl,_,[],rfl,rfl,?_⟩
  walk_at "rd"
  exact ho _ _ rfl (Same.refl _)
 ·intro H1 s1 e1
  rw [show (ls.zip vs).flatMap (fun x=>[V.int x.1.2]) = (ls.map fun x:Fld=>(x.2:Int)).map V.int by
   rw [<- zip_fst (l:=ls) (m:=vs) hl]
   simp only [List.map_map]
   rw [zip_fst hl]
   induction ls.zip vs with
   | nil=>rfl
   | cons x r ih=>rw [List.flatMap_cons,ih]; rfl] at e1
  walk_at "rd"
  refine ⟨_,SqL.of e1,?_⟩
  have:=q H1 s1
  unfold widthL at this
  rw [show (ls.map fun x:Fld=>(x.2:Int)).sum = ((ls.map (·.2)).sum:Nat) by rw [<- sum_cast,List.map_map]; rfl]
  exact this
noncomputable def spanG (ls:List Fld):Nat × Nat:=(spanF ls toT 0).getD (0,0)
noncomputable def sp__law_span (K:Frag):Sp:=fun vs H Q _=>match vs with
 | [.ref p]=>∃ ls:List Fld,Lay H p ls /\ ∀ t H',H t = none -> Same H H' -> H' t = some (.tup [.int ((spanG ls).1:Nat),.int ((spanG ls).2:Nat)]) -> Q (.ref t) H'
 | _=>False
theorem ok__law_span (T:Top K mg):Callee P w K mg base 1 "_law_span" ["_law_layout_here"] (sp__law_span K):=by
 refine T.f__law_span.cal sc__law_span (by intro vs H Q E h; unfold sp__law_span at h; split at h <;> first | rfl | exact h.elim) (fun _ _ _ _ _ _ us hl=>match us,hl with | [_],_=>rfl) (fun f cdv A outer s H vs Q E hr h=>?_)
 unfold sp__law_span at h
 split at h
 case h_2=>exact h.elim
 refine ⟨_,(pss_cons (ps_set (i:=1) sc__law_span.nd rfl lc pe_int)
   (pss_cons (qs_for PassesOwn.never rfl (iterE K rfl (qv 0)) (tupE K rfl rfl (n:=2) (pgs_cons (pg_name (i:=2) sc__law_span.nd rfl lc) (pgs_cons (pg_name (i:=3) sc__law_span.nd rfl lc) pgs_nil))) (pss_cons (ps_if (qt_cmp op_eqK (qv 2) (qs [116,111])) (pss_one (ps_ret (pe_tup (pa_cons (qv 1) (pa_cons (pe_op op_addK (qv 1) (qv 3)) pa_nil))))) pss_nil)
   (pss_one (ps_set (i:=1) sc__law_span.nd rfl lc (pe_op op_addK (qv 1) (qv 3))))))
   (pss_one (ps_ret (pe_tup (pa_cons pe_int (pa_cons pe_int pa_nil))))))),?_⟩
 rename_i p
 obtain ⟨ls,⟨vs,e0,pr⟩,q1⟩:=h
 have hl:=pr.length
 walk_at "rd"
 refine .inl ⟨⟨_,SqL.of e0⟩,?_⟩
 refine loop_list (xs:=vs) (fun i σ H'=>∃ u v,σ = [some (.ref p),some (.int (widthL (ls.take i):Nat)),u,v] /\ Same H H' /\ ∀ x ∈ ls.take i,¬ x.1 = toT) ⟨none,none,rfl,Same.refl _,fun x hx=>by simp at hx⟩ (fun i σ H' _ ⟨_,_,_,z,_⟩=>SqL.of (z _ _ e0)) ?_ ?_
 ·rintro i x σ H1 hx ⟨u,v,rfl,s1,h1⟩
  have hi:i < vs.length:=(List.getElem?_eq_some_iff.mp hx).1
  have hil:i < ls.length:=by omega
  obtain ⟨y,hy,t,ey,et⟩:=paired_at pr (List.getElem?_eq_getElem hil)
  obtain rfl:x = .ref t:=by rw [hy] at hx; rw [<- Option.some.inj hx,ey]
  refine ⟨t,[_,_],rfl,SqT.of (s1 _ _ et),rfl,_,[_],rfl,_,[],rfl,rfl,?_⟩
  walk_at "rd"
  have sp:spanF ls toT 0 = spanF (ls.drop i) toT (0 + widthL (ls.take i)):=by
   have:=spanF_skip (ls.take i) (ls.drop i) toT 0 h1
   rw [List.take_append_drop] at this
   exact this
  rw [List.drop_eq_getElem_cons hil,Nat.zero_add] at sp
  have w1:widthL (ls.take (i + 1)) = widthL (ls.take i) + ls[i].2:=by
   unfold widthL
   rw [List.take_add_one,List.getElem?_eq_getElem hil,Option.toList_some,List.map_append,List.sum_append]
   simp
  refine ite2 (fun g=>⟨by decide,fun t2 ht2=>?_⟩) fun g=>⟨some (tx ls[i].1),some (.int ls[i].2),?_,s1,fun y hy=>?_⟩
  ·refine q1 t2 _ (s1.free ht2) (s1.trans (same_new ht2 _)) ?_
   have e:spanG ls = (widthL (ls.take i),widthL (ls.take i) + ls[i].2):=by
    unfold spanG
    rw [sp,show ls[i] = (ls[i].1,ls[i].2) from rfl,spanF,if_pos (show ls[i].1 = toT from g)]
    rfl
   rw [upd_same,e]
   simp
  ·rw [w1]
   simp
  ·rw [List.take_add_one,List.getElem?_eq_getElem hil] at hy
   rcases List.mem_append.mp hy with hy | hy
   ·exact h1 y hy
   ·have e:y = ls[i]:=by simpa using hy
    rw [e]
    exact g
 ·rintro σ H1 ⟨u,v,rfl,s1,h1⟩
  walk_at "rd"
  have e:spanF ls toT 0 = none:=by
   have:=spanF_skip ls [] toT 0 fun x hx=>h1 x (by rw [<- hl,List.take_length]; exact hx)
   rw [List.append_nil] at this
   exact this
  refine ⟨by decide,fun t2 ht2=>q1 t2 _ (s1.free ht2) (s1.trans (same_new ht2 _)) ?_⟩
  rw [upd_same]
  unfold spanG
  rw [e]
  rfl
noncomputable def Th (H:Hp):Nat -> V -> D -> Prop
 | 0,v,d=>d = .f v /\ flatV v = true
 | n + 1,v,d=>(d = .f v /\ flatV v = true) \/ (∃ a vs ds,v = .ref a /\ d = .l ds /\ H a = some (.lst vs) /\ vs.length <= 1000 /\ Paired (Th H n) vs ds) \/ (∃ a vs ds,v = .ref a /\ d = .t ds /\ H a = some (.tup vs) /\ vs.length <= 1000 /\ Paired (Th H n) vs ds)
theorem th_same {H H':Hp} (s:Same H H'):∀ (n:Nat) {v:V} {d:D},Th H n v d -> Th H' n v d
 | 0,_,_,h=>h
 | n + 1,_,_,.inl h=>.inl h
 | n + 1,_,_,.inr (.inl ⟨a,vs,ds,e1,e2,e3,e4,p⟩)=>.inr (.inl ⟨a,vs,ds,e1,e2,s _ _ e3,e4,L2.Paired.mapP p fun _ _ z=>th_same s n z⟩)
 | n + 1,_,_,.inr (.inr ⟨a,vs,ds,e1,e2,e3,e4,p⟩)=>.inr (.inr ⟨a,vs,ds,e1,e2,s _ _ e3,e4,L2.Paired.mapP p fun _ _ z=>th_same s n z⟩)
theorem th_flat {H:Hp} {v:V} (n:Nat) (f:flatV v = true):Th H n v (.f v):=by
 cases n with
 | zero=>exact ⟨rfl,f⟩
 | succ n=>exact .inl ⟨rfl,f⟩
theorem paired_both {α β γ:Type} {F:α -> γ -> Prop} {G:β -> γ -> Prop}:∀ {xs:List α} {ys:List β} {ds:List γ},Paired F xs ds -> Paired G ys ds -> ∀ x ∈ xs.zip ys,∃ d,F x.1 d /\ G x.2 d
 | _,_,_,.nil,.nil,x,hx=>by simp at hx
 | _,_,_,.cons r p,.cons r' p',x,hx=>by
  rw [List.zip_cons_cons] at hx
  rcases List.mem_cons.mp hx with rfl | hx
  ·exact ⟨_,r,r'⟩
  ·exact paired_both p p' x hx
theorem all_yes {α:Type} {F:α -> V -> Hp -> Prop} {H:Hp}:∀ {xs:List α} {vs:List V},Paired (fun x v=>v = V.bl true) xs vs -> vs = (xs.map fun _=>true).map V.bl
 | _,_,.nil=>rfl
 | _,_,.cons r p=>by rw [List.map_cons,List.map_cons,<- all_yes (F:=F) (H:=H) p,r]
theorem all_id {α:Type} (xs:List α):(xs.map fun _=>true).all id = true:=by simp
theorem th_inv {H:Hp}:∀ {n:Nat} {v:V} {d:D},Th H n v d -> flatV v = true -> d = .f v
 | 0,_,_,h,_=>h.1
 | _ + 1,_,_,.inl h,_=>h.1
 | _ + 1,_,_,.inr (.inl ⟨_,_,_,e,_⟩),f=>by subst e; cases f
 | _ + 1,_,_,.inr (.inr ⟨_,_,_,e,_⟩),f=>by subst e; cases f
theorem th_of {H:Hp}:∀ {n:Nat} {u v:V},Th H n u (.f v) -> u = v
 | 0,_,_,h=>(D.f.inj h.1).symm
 | _ + 1,_,_,.inl h=>(D.f.inj h.1).symm
 | _ + 1,_,_,.inr (.inl ⟨_,_,_,_,e,_⟩)=>by cases e
 | _ + 1,_,_,.inr (.inr ⟨_,_,_,_,e,_⟩)=>by cases e
noncomputable def sp__law_same (K:Frag) (m:Nat):Sp:=fun vs H Q _=>match vs with
 | [v,u]=>∃ n d,n < m /\ Th H n v d /\ Th H n u d /\ ∀ H',Same H H' -> Q (.bl true) H'
 | _=>False
theorem rec__law_same (T:Top K mg):∀ m:Nat,Callee P w K mg base (m + 1) "_law_same" ["_law_found", "_law_due"] (sp__law_same K m):=by
 intro m
 induction m with
 | zero=>
  refine T.f__law_same.cal sc__law_same (by intro vs H Q E h; unfold sp__law_same at h; split at h <;> first | rfl | exact h.elim) (fun _ _ _ _ _ _ us hl=>match us,hl with | [_,_],_=>rfl) (fun f cdv A outer s H vs Q E hr h=>?_)
  unfold sp__law_same at h
  split at h
  case h_2=>exact h.elim
  obtain ⟨_,_,hn,_⟩:=h
  exact absurd hn (Nat.not_lt_zero _)
 | succ m ih=>
  refine T.f__law_same.cal sc__law_same (by intro vs H Q E h; unfold sp__law_same at h; split at h <;> first | rfl | exact h.elim) (fun _ _ _ _ _ _ us hl=>match us,hl with | [_,_],_=>rfl) (fun f cdv A outer s H vs Q E hr h=>?_)
  unfold sp__law_same at h
  split at h
  case h_2=>exact h.elim
  refine ⟨_,(pss_cons (ps_if (qt_cmp op_isK (qv 1) pe_non) (pss_one (ps_ret (qe_cmp op_isK (qv 0) pe_non))) pss_nil)
   (pss_cons (ps_if (PW.pt (pw_or (qt_val (qe_isinst .bool rfl T.b_isinstance (qv 1) rfl T.b_bool bb_bool)) (pw_or1 (qt_val (qe_isinst .bool rfl T.b_isinstance (qv 0) rfl T.b_bool bb_bool))))) (pss_one (ps_ret (qe_and (qe_isinst .bool rfl T.b_isinstance (qv 1) rfl T.b_bool bb_bool) (qe_and (qe_isinst .bool rfl T.b_isinstance (qv 0) rfl T.b_bool bb_bool) (pe_one (qe_cmp op_eqK (qv 0) (qv 1))))))) pss_nil)
   (pss_cons (ps_if (qt_val (qe_isinst .str rfl T.b_isinstance (qv 1) rfl T.b_str bb_str)) (pss_one (ps_ret (qe_and (qe_isinst .str rfl T.b_isinstance (qv 0) rfl T.b_str bb_str) (pe_one (qe_cmp op_eqK (qv 0) (qv 1)))))) pss_nil)
   (pss_cons (ps_if (qt_val (qe_isinst .int rfl T.b_isinstance (qv 1) rfl T.b_int bb_int)) (pss_one (ps_ret (qe_and (qe_isinst .int rfl T.b_isinstance (qv 0) rfl T.b_int bb_int) (pe_one (qe_cmp op_eqK (qv 0) (qv 1)))))) pss_nil)
   (pss_join (ps_if (qt_val (qe_isinst .tuple rfl T.b_isinstance (qv 1) rfl T.b_tuple bb_tuple)) (pss_one (ps_if (pt_not (qt_val (qe_isinst .tuple rfl T.b_isinstance (qv 0) rfl T.b_tuple bb_tuple))) (pss_one (ps_ret pe_bl)) pss_nil)) (pss_one (ps_if (pt_not (qt_val (qe_isinst .list rfl T.b_isinstance (qv 0) rfl T.b_list bb_list))) (pss_one (ps_ret pe_bl)) pss_nil)))
   (pss_cons (ps_if (qt_cmp op_neK (pe_callB (lenE K rfl) rfl T.b_len bb_len (pa_cons (qv 0) pa_nil)) (pe_callB (lenE K rfl) rfl T.b_len bb_len (pa_cons (qv 1) pa_nil))) (pss_one (ps_ret pe_bl)) pss_nil)
   (pss_one (ps_ret (pe_callB (call_allK K rfl rfl) rfl T.b_all bb_all (pa_cons (qe_comp (nt:=2) (fi:=[]) (N':=["_law_own", "_law_part"]) rfl (cscope rfl (by decide +kernel)) (cnames (N:=["_law_found", "_law_due"]) (sc:=defScope s__law_same) rfl rfl (by decide +kernel)) (gk_tup2 (by decide) (by decide)) (qi_zipA rfl rfl T.b_zip (qv 0) (qv 1)) (fun _ _ _ _ _=>(tupE K rfl rfl (n:=2) (pgs_cons (pg_name (i:=0) (by show (["_law_own", "_law_part"]:List Str).Nodup; decide +kernel) rfl lc) (pgs_cons (pg_name (i:=1) (by show (["_law_own", "_law_part"]:List Str).Nodup; decide +kernel) rfl lc) pgs_nil)))) (fun _ _ _ _ _=>pif_nil) (fun _ _ _ _ _=>(pe_fn ih hr.m rfl (pa_cons (qv 0) (pa_cons (qv 1) pa_nil))))) pa_nil)))))))))),?_⟩
  rename_i v u
  obtain ⟨n,d,hn,h1,h2,q⟩:=h
  by_cases fl:flatV v = true
  ·have ed:=th_inv h1 fl
   subst ed
   have eu:=th_of h2
   subst eu
   have q0:=q H (Same.refl _)
   cases u with
   | non=>walk_at "rd"; exact q0
   | bl b=>walk_at "rd"; exact q0
   | int i=>walk_at "rd"; exact q0
   | str z=>
    walk_at "rd"
    rw [if_neg (by intro y; cases y)]
    rw [a_kEqS]
    simpa using q0
   | _=>cases fl
  ·obtain _ | n:=n
   ·exact absurd h1.2 fl
   rcases h1 with h1 | ⟨a,vs,ds,rfl,rfl,e1,l1,p1⟩ | ⟨a,vs,ds,rfl,rfl,e1,l1,p1⟩
   ·exact absurd h1.2 fl
   ·rcases h2 with ⟨e2,_⟩ | ⟨b,us,ds2,rfl,ed,e2,l2,p2⟩ | ⟨b,us,ds2,rfl,ed,e2,l2,p2⟩
    ·cases e2
    ·cases ed
     walk_at "rd"
     rw [if_neg (by intro y; cases y)]
     refine .inl ⟨⟨_,e2⟩,.inl ⟨⟨_,e1⟩,.inl ⟨⟨_,e2⟩,.inl ⟨⟨_,e2⟩,fun σ' H'=>σ' = [some (.ref a),some (.ref b)] /\ H' = H,.inl ⟨⟨_,e2⟩,.inl ⟨⟨_,e1⟩,rfl,rfl⟩⟩,?_⟩⟩⟩⟩
     rintro σ' H' ⟨rfl,rfl⟩
     walk_at "rd"
     have l3:=p1.length
     have l4:=p2.length
     have lz:(vs.zip us).length = vs.length:=by rw [List.length_zip]; omega
     refine ⟨vs,.inl (SqL.of e1),us,.inl (SqL.of e2),?_⟩
     rw [if_pos (by omega)]
     refine .inl ⟨⟨_,SqL.of e1⟩,⟨_,SqL.of e2⟩,fun D hD=>?_⟩
     refine comp_gen (vs.zip us) (fun _=>true) (fun _ v _=>v = .bl true) hD (by omega) (fun i H1 hi s1=>⟨⟨vs,vs[i],SqL.of (s1 _ _ e1),List.getElem?_eq_getElem (by omega)⟩,⟨us,us[i],SqL.of (s1 _ _ e2),List.getElem?_eq_getElem (by omega)⟩⟩) (fun H1 s1=>.inl ⟨vs,SqL.of (s1 _ _ e1),by omega⟩) ?_ (fun _ _ _ _ _ _ _ r=>r) ?_ ?_
     ·rintro i H1 v H2 _ ⟨S,x,y,rfl,hS,rfl,_,_⟩
      exact same_new hS _
     ·rintro i x v H1 H2 out non hx s1 ⟨S,x1,x2,rfl,hS,rfl,a1,a2⟩ ho _
      obtain ⟨z1,z2⟩:=List.getElem?_zip_eq_some.mp hx
      have y1:=(a1 vs (SqL.of (s1 _ _ e1)))
      have y2:=(a2 us (SqL.of (s1 _ _ e2)))
      rw [z1] at y1
      rw [z2] at y2
      cases y1
      cases y2
      obtain ⟨d,t1,t2⟩:=paired_both p1 p2 x (List.mem_of_getElem? hx)
      have s2:=s1.trans (same_new hS (.tup [x.1,x.2]))
      refine ⟨S,[_,_],rfl,SqT.of upd_same,rfl,_,[_],rfl,_,[],rfl,rfl,?_⟩
      walk_at "rd"
      exact ⟨n,d,by omega,th_same s2 n t1,th_same s2 n t2,fun H3 s3=>ho _ H3 rfl s3 rfl⟩
     ·intro H1 ws s1 e3 p3
      rw [all_yes (F:=fun _ _ _=>True) (H:=H') p3] at e3
      walk_at "rd"
      refine ⟨_,SqL.of e3,?_⟩
      rw [all_id]
      exact q H1 s1
    ·cases ed
   ·rcases h2 with ⟨e2,_⟩ | ⟨b,us,ds2,rfl,ed,e2,l2,p2⟩ | ⟨b,us,ds2,rfl,ed,e2,l2,p2⟩
    ·cases e2
    ·cases ed
    ·cases ed
     walk_at "rd"
     rw [if_neg (by intro y; cases y)]
     refine .inr ⟨⟨_,e2⟩,.inr ⟨⟨_,e1⟩,.inr ⟨⟨_,e2⟩,.inr ⟨⟨_,e2⟩,fun σ' H'=>σ' = [some (.ref a),some (.ref b)] /\ H' = H,.inr ⟨⟨_,e2⟩,.inr ⟨⟨_,e1⟩,rfl,rfl⟩⟩,?_⟩⟩⟩⟩
     rintro σ' H' ⟨rfl,rfl⟩
     walk_at "rd"
     have l3:=p1.length
     have l4:=p2.length
     have lz:(vs.zip us).length = vs.length:=by rw [List.length_zip]; omega
     refine ⟨vs,.inr (SqT.of e1),us,.inr (SqT.of e2),?_⟩
     rw [if_pos (by omega)]
     refine .inr ⟨a,b,rfl,rfl,⟨_,e1⟩,⟨_,e2⟩,fun D hD=>?_⟩
     refine comp_gen (vs.zip us) (fun _=>true) (fun _ v _=>v = .bl true) hD (by omega) (fun i H1 hi s1=>⟨⟨vs,vs[i],s1 _ _ e1,List.getElem?_eq_getElem (by omega)⟩,⟨us,us[i],s1 _ _ e2,List.getElem?_eq_getElem (by omega)⟩⟩) (fun H1 s1=>.inl ⟨vs,s1 _ _ e1,by omega⟩) ?_ (fun _ _ _ _ _ _ _ r=>r) ?_ ?_
     ·rintro i H1 v H2 _ ⟨S,x,y,rfl,hS,rfl,_,_⟩
      exact same_new hS _
     ·rintro i x v H1 H2 out non hx s1 ⟨S,x1,x2,rfl,hS,rfl,a1,a2⟩ ho _
      obtain ⟨z1,z2⟩:=List.getElem?_zip_eq_some.mp hx
      have y1:=(a1 vs (s1 _ _ e1))
      have y2:=(a2 us (s1 _ _ e2))
      rw [z1] at y1
      rw [z2] at y2
      cases y1
      cases y2
      obtain ⟨d,t1,t2⟩:=paired_both p1 p2 x (List.mem_of_getElem? hx)
      have s2:=s1.trans (same_new hS (.tup [x.1,x.2]))
      refine ⟨S,[_,_],rfl,SqT.of upd_same,rfl,_,[_],rfl,_,[],rfl,rfl,?_⟩
      walk_at "rd"
      exact ⟨n,d,by omega,th_same s2 n t1,th_same s2 n t2,fun H3 s3=>ho _ H3 rfl s3 rfl⟩
     ·intro H1 ws s1 e3 p3
      rw [all_yes (F:=fun _ _ _=>True) (H:=H') p3] at e3
      walk_at "rd"
      refine ⟨_,SqL.of e3,?_⟩
      rw [all_id]
      exact q H1 s1
theorem ok__law_same (T:Top K mg):Callee P w K mg base 11 "_law_same" ["_law_found", "_law_due"] (sp__law_same K 10):=rec__law_same T 10
noncomputable def ThN (N:Addr -> Prop) (H:Hp):Nat -> V -> D -> Prop
 | 0,v,d=>d = .f v /\ flatV v = true
 | n + 1,v,d=>(d = .f v /\ flatV v = true) \/ (∃ a vs ds,v = .ref a /\ d = .l ds /\ N a /\ H a = some (.lst vs) /\ vs.length <= 1000 /\ Paired (ThN N H n) vs ds) \/ (∃ a vs ds,v = .ref a /\ d = .t ds /\ N a /\ H a = some (.tup vs) /\ vs.length <= 1000 /\ Paired (ThN N H n) vs ds)
theorem thN_imp {N N':Addr -> Prop} {H H':Hp} (s:∀ a o,N a -> H a = some o -> H' a = some o) (f:∀ a,N a -> N' a):∀ (n:Nat) {v:V} {d:D},ThN N H n v d -> ThN N' H' n v d
 | 0,_,_,h=>h
 | n + 1,_,_,.inl h=>.inl h
 | n + 1,_,_,.inr (.inl ⟨a,vs,ds,e1,e2,k,e3,e4,p⟩)=>.inr (.inl ⟨a,vs,ds,e1,e2,f _ k,s _ _ k e3,e4,L2.Paired.mapP p fun _ _ z=>thN_imp s f n z⟩)
 | n + 1,_,_,.inr (.inr ⟨a,vs,ds,e1,e2,k,e3,e4,p⟩)=>.inr (.inr ⟨a,vs,ds,e1,e2,f _ k,s _ _ k e3,e4,L2.Paired.mapP p fun _ _ z=>thN_imp s f n z⟩)
theorem thN_th {N:Addr -> Prop} {H:Hp}:∀ (n:Nat) {v:V} {d:D},ThN N H n v d -> Th H n v d
 | 0,_,_,h=>h
 | n + 1,_,_,.inl h=>.inl h
 | n + 1,_,_,.inr (.inl ⟨a,vs,ds,e1,e2,k,e3,e4,p⟩)=>.inr (.inl ⟨a,vs,ds,e1,e2,e3,e4,L2.Paired.mapP p fun _ _ z=>thN_th n z⟩)
 | n + 1,_,_,.inr (.inr ⟨a,vs,ds,e1,e2,k,e3,e4,p⟩)=>.inr (.inr ⟨a,vs,ds,e1,e2,e3,e4,L2.Paired.mapP p fun _ _ z=>thN_th n z⟩)
theorem paired_idx {α β:Type} {F:α -> β -> Prop}:∀ {xs:List α} {ds:List β},Paired F xs ds -> ∀ {i:Nat} {x:α},xs[i]? = some x -> ∃ d,ds[i]? = some d /\ F x d
 | _,_,.nil,i,x,h=>by simp at h
 | _,_,.cons r p,0,x,h=>by simp at h; subst h; exact ⟨_,rfl,r⟩
 | _,_,.cons r p,i + 1,x,h=>by simpa using paired_idx p (by simpa using h)
theorem paired_ends {α β γ:Type} {F:β -> γ -> Prop}:∀ {xs:List (α × γ)} {vs:List β},Paired (fun x v=>F v x.2) xs vs -> Paired F vs (xs.map (·.2))
 | _,_,.nil=>.nil
 | _,_,.cons r p=>.cons r (paired_ends p)
noncomputable def sp__law_copy (K:Frag) (m:Nat):Sp:=fun vs H Q _=>match vs with
 | [v]=>∃ n d,n < m /\ Th H n v d /\ ∀ v' H',Same H H' -> ThN (fun a=>H a = none) H' n v' d -> Q v' H'
 | _=>False
theorem rec__law_copy (T:Top K mg):∀ m:Nat,Callee P w K mg base (m + 1) "_law_copy" ["_law_thing"] (sp__law_copy K m):=by
 intro m
 induction m with
 | zero=>
  refine T.f__law_copy.cal sc__law_copy (by intro vs H Q E h; unfold sp__law_copy at h; split at h <;> first | rfl | exact h.elim) (fun _ _ _ _ _ _ us hl=>match us,hl with | [_],_=>rfl) (fun f cdv A outer s H vs Q E hr h=>?_)
  unfold sp__law_copy at h
  split at h
  case h_2=>exact h.elim
  obtain ⟨_,_,hn,_⟩:=h
  exact absurd hn (Nat.not_lt_zero _)
 | succ m ih=>
  refine T.f__law_copy.cal sc__law_copy (by intro vs H Q E h; unfold sp__law_copy at h; split at h <;> first | rfl | exact h.elim) (fun _ _ _ _ _ _ us hl=>match us,hl with | [_],_=>rfl) (fun f cdv A outer s H vs Q E hr h=>?_)
  unfold sp__law_copy at h
  split at h
  case h_2=>exact h.elim
  refine ⟨_,(pss_cons (ps_if (qt_val (qe_isinst .list rfl T.b_isinstance (qv 0) rfl T.b_list bb_list)) (pss_one (ps_ret (qe_comp (nt:=1) (fi:=[]) (N':=["_law_part"]) rfl (cscope rfl (by decide +kernel)) (cnames (N:=["_law_thing"]) (sc:=defScope s__law_copy) rfl rfl (by decide +kernel)) (gk_name (by decide)) (iterE K rfl (qv 0)) (fun _ _ _ _ _=>(pg_name (i:=0) (by show (["_law_part"]:List Str).Nodup; decide +kernel) rfl lc)) (fun _ _ _ _ _=>pif_nil) (fun _ _ _ _ _=>(pe_fn ih hr.m rfl (pa_cons (qv 0) pa_nil)))))) pss_nil)
   (pss_cons (ps_if (qt_val (qe_isinst .tuple rfl T.b_isinstance (qv 0) rfl T.b_tuple bb_tuple)) (pss_one (ps_ret (pe_callTy (call_tupL K rfl) rfl T.b_tuple bb_tuple (pa_cons (qe_comp (nt:=1) (fi:=[]) (N':=["_law_part"]) rfl (cscope rfl (by decide +kernel)) (cnames (N:=["_law_thing"]) (sc:=defScope s__law_copy) rfl rfl (by decide +kernel)) (gk_name (by decide)) (iterE K rfl (qv 0)) (fun _ _ _ _ _=>(pg_name (i:=0) (by show (["_law_part"]:List Str).Nodup; decide +kernel) rfl lc)) (fun _ _ _ _ _=>pif_nil) (fun _ _ _ _ _=>(pe_fn ih hr.m rfl (pa_cons (qv 0) pa_nil)))) pa_nil)))) pss_nil)
   (pss_one (ps_ret (qv 0))))),?_⟩
  rename_i v
  obtain ⟨n,d,hn,h1,q⟩:=h
  by_cases fl:flatV v = true
  ·have ed:=th_inv h1 fl
   subst ed
   have q0:=q v H (Same.refl _) (by cases n with | zero=>exact ⟨rfl,fl⟩ | succ n=>exact .inl ⟨rfl,fl⟩)
   cases v with
   | non=>walk_at "rd"; exact q0
   | bl b=>walk_at "rd"; exact q0
   | int i=>walk_at "rd"; exact q0
   | str z=>walk_at "rd"; exact q0
   | _=>cases fl
  ·obtain _ | n:=n
   ·exact absurd h1.2 fl
   rcases h1 with h1 | ⟨a,vs,ds,rfl,rfl,e1,l1,p1⟩ | ⟨a,vs,ds,rfl,rfl,e1,l1,p1⟩
   ·exact absurd h1.2 fl
   ·have l3:=p1.length
    have lz:(vs.zip ds).length = vs.length:=by rw [List.length_zip]; omega
    walk_at "rd"
    refine .inl ⟨⟨_,e1⟩,.inl ⟨⟨_,SqL.of e1⟩,fun D hD=>?_⟩⟩
    refine comp_genD (vs.zip ds) (fun x v H1=>ThN (fun b=>b ≠ D /\ H b = none) H1 n v x.2) hD (by omega) (fun i H1 hi s1=>⟨vs,vs[i],SqL.of (s1 _ _ e1),List.getElem?_eq_getElem (by omega)⟩) (fun H1 s1=>⟨vs,SqL.of (s1 _ _ e1),by omega⟩) ?_ (fun x v H1 H2 acc _ k r=>thN_imp (fun b o nb e=>k b o nb.1 e) (fun _ z=>z) n r) ?_ ?_
    ·rintro i H1 v H2 _ ⟨rfl,_⟩
     exact Same.refl _
    ·rintro i x v H1 H2 out non hx s1 nD ⟨rfl,a1⟩ ho
     obtain ⟨z1,z2⟩:=List.getElem?_zip_eq_some.mp hx
     have y1:=a1 vs (SqL.of (s1 _ _ e1))
     rw [z1] at y1
     cases y1
     obtain ⟨d,z3,t1⟩:=paired_idx p1 z1
     rw [z2] at z3
     cases z3
     walk_at "rd"
     exact ⟨n,x.2,by omega,th_same s1 n t1,fun v' H6 s6 t6=>ho v' H6 s6 (thN_imp (fun _ _ _ e=>e) (fun b hb=>⟨nD b hb,s1.free hb⟩) n t6)⟩
    ·intro H1 ws s1 e3 p3
     have l4:=p3.length
     have pe:=paired_ends p3
     rw [List.map_snd_zip (by omega)] at pe
     refine q (.ref D) H1 s1 (.inr (.inl ⟨D,ws,ds,rfl,rfl,hD,e3,by omega,?_⟩))
     exact L2.Paired.mapP pe fun _ _ z=>thN_imp (fun _ _ _ e=>e) (fun b hb=>hb.2) n z
   ·have l3:=p1.length
    have lz:(vs.zip ds).length = vs.length:=by rw [List.length_zip]; omega
    walk_at "rd"
    refine .inr ⟨⟨_,e1⟩,.inr ⟨⟨_,e1⟩,.inr ⟨⟨_,SqT.of e1⟩,fun D hD=>?_⟩⟩⟩
    refine comp_genD (vs.zip ds) (fun x v H1=>ThN (fun b=>b ≠ D /\ H b = none) H1 n v x.2) hD (by omega) (fun i H1 hi s1=>⟨vs,vs[i],SqT.of (s1 _ _ e1),List.getElem?_eq_getElem (by omega)⟩) (fun H1 s1=>⟨vs,SqT.of (s1 _ _ e1),by omega⟩) ?_ (fun x v H1 H2 acc _ k r=>thN_imp (fun b o nb e=>k b o nb.1 e) (fun _ z=>z) n r) ?_ ?_
    ·rintro i H1 v H2 _ ⟨rfl,_⟩
     exact Same.refl _
    ·rintro i x v H1 H2 out non hx s1 nD ⟨rfl,a1⟩ ho
     obtain ⟨z1,z2⟩:=List.getElem?_zip_eq_some.mp hx
     have y1:=a1 vs (SqT.of (s1 _ _ e1))
     rw [z1] at y1
     cases y1
     obtain ⟨d,z3,t1⟩:=paired_idx p1 z1
     rw [z2] at z3
     cases z3
     walk_at "rd"
     exact ⟨n,x.2,by omega,th_same s1 n t1,fun v' H6 s6 t6=>ho v' H6 s6 (thN_imp (fun _ _ _ e=>e) (fun b hb=>⟨nD b hb,s1.free hb⟩) n t6)⟩
    ·intro H1 ws s1 e3 p3
     have l4:=p3.length
     have pe:=paired_ends p3
     rw [List.map_snd_zip (by omega)] at pe
     walk_at "rd"
     refine ⟨ws,SqL.of e3,fun l hl=>q (.ref l) _ (s1.trans (same_new hl _)) (.inr (.inr ⟨l,ws,ds,rfl,rfl,s1.free hl,upd_same,by omega,?_⟩))⟩
     exact L2.Paired.mapP pe fun _ _ z=>thN_imp (fun b o _ e=>same_new hl _ _ _ e) (fun b hb=>hb.2) n z
theorem ok__law_copy (T:Top K mg):Callee P w K mg base 11 "_law_copy" ["_law_thing"] (sp__law_copy K 10):=rec__law_copy T 10
noncomputable def cellN (ns:List Int) (k:Nat):Int:=if 0 < ns.length then (ns.getD (k % ns.length) 0) % 2147483647 else 0
noncomputable def drawN (ns:List Int) (k m:Nat):Nat:=((cellN ns k * (742938285 + 9973 * (k:Int) * (k:Int)) + (k:Int) * 630360016) % 2147483647 / 97 % (m:Int)).toNat
theorem cellN_lt (ns:List Int) (k:Nat):0 <= cellN ns k /\ cellN ns k < 2147483647:=by
 unfold cellN
 split
 ·exact ⟨Int.emod_nonneg _ (by decide),Int.emod_lt_of_pos _ (by decide)⟩
 ·decide
theorem drawN_lt (ns:List Int) (k:Nat) {m:Nat} (h:1 <= m):drawN ns k m < m:=by
 unfold drawN
 generalize (cellN ns k * (742938285 + 9973 * (k:Int) * (k:Int)) + (k:Int) * 630360016) % 2147483647 / 97 = z
 have z0:0 <= z % (m:Int):=Int.emod_nonneg _ (by omega)
 have z1:z % (m:Int) < m:=Int.emod_lt_of_pos _ (by omega)
 omega
noncomputable def sp__law_draw (K:Frag):Sp:=fun vs H Q _=>match vs with
 | [.ref a,.int k,.int m]=>∃ (ns:List Int) (k0 m0:Nat),SqL K H a (ns.map V.int) /\ k = (k0:Int) /\ k0 <= 100000 /\ m = (m0:Int) /\ 1 <= m0 /\ m0 <= 100000 /\ Q (.int (drawN ns k0 m0:Nat)) H
 | _=>False
theorem ok__law_draw (T:Top K mg):Callee P w K mg base 1 "_law_draw" ["_law_script", "_law_k", "_law_many"] (sp__law_draw K):=by
 refine T.f__law_draw.cal sc__law_draw (by intro vs H Q E h; unfold sp__law_draw at h; split at h <;> first | rfl | exact h.elim) (fun _ _ _ _ _ _ us hl=>match us,hl with | [_,_,_],_=>rfl) (fun f cdv A outer s H vs Q E hr h=>?_)
 unfold sp__law_draw at h
 split at h
 case h_2=>exact h.elim
 refine ⟨_,(pss_cons (ps_set (i:=3) sc__law_draw.nd rfl lc pe_int)
   (pss_join (ps_if (qt_cmp op_gtK (pe_callB (lenE K rfl) rfl T.b_len bb_len (pa_cons (qv 0) pa_nil)) pe_int) (pss_one (ps_set (i:=3) sc__law_draw.nd rfl lc (pe_op op_modK (pe_ix (ixE K rfl) (qv 0) (pe_op op_modK (qv 1) (pe_callB (lenE K rfl) rfl T.b_len bb_len (pa_cons (qv 0) pa_nil))) (fun _ _=>rfl)) pe_int))) pss_nil)
   (pss_cons (ps_set (i:=4) sc__law_draw.nd rfl lc (pe_op op_addK (pe_op op_mulK (qv 3) (pe_op op_addK pe_int (pe_op op_mulK (pe_op op_mulK pe_int (qv 1)) (qv 1)))) (pe_op op_mulK (qv 1) pe_int)))
   (pss_one (ps_ret (pe_op op_modK (pe_op op_fdivK (pe_op op_modK (qv 4) pe_int) pe_int) (qv 2))))))),?_⟩
 rename_i a k m
 obtain ⟨ns,k0,m0,hS,rfl,hk1,rfl,hm0,hm1,q⟩:=h
 walk_at "rd"
 refine ⟨fun σ' H'=>σ' = [some (.ref a),some (.int (k0:Nat)),some (.int (m0:Nat)),some (.int (cellN ns k0)),none] /\ H' = H,⟨_,.inl hS,ite2 (fun g=>⟨_,.inl hS,by simpa using g,?_⟩) fun g=>?_⟩,?_⟩
 ·rw [List.length_map] at g ⊢
  have hl:0 < ns.length:=by omega
  have hj:k0 % ns.length < ns.length:=Nat.mod_lt _ hl
  refine ⟨_,V.int ns[k0 % ns.length],.inl hS,?_,?_⟩
  ·rw [show (k0:Int) % (ns.length:Int) = ((k0 % ns.length:Nat):Int) by omega]
   exact atI_nat (by rw [List.getElem?_map,List.getElem?_eq_getElem hj]; rfl)
  walk_at "rd"
  have e:cellN ns k0 = ns[k0 % ns.length] % 2147483647:=by
   unfold cellN
   rw [if_pos hl,List.getD_eq_getElem?_getD,List.getElem?_eq_getElem hj]
   rfl
  rw [e]
 ·rw [List.length_map] at g
  have e:cellN ns k0 = 0:=by
   unfold cellN
   rw [if_neg (by omega)]
  rw [e]
  exact ⟨rfl,rfl⟩
 ·rintro σ' H' ⟨rfl,rfl⟩
  walk_at "rd"
  obtain ⟨c0,c1⟩:=cellN_lt ns k0
  have hc (x:Int) (h0:0 <= x) (h1:x <= 2147483647):-(2 ^ 64) < x /\ x < 2 ^ 64:=⟨Int.lt_of_lt_of_le (by decide) h0,Int.lt_of_le_of_lt h1 (by decide)⟩
  refine ⟨.inr (hc k0 (by omega) (by omega)),.inr (hc k0 (by omega) (by omega)),.inl (hc _ c0 (by omega)),.inl (hc k0 (by omega) (by omega)),by omega,?_⟩
  unfold drawN at q
  rw [Int.toNat_of_nonneg (Int.emod_nonneg _ (by omega))] at q
  exact q
theorem draw_to {H:Hp} {a:Addr} {k m:Int} {ns:List Int} {Q:VK} {E:XK} (hS:SqL K H a (ns.map V.int)) (hk0:0 <= k) (hk1:k <= 100000) (hm0:1 <= m) (hm1:m <= 100000) (q:∀ r:Nat,(r:Int) < m -> Q (.int (r:Nat)) H):sp__law_draw K [.ref a,.int k,.int m] H Q E:=
 ⟨ns,k.toNat,m.toNat,hS,by omega,by omega,by omega,by omega,by omega,q _ (by have:=drawN_lt ns k.toNat (m:=m.toNat) (by omega); omega)⟩
theorem draw_is {H:Hp} {a:Addr} {k m:Nat} {ns:List Int} {Q:VK} {E:XK} (hS:SqL K H a (ns.map V.int)) (hk1:k <= 100000) (hm0:1 <= m) (hm1:m <= 100000) (q:Q (.int (drawN ns k m:Nat)) H):sp__law_draw K [.ref a,.int (k:Int),.int (m:Int)] H Q E:=
 ⟨ns,k,m,hS,rfl,hk1,rfl,hm0,hm1,q⟩
noncomputable abbrev sgn (c:Nat):V:=V.str (st [c])
noncomputable abbrev nV (n:Nat):V:=V.int (n:Int)
theorem ixN_nat {n x:Nat} (h:x < n):ixN n (x:Int) = some x:=by
 unfold ixN
 simp
 omega
theorem atI_mod {α:Type} {l:List α} (h:1 <= l.length) (N:Nat):∃ c,c ∈ l /\ atI l ((N:Int) % (l.length:Int)) = some c:=by
 have hj:N % l.length < l.length:=Nat.mod_lt _ (by omega)
 refine ⟨l[N % l.length],List.getElem_mem hj,?_⟩
 rw [show ((N:Int) % (l.length:Int)) = ((N % l.length:Nat):Int) by omega]
 exact atI_nat (List.getElem?_eq_getElem hj)
noncomputable def sp__law_signs (K:Frag):Sp:=fun vs H Q _=>match vs with
 | [.int n,.ref p,.int w,.str menu]=>∃ (N W:Nat) (ps:List Nat),n = (N:Int) /\ w = (W:Int) /\ W <= 1000 /\ SqL K H p (ps.map nV) /\ (∀ x ∈ ps,x < W) /\ 1 <= menu.cps.toList.length /\ menu.cps.toList.length <= 100 /\
   ∀ r H',Same H H' -> r.length = W -> (∀ c ∈ r,c = 45 \/ c ∈ menu.cps.toList) -> Q (tx r) H'
 | _=>False
theorem ok__law_signs (T:Top K mg):Callee P w K mg base 1 "_law_signs" ["_law_number", "_law_places", "_law_width_here", "_law_menu"] (sp__law_signs K):=by
 refine T.f__law_signs.cal sc__law_signs (by intro vs H Q E h; unfold sp__law_signs at h; split at h <;> first | rfl | exact h.elim) (fun _ _ _ _ _ _ us hl=>match us,hl with | [_,_,_,_],_=>rfl) (fun f cdv A outer s H vs Q E hr h=>?_)
 unfold sp__law_signs at h
 split at h
 case h_2=>exact h.elim
 refine ⟨_,(pss_cons (ps_set (i:=4) sc__law_signs.nd rfl lc (pe_op op_mulL (pe_lst (pa_cons (qs [45]) pa_nil)) (qv 2)))
   (pss_cons (qs_for PassesOwn.never rfl (iterE K rfl (qv 1)) (pg_name (i:=5) sc__law_signs.nd rfl lc) (pss_cons (ps_asg (pe_ix (ixE K rfl) (qv 3) (pe_op op_modK (qv 0) (pe_callB (lenE K rfl) rfl T.b_len bb_len (pa_cons (qv 3) pa_nil))) (fun _ _=>rfl)) (pg_sub (qv 4) (qv 5) set_list (fun _=>rfl)))
   (pss_one (ps_set (i:=0) sc__law_signs.nd rfl lc (pe_op op_fdivK (qv 0) (pe_callB (lenE K rfl) rfl T.b_len bb_len (pa_cons (qv 3) pa_nil)))))))
   (pss_one (ps_ret (joinE K rfl (qv 4)))))),?_⟩
 rename_i n p w' z
 obtain ⟨mn,rfl⟩:∃ x,z = st x:=⟨_,(st_eta z).symm⟩
 obtain ⟨N,W,ps,rfl,rfl,hW,hS,hp,hm,hm2,q⟩:=h
 simp only [st_cps] at hm hm2 q
 walk_at "rd"
 refine ⟨by decide,fun p1 hp1=>⟨_,upd_same,by omega,by omega,by decide,fun g hg=>?_⟩⟩
 have n1:=same_new hp1 (.lst [V.str (st [45])])
 have hg0:H g = none:=n1.free hg
 have s1:=n1.trans (same_new hg (.lst (List.replicate (W:Int).toNat [V.str (st [45])]).flatten))
 refine .inl ⟨⟨_,s1.seq hS⟩,?_⟩
 refine loop_items nV ps (fun i σ H'=>∃ (M:Nat) (r:List Nat) (u:Option V),σ = [some (nV M),some (.ref p),some (nV W),some (.str (st mn)),some (.ref g),u] /\ Same H H' /\ H' g = some (.lst (r.map sgn)) /\ r.length = W /\ ∀ c ∈ r,c = 45 \/ c ∈ mn)
  ⟨N,List.replicate W 45,none,rfl,s1,?_,by simp,fun c hc=>.inl (List.eq_of_mem_replicate hc)⟩ (fun i σ H' _ ⟨_,_,_,_,z,_⟩=>z.seq hS) ?_ ?_
 ·rw [upd_same,Int.toNat_natCast]
  simp
 ·rintro i x σ H1 hx ⟨M,r,u,rfl,s2,e2,hl,hc⟩
  have hxW:=hp x (List.mem_of_getElem? hx)
  walk_at "rd"
  obtain ⟨c,hcm,ec⟩:=atI_mod hm M
  refine ⟨by omega,by omega,by omega,c,ec,_,x,e2,ixN_nat (by rw [List.length_map]; omega),by omega,⟨by omega,by omega⟩,M / mn.length,r.set x c,_,rfl,same_upd s2 hg0,?_,by rw [List.length_set]; exact hl,fun d hd=>?_⟩
  ·rw [upd_same,List.map_set]
  ·rcases List.mem_or_eq_of_mem_set hd with z | z
   ·exact hc d z
   ·rw [z]
    exact .inr hcm
 ·rintro σ H1 ⟨M,r,u,rfl,s2,e2,hl,hc⟩
  walk_at "rd"
  exact ⟨r,SqL.of e2,by omega,q r H1 s2 hl hc⟩
theorem paired_out {α β:Type} {F:α -> V -> Prop} {P:β -> Prop} {g:β -> V} (h:∀ a v,F a v -> ∃ b,P b /\ v = g b):∀ {l:List α} {vs:List V},Paired F l vs -> ∃ bs:List β,vs = bs.map g /\ bs.length = l.length /\ ∀ b ∈ bs,P b
 | _,_,.nil=>⟨[],rfl,rfl,fun b hb=>by simp at hb⟩
 | _,_,.cons r p=>by
  obtain ⟨b,h1,rfl⟩:=h _ _ r
  obtain ⟨bs,rfl,h3,h4⟩:=paired_out h p
  refine ⟨b :: bs,rfl,by simp [h3],fun c hc=>?_⟩
  rcases List.mem_cons.mp hc with rfl | hc
  ·exact h1
  ·exact h4 c hc
theorem atI_lt {α:Type} {l:List α} {i:Nat} (h:i < l.length):∃ c,c ∈ l /\ atI l (i:Int) = some c:=⟨l[i],List.getElem_mem h,atI_nat (List.getElem?_eq_getElem h)⟩
theorem pick_int {cs:List Nat} {B:Nat} {vs:List V} (e:vs = cs.map nV) (h:∀ c ∈ cs,c <= B) {i:Nat} (hi:i < vs.length):∃ c,c <= B /\ atI vs (i:Int) = some (nV c):=by
 subst e
 obtain ⟨v,hv,ev⟩:=atI_lt hi
 obtain ⟨c,hc,rfl⟩:=List.mem_map.mp hv
 exact ⟨c,h c hc,ev⟩
noncomputable def sp__law_over_at (K:Frag):Sp:=fun vs H Q _=>match vs with
 | [.ref a,.ref p]=>∃ (ns:List Int) (ps:List Nat),SqL K H a (ns.map V.int) /\ SqL K H p (ps.map nV) /\ 1 <= ps.length /\ ps.length <= 100 /\ ∀ (q:Addr) (H':Hp) (os:List Nat),H q = none -> Same H H' -> H' q = some (.lst (os.map nV)) -> (∀ x ∈ os,x ∈ ps) -> Q (.ref q) H'
 | _=>False
theorem ok__law_over_at (T:Top K mg):Callee P w K mg base 2 "_law_over_at" ["_law_script", "_law_told_here"] (sp__law_over_at K):=by
 refine T.f__law_over_at.cal sc__law_over_at (by intro vs H Q E h; unfold sp__law_over_at at h; split at h <;> first | rfl | exact h.elim) (fun _ _ _ _ _ _ us hl=>match us,hl with | [_,_],_=>rfl) (fun f cdv A outer s H vs Q E hr h=>?_)
 unfold sp__law_over_at at h
 split at h
 case h_2=>exact h.elim
 refine ⟨_,(pss_cons (ps_set (i:=2) sc__law_over_at.nd rfl lc (pe_fn (ok__law_draw T) hr.m rfl (pa_cons (qv 0) (pa_cons pe_int (pa_cons (pe_callB (lenE K rfl) rfl T.b_len bb_len (pa_cons (qv 1) pa_nil)) pa_nil)))))
   (pss_cons (ps_set (i:=3) sc__law_over_at.nd rfl lc (pe_ix (ixE K rfl) (pe_lst (pa_cons pe_int (pa_cons pe_int (pa_cons pe_int (pa_cons pe_int (pa_cons pe_int (pa_cons pe_int pa_nil))))))) (pe_fn (ok__law_draw T) hr.m rfl (pa_cons (qv 0) (pa_cons pe_int (pa_cons pe_int pa_nil)))) (fun _ _=>rfl)))
   (pss_one (ps_ret (qe_comp (nt:=1) (fi:=[1,2]) (N':=["_law_j", "_law_told_here", "_law_turn"]) rfl (cscope rfl (by decide +kernel)) (cnames (N:=["_law_script", "_law_told_here", "_law_turn", "_law_count"]) (sc:=defScope s__law_over_at) rfl rfl (by decide +kernel)) (gk_name (by decide)) (qi_range1 rfl T.b_range (pe_callB (call_min2K rfl) rfl T.b_min bb_min (pa_cons (qv 3) (pa_cons (pe_callB (lenE K rfl) rfl T.b_len bb_len (pa_cons (qv 1) pa_nil)) pa_nil)))) (fun _ _ _ _ _=>(pg_name (i:=0) (by show (["_law_j", "_law_told_here", "_law_turn"]:List Str).Nodup; decide +kernel) rfl lc)) (fun _ _ _ _ _=>pif_nil) (fun _ _ _ _ _=>(pe_ix (ixE K rfl) (qv 1) (pe_op op_modK (pe_op op_addK (qv 2) (qv 0)) (pe_callB (lenE K rfl) rfl T.b_len bb_len (pa_cons (qv 1) pa_nil))) (fun _ _=>rfl)))))))),?_⟩
 rename_i a p
 obtain ⟨ns,ps,hS,hP,h1,h2,q⟩:=h
 have hlm:(ps.map nV).length = ps.length:=List.length_map ..
 walk_at "rd"
 refine ⟨_,.inl hP,draw_to hS (by decide) (by decide) (by omega) (by omega) fun r1 hr1=>?_⟩
 walk_at "rd"
 refine ⟨by decide,fun p1 hp1=>?_⟩
 have s1:=same_new hp1 (.lst [V.int 0,V.int 1,V.int 2,V.int 3,V.int 2,V.int 3])
 refine draw_to (s1.seq hS) (by decide) (by decide) (by decide) (by decide) fun r2 hr2=>?_
 obtain ⟨c,hc,ec⟩:=pick_int (cs:=[0,1,2,3,2,3]) (B:=3) (vs:=[V.int 0,V.int 1,V.int 2,V.int 3,V.int 2,V.int 3]) rfl (by decide) (i:=r2) (by show r2 < 6; omega)
 walk_at "rd"
 refine ⟨_,_,.inl (SqL.of upd_same),ec,_,.inl (s1.seq hP),?_⟩
 walk_at "rd"
 rw [hlm]
 have hz:∃ z:Nat,(if (ps.length:Int) < (c:Int) then (ps.length:Int) else (c:Int)) = (z:Int) /\ z <= 100:=by
  split
  ·exact ⟨_,rfl,h2⟩
  ·exact ⟨_,rfl,by omega⟩
 obtain ⟨z,ez,hz⟩:=hz
 rw [ez,Int.toNat_natCast]
 refine ⟨by omega,by omega,fun D hD=>?_⟩
 refine comp_relR (lo:=0) (n:=z) (fun _ v _=>∃ x,x ∈ ps /\ v = nV x) hD (by omega) (fun _ _ _ _ _ _ _ r=>r) ?_ ?_
 ·intro i H1 out non hi s2 ho
  have s12:=s1.trans s2
  walk_at "rd"
  rw [show ((r1:Int) + (i:Int)) = ((r1 + i:Nat):Int) by omega]
  obtain ⟨v,hv,ev⟩:=atI_mod (l:=ps.map nV) (by rw [hlm]; exact h1) (r1 + i)
  refine ⟨_,.inl (s12.seq hP),by rw [hlm]; omega,_,v,.inl (s12.seq hP),ev,?_⟩
  obtain ⟨x,hx,rfl⟩:=List.mem_map.mp hv
  exact ho _ _ (Same.refl _) ⟨x,hx,rfl⟩
 ·intro H1 vs s2 e2 p2
  obtain ⟨os,rfl,_,ho⟩:=paired_out (fun _ _ r=>r) p2
  exact q D H1 os (s1.free hD) (s1.trans s2) e2 ho
structure RuleOk (W:Nat) (r:Rule):Prop where
 row:RowL r.1
 rowN:r.1.length = W
 word:r.2.1 = passT \/ r.2.1 = dropT
 over:RowL r.2.2
 overN:r.2.2.length = W
theorem rowL_of {r m:List Nat} (h:∀ c ∈ r,c = 45 \/ c ∈ m) (hm:RowL m):RowL r:=fun c hc=>by
 rcases h c hc with z | z
 ·exact .inr (.inr z)
 ·exact hm c z
theorem signs_to {H:Hp} {p:Addr} {N W:Nat} {ps m:List Nat} {Q:VK} {E:XK} (hW:W <= 1000) (hS:SqL K H p (ps.map nV)) (hp:∀ x ∈ ps,x < W) (hm1:1 <= m.length) (hm2:m.length <= 100) (hm:RowL m) (q:∀ r H',Same H H' -> r.length = W -> RowL r -> Q (tx r) H'):sp__law_signs K [nV N,.ref p,nV W,.str (st m)] H Q E:=
 ⟨N,W,ps,rfl,rfl,hW,hS,hp,by simpa using hm1,by simpa using hm2,fun r H' s hl hc=>q r H' s hl (rowL_of (by simpa using hc) hm)⟩
noncomputable def sp__law_rule (K:Frag):Sp:=fun vs H Q _=>match vs with
 | [.ref a,.int k,.ref p,.ref o,.int w]=>∃ (ns:List Int) (k0 W:Nat) (ps os:List Nat),SqL K H a (ns.map V.int) /\ k = (k0:Int) /\ k0 <= 50000 /\ w = (W:Int) /\ W <= 1000 /\ SqL K H p (ps.map nV) /\ (∀ x ∈ ps,x < W) /\ SqL K H o (os.map nV) /\ (∀ x ∈ os,x < W) /\
   ∀ t H' (r:Rule),H t = none -> Same H H' -> H' t = some (.tup [tx r.1,tx r.2.1,tx r.2.2]) -> RuleOk W r -> Q (.ref t) H'
 | _=>False
theorem ok__law_rule (T:Top K mg):Callee P w K mg base 2 "_law_rule" ["_law_script", "_law_k", "_law_told_here", "_law_over_at_here", "_law_width_here"] (sp__law_rule K):=by
 refine T.f__law_rule.cal sc__law_rule (by intro vs H Q E h; unfold sp__law_rule at h; split at h <;> first | rfl | exact h.elim) (fun _ _ _ _ _ _ us hl=>match us,hl with | [_,_,_,_,_],_=>rfl) (fun f cdv A outer s H vs Q E hr h=>?_)
 unfold sp__law_rule at h
 split at h
 case h_2=>exact h.elim
 refine ⟨_,(pss_cons (ps_set (i:=5) sc__law_rule.nd rfl lc (pe_fn (ok__law_signs T) hr.m rfl (pa_cons (pe_fn (ok__law_draw T) hr.m rfl (pa_cons (qv 0) (pa_cons (qv 1) (pa_cons pe_int pa_nil)))) (pa_cons (qv 2) (pa_cons (qv 4) (pa_cons (qs [48,49,45,45,45]) pa_nil))))))
   (pss_cons (ps_set (i:=6) sc__law_rule.nd rfl lc (pe_fn (ok__law_draw T) hr.m rfl (pa_cons (qv 0) (pa_cons (pe_op op_addK (qv 1) pe_int) (pa_cons pe_int pa_nil)))))
   (pss_cons (ps_set (i:=7) sc__law_rule.nd rfl lc (pe_fn (ok__law_signs T) hr.m rfl (pa_cons (pe_op op_fdivK (qv 6) pe_int) (pa_cons (qv 3) (pa_cons (qv 4) (pa_cons (qs [48,49,45,45]) pa_nil))))))
   (pss_one (ps_ret (pe_tup (pa_cons (qv 5) (pa_cons (pe_ix (ixE K rfl) (pe_lst (pa_cons (qs [112,97,115,115]) (pa_cons (qs [112,97,115,115]) (pa_cons (qs [112,97,115,115]) (pa_cons (qs [100,114,111,112]) pa_nil))))) (pe_op op_modK (qv 6) pe_int) (fun _ _=>rfl)) (pa_cons (qv 7) pa_nil))))))))),?_⟩
 rename_i a k p o w'
 obtain ⟨ns,k0,W,ps,os,hS,rfl,hk,rfl,hW,hP,hp,hO,ho,q⟩:=h
 walk_at "rd"
 refine draw_to hS (by omega) (by omega) (by decide) (by decide) fun r1 hr1=>?_
 walk_at "rd"
 refine signs_to hW hP hp (by decide) (by decide) (by unfold RowL; decide) fun row H1 s1 hl1 hr1=>?_
 walk_at "rd"
 refine draw_to (s1.seq hS) (by omega) (by omega) (by decide) (by decide) fun r2 hr2=>?_
 walk_at "rd"
 rw [show ((r2:Int) / 4) = ((r2 / 4:Nat):Int) by omega]
 refine signs_to hW (s1.seq hO) ho (by decide) (by decide) (by unfold RowL; decide) fun over H2 s2 hl2 hr2=>?_
 refine ⟨by decide,fun t1 ht1=>?_⟩
 have s3:=s1.trans (s2.trans (same_new ht1 (.lst ([passT,passT,passT,dropT].map tx))))
 obtain ⟨v,hv,ev⟩:=atI_mod (l:=[passT,passT,passT,dropT].map tx) (by decide) r2
 refine ⟨_,v,.inl (SqL.of upd_same),ev,by decide,fun t2 ht2=>?_⟩
 obtain ⟨wd,hwd,rfl⟩:=List.mem_map.mp hv
 refine q t2 _ (row,wd,over) (s3.free ht2) (s3.trans (same_new ht2 _)) upd_same ⟨hr1,hl1,?_,hr2,hl2⟩
 simp only [List.mem_cons,List.not_mem_nil,or_false] at hwd
 rcases hwd with z | z | z | z
 ·exact .inl z
 ·exact .inl z
 ·exact .inl z
 ·exact .inr z
noncomputable def abc:List Nat:=(List.range 26).map (97 + ·)
theorem abc_at {i:Nat} (h:i < 26):abc[i]? = some (97 + i):=by
 unfold abc
 rw [List.getElem?_map,List.getElem?_range h]
 rfl
def Low (l:List Nat):Prop:=∀ c ∈ l,97 <= c /\ c <= 122
structure Names (n:Nat) (ls:List (List Nat)):Prop where
 len:ls.length = n
 nd:ls.Nodup
 low:∀ l ∈ ls,Low l
 short:∀ l ∈ ls,1 <= l.length /\ l.length <= 8
theorem map_nodup {n:Nat} (f:Nat -> List Nat) (h:∀ i j,i < n -> j < n -> f i = f j -> i = j):((List.range n).map f).Nodup:=by
 refine List.pairwise_map.mpr (List.Pairwise.imp_of_mem ?_ List.nodup_range)
 intro a b ha hb hab e
 exact hab (h a b (List.mem_range.mp ha) (List.mem_range.mp hb) e)
theorem names_same {n c:Nat} (hn:n <= 8) (hc:97 <= c /\ c <= 122):Names n ((List.range n).map fun j=>List.replicate (1 + j) c) where
 len:=by simp
 nd:=map_nodup _ fun i j _ _ e=>by
  have:=congrArg List.length e
  simp at this
  exact this
 low:=fun l hl=>by
  obtain ⟨j,_,rfl⟩:=List.mem_map.mp hl
  exact fun d hd=>by rw [List.eq_of_mem_replicate hd]; exact hc
 short:=fun l hl=>by
  obtain ⟨j,hj,rfl⟩:=List.mem_map.mp hl
  have:=List.mem_range.mp hj
  simp
  omega
theorem names_at {n m s p:Nat} {b:List Nat} (hn:n <= 8) (hb:Low b) (hl:b.length <= 7) (hs:s = 1 \/ s = 7 \/ s = 25 \/ s = 11):Names n ((List.range n).map fun j=>b.take p ++ [97 + (m + s * j) % 26] ++ b.drop p) where
 len:=by simp
 nd:=map_nodup _ fun i j hi hj e=>by
  have e1:=List.append_cancel_right e
  have e2:=List.append_cancel_left e1
  have e3:97 + (m + s * i) % 26 = 97 + (m + s * j) % 26:=by simpa using e2
  rcases hs with rfl | rfl | rfl | rfl <;> omega
 low:=fun l hl=>by
  obtain ⟨j,_,rfl⟩:=List.mem_map.mp hl
  intro d hd
  rcases List.mem_append.mp hd with hd | hd
  ·rcases List.mem_append.mp hd with hd | hd
   ·exact hb d (List.mem_of_mem_take hd)
   ·rw [List.mem_singleton.mp hd]
    have:=Nat.mod_lt (m + s * j) (show 26 > 0 by decide)
    exact ⟨by omega,by omega⟩
  ·exact hb d (List.mem_of_mem_drop hd)
 short:=fun l hl=>by
  obtain ⟨j,_,rfl⟩:=List.mem_map.mp hl
  simp
  omega
theorem flat_one' {α β:Type} (f:α -> β) (l:List α):(l.flatMap fun x=>[f x]) = l.map f:=by
 induction l with
 | nil=>rfl
 | cons x l ih=>rw [List.flatMap_cons,ih]; rfl
noncomputable def sp__law_names (K:Frag):Sp:=fun vs H Q _=>match vs with
 | [.ref a,.int k,.int m]=>∃ (ns:List Int) (k0 n:Nat),SqL K H a (ns.map V.int) /\ k = (k0:Int) /\ k0 <= 50000 /\ m = (n:Int) /\ n <= 8 /\ ∀ p H' ls,H p = none -> Same H H' -> H' p = some (.lst (ls.map tx)) -> Names n ls -> Q (.ref p) H'
 | _=>False
theorem ok__law_names (T:Top K mg):Callee P w K mg base 2 "_law_names" ["_law_script", "_law_k", "_law_many"] (sp__law_names K):=by
 refine T.f__law_names.cal sc__law_names (by intro vs H Q E h; unfold sp__law_names at h; split at h <;> first | rfl | exact h.elim) (fun _ _ _ _ _ _ us hl=>match us,hl with | [_,_,_],_=>rfl) (fun f cdv A outer s H vs Q E hr h=>?_)
 unfold sp__law_names at h
 split at h
 case h_2=>exact h.elim
 refine ⟨_,(pss_cons (ps_set (i:=3) sc__law_names.nd rfl lc (qs [97,98,99,100,101,102,103,104,105,106,107,108,109,110,111,112,113,114,115,116,117,118,119,120,121,122]))
   (pss_cons (ps_set (i:=4) sc__law_names.nd rfl lc (pe_fn (ok__law_draw T) hr.m rfl (pa_cons (qv 0) (pa_cons (qv 1) (pa_cons pe_int pa_nil)))))
   (pss_cons (ps_if (qt_cmp op_eqK (pe_fn (ok__law_draw T) hr.m rfl (pa_cons (qv 0) (pa_cons (pe_op op_addK (qv 1) pe_int) (pa_cons pe_int pa_nil)))) pe_int) (pss_one (ps_ret (qe_comp (nt:=1) (fi:=[3,4]) (N':=["_law_j", "_law_letters", "_law_start"]) rfl (cscope rfl (by decide +kernel)) (cnames (N:=["_law_script", "_law_k", "_law_many", "_law_letters", "_law_start", "_law_body", "_law_j", "_law_at", "_law_step"]) (sc:=defScope s__law_names) rfl rfl (by decide +kernel)) (gk_name (by decide)) (qi_range1 rfl T.b_range (qv 2)) (fun _ _ _ _ _=>(pg_name (i:=0) (by show (["_law_j", "_law_letters", "_law_start"]:List Str).Nodup; decide +kernel) rfl lc)) (fun _ _ _ _ _=>pif_nil) (fun _ _ _ _ _=>(pe_op op_mulK (pe_ix (ixE K rfl) (qv 1) (qv 2) (fun _ _=>rfl)) (pe_op op_addK pe_int (qv 0))))))) pss_nil)
   (pss_cons (ps_set (i:=5) sc__law_names.nd rfl lc (qs []))
   (pss_cons (qs_for PassesOwn.never rfl (qi_range1 rfl T.b_range (pe_fn (ok__law_draw T) hr.m rfl (pa_cons (qv 0) (pa_cons (pe_op op_addK (qv 1) pe_int) (pa_cons pe_int pa_nil))))) (pg_name (i:=6) sc__law_names.nd rfl lc) (pss_one (ps_set (i:=5) sc__law_names.nd rfl lc (pe_op op_addK (qv 5) (pe_ix (ixE K rfl) (qv 3) (pe_fn (ok__law_draw T) hr.m rfl (pa_cons (qv 0) (pa_cons (pe_op op_addK (pe_op op_addK (qv 1) pe_int) (qv 6)) (pa_cons pe_int pa_nil)))) (fun _ _=>rfl))))))
   (pss_cons (ps_set (i:=7) sc__law_names.nd rfl lc (pe_fn (ok__law_draw T) hr.m rfl (pa_cons (qv 0) (pa_cons (pe_op op_addK (qv 1) pe_int) (pa_cons (pe_op op_addK (pe_callB (lenE K rfl) rfl T.b_len bb_len (pa_cons (qv 5) pa_nil)) pe_int) pa_nil)))))
   (pss_cons (ps_set (i:=8) sc__law_names.nd rfl lc (pe_ix (ixE K rfl) (pe_lst (pa_cons pe_int (pa_cons pe_int (pa_cons pe_int (pa_cons pe_int pa_nil))))) (pe_fn (ok__law_draw T) hr.m rfl (pa_cons (qv 0) (pa_cons (pe_op op_addK (qv 1) pe_int) (pa_cons pe_int pa_nil)))) (fun _ _=>rfl)))
   (pss_one (ps_ret (qe_comp (nt:=1) (fi:=[5,3,7,4,8]) (N':=["_law_j", "_law_body", "_law_letters", "_law_at", "_law_start", "_law_step"]) rfl (cscope rfl (by decide +kernel)) (cnames (N:=["_law_script", "_law_k", "_law_many", "_law_letters", "_law_start", "_law_body", "_law_j", "_law_at", "_law_step"]) (sc:=defScope s__law_names) rfl rfl (by decide +kernel)) (gk_name (by decide)) (qi_range1 rfl T.b_range (qv 2)) (fun _ _ _ _ _=>(pg_name (i:=0) (by show (["_law_j", "_law_body", "_law_letters", "_law_at", "_law_start", "_law_step"]:List Str).Nodup; decide +kernel) rfl lc)) (fun _ _ _ _ _=>pif_nil) (fun _ _ _ _ _=>(pe_op op_addK (pe_op op_addK (pe_slice (slE K rfl) (qv 1) po_none (qo_some (qv 3))) (pe_ix (ixE K rfl) (qv 2) (pe_op op_modK (pe_op op_addK (qv 4) (pe_op op_mulK (qv 5) (qv 0))) pe_int) (fun _ _=>rfl))) (pe_slice (slE K rfl) (qv 1) (qo_some (qv 3)) po_none))))))))))))),?_⟩
 rename_i a k m
 obtain ⟨ns,k0,n,hS,rfl,hk,rfl,hn,q⟩:=h
 walk_at "rd"
 refine draw_to hS (by omega) (by omega) (by decide) (by decide) fun r1 hr1=>?_
 walk_at "rd"
 refine draw_to hS (by omega) (by omega) (by decide) (by decide) fun r2 hr2=>?_
 walk_at "rd"
 rw [show ([97,98,99,100,101,102,103,104,105,106,107,108,109,110,111,112,113,114,115,116,117,118,119,120,121,122]:List Nat) = abc from rfl]
 have a26:abc.length = 26:=rfl
 have ar1:atI abc (r1:Int) = some (97 + r1):=atI_nat (abc_at (by omega))
 refine ite2 (fun g=>⟨by omega,by omega,fun D hD=>?_⟩) fun g=>?_
 ·rw [Int.toNat_natCast]
  refine comp_range (lo:=0) (n:=n) (h:=fun j=>[tx (List.replicate (1 + j) (97 + r1))]) hD (by omega) (fun _=>by simp) ?_ ?_
  ·intro i H1 out non hi s1 ho _
   walk_at "rd"
   refine ⟨by omega,_,ar1,by omega,by omega,?_⟩
   rw [show (1 + (i:Int)).toNat = 1 + i by omega]
   exact ho _ _ rfl (Same.refl _)
  ·intro H1 s1 e1
   have ef:(List.range n).flatMap (fun j=>[tx (List.replicate (1 + j) (97 + r1))]) = ((List.range n).map fun j=>List.replicate (1 + j) (97 + r1)).map tx:=by
    rw [List.map_map]
    exact flat_one' _ _
   rw [ef] at e1
   exact q D H1 _ hD s1 e1 (names_same hn ⟨by omega,by omega⟩)
 refine draw_to hS (by omega) (by omega) (by decide) (by decide) fun r3 hr3=>?_
 walk_at "rd"
 refine ⟨by omega,by omega,?_⟩
 rw [Int.toNat_natCast]
 refine loop_range (lo:=0) (n:=r3) (fun i σ H'=>∃ (b:List Nat) (u:Option V),σ = [some (.ref a),some (nV k0),some (nV n),some (.str (st abc)),some (nV r1),some (tx b),u,none,none] /\ H' = H /\ Low b /\ b.length = i) ⟨[],none,rfl,rfl,fun c hc=>by simp at hc,rfl⟩ ?_ ?_
 ·rintro i σ H1 hi ⟨b,u,rfl,rfl,hb,hbl⟩
  walk_at "rd"
  refine draw_to hS (by omega) (by omega) (by decide) (by decide) fun r4 hr4=>?_
  walk_at "rd"
  refine ⟨by omega,97 + r4,atI_nat (abc_at (by omega)),?_⟩
  walk_at "rd"
  refine ⟨by omega,b ++ [97 + r4],_,rfl,fun c hc=>?_,by rw [List.length_append,hbl]; rfl⟩
  rcases List.mem_append.mp hc with z | z
  ·exact hb c z
  ·rw [List.mem_singleton.mp z]
   exact ⟨by omega,by omega⟩
 ·rintro σ H1 ⟨b,u,rfl,rfl,hb,hbl⟩
  walk_at "rd"
  refine ⟨by omega,draw_to hS (by omega) (by omega) (by omega) (by omega) fun r5 hr5=>⟨by decide,fun t1 ht1=>?_⟩⟩
  have s1:=same_new ht1 (.lst [V.int 1,V.int 7,V.int 25,V.int 11])
  refine draw_to (s1.seq hS) (by omega) (by omega) (by decide) (by decide) fun r6 hr6=>?_
  obtain ⟨v,hv,ev⟩:=atI_lt (l:=[V.int 1,V.int 7,V.int 25,V.int 11]) (i:=r6) (by show r6 < 4; omega)
  obtain ⟨st',rfl,hst⟩:∃ s:Nat,v = nV s /\ (s = 1 \/ s = 7 \/ s = 25 \/ s = 11):=by
   simp only [List.mem_cons,List.not_mem_nil,or_false] at hv
   rcases hv with rfl | rfl | rfl | rfl
   ·exact ⟨1,rfl,by simp⟩
   ·exact ⟨7,rfl,by simp⟩
   ·exact ⟨25,rfl,by simp⟩
   ·exact ⟨11,rfl,by simp⟩
  walk_at "rd"
  refine ⟨_,_,.inl (SqL.of upd_same),ev,by omega,by omega,fun D hD=>?_⟩
  rw [Int.toNat_natCast]
  refine comp_range (lo:=0) (n:=n) (h:=fun j=>[tx (b.take r5 ++ [97 + (r1 + st' * j) % 26] ++ b.drop r5)]) hD (by omega) (fun _=>by simp) ?_ ?_
  ·intro i H2 out non hi s2 ho _
   walk_at "rd"
   have hm:=Nat.mod_lt (r1 + st' * i) (show 26 > 0 by decide)
   have hl1:=List.length_take_le r5 b
   have hl2:(b.drop r5).length <= b.length:=by rw [List.length_drop]; omega
   have e26:((r1:Int) + (st':Int) * (i:Int)) % 26 = (((r1 + st' * i) % 26:Nat):Int):=by
    rw [Int.natCast_emod,Int.natCast_add,Int.natCast_mul]
    rfl
   rw [Int.toNat_natCast,e26]
   refine ⟨by omega,by omega,by omega,.inr ⟨Int.lt_of_lt_of_le (by decide) (Int.natCast_nonneg i),Int.lt_of_lt_of_le (Int.ofNat_lt.mpr hi) (Int.le_trans (Int.ofNat_le.mpr hn) (by decide))⟩,by omega,_,atI_nat (abc_at hm),by omega,by omega,by omega,by omega,?_,ho _ _ rfl (Same.refl _)⟩
   rw [List.length_append,List.length_singleton]
   omega
  ·intro H2 s2 e2
   have ef:(List.range n).flatMap (fun j=>[tx (b.take r5 ++ [97 + (r1 + st' * j) % 26] ++ b.drop r5)]) = ((List.range n).map fun j=>b.take r5 ++ [97 + (r1 + st' * j) % 26] ++ b.drop r5).map tx:=by
    rw [List.map_map]
    exact flat_one' _ _
   rw [ef] at e2
   exact q D H2 _ (s1.free hD) (s1.trans s2) e2 (names_at hn hb (by omega) hst)
structure LayOk (ls:List Fld):Prop where
 to:∃ a b,spanF ls toT 0 = some (a,b) /\ a < b /\ b <= widthL ls
 w1:1 <= widthL ls
 w2:widthL ls <= 48
 len:ls.length <= 3
 pos:∀ x ∈ ls,1 <= x.2
 nd:(ls.map (·.1)).Nodup
 low:∀ x ∈ ls,Low x.1 /\ 1 <= x.1.length /\ x.1.length <= 8
theorem filter_most {α:Type} [DecidableEq α] (t:α):∀ l:List α,l.Nodup -> l.length <= (l.filter fun x=>!decide (x = t)).length + 1
 | [],_=>by simp
 | x :: l,h=>by
  have h2:=(List.nodup_cons.mp h)
  by_cases e:x = t
  ·subst e
   have:l.filter (fun y=>!decide (y = x)) = l:=List.filter_eq_self.mpr fun y hy=>by
    have:¬ y = x:=fun z=>h2.1 (z ▸ hy)
    simp [this]
   rw [List.filter_cons_of_neg (by simp),this,List.length_cons]
   omega
  ·rw [List.filter_cons_of_pos (by simp [e]),List.length_cons,List.length_cons]
   have:=filter_most t l h2.2
   omega
theorem flat_keep {α:Type} (p:α -> Bool) (f:α -> V):∀ l:List α,(l.flatMap fun x=>if p x then [f x] else []) = (l.filter p).map f
 | []=>rfl
 | x :: l=>by
  rw [List.flatMap_cons,flat_keep p f l]
  by_cases h:p x = true
  ·rw [if_pos h,List.filter_cons_of_pos h]
   rfl
  ·rw [if_neg h,List.filter_cons_of_neg h]
   rfl
theorem toLow:Low toT /\ 1 <= toT.length /\ toT.length <= 8:=⟨by unfold Low toT; decide,by decide,by decide⟩
theorem lay1 {S:Nat} (h1:1 <= S) (h2:S <= 14):LayOk [(toT,S)] where
 to:=⟨0,S,by simp [spanF],by omega,by simp [widthL]⟩
 w1:=by simp [widthL]; omega
 w2:=by simp [widthL]; omega
 len:=by simp
 pos:=fun x hx=>by rw [List.mem_singleton.mp hx]; exact h1
 nd:=by simp
 low:=fun x hx=>by rw [List.mem_singleton.mp hx]; exact toLow
structure NameOk (n:List Nat):Prop where
 low:Low n
 l1:1 <= n.length
 l8:n.length <= 8
theorem layAhead {S A:Nat} {n:List Nat} (h1:1 <= S) (h2:S <= 14) (a1:1 <= A) (a2:A <= 17) (hn:NameOk n) (ht:¬ n = toT):LayOk [(n,A),(toT,S)] where
 to:=⟨A,A + S,by simp [spanF,ht],by omega,by simp [widthL]⟩
 w1:=by simp [widthL]; omega
 w2:=by simp [widthL]; omega
 len:=by simp
 pos:=fun x hx=>by
  simp only [List.mem_cons,List.not_mem_nil,or_false] at hx
  rcases hx with rfl | rfl
  ·exact a1
  ·exact h1
 nd:=by simpa using ht
 low:=fun x hx=>by
  simp only [List.mem_cons,List.not_mem_nil,or_false] at hx
  rcases hx with rfl | rfl
  ·exact ⟨hn.1,hn.2,hn.3⟩
  ·exact toLow
theorem layBehind {ls:List Fld} {S A B:Nat} {n0 n:List Nat} (h1:1 <= S) (h2:S <= 14) (a1:1 <= A) (a2:A <= 17) (hn0:NameOk n0) (ht0:¬ n0 = toT) (b1:1 <= B) (b2:B <= 17) (hn:NameOk n) (ht:¬ n = toT) (hd:¬ n0 = n)
  (e:ls = [(toT,S)] \/ ls = [(n0,A),(toT,S)]):LayOk (ls ++ [(n,B)]):=by
 rcases e with rfl | rfl
 ·refine ⟨⟨0,S,by simp [spanF],by omega,by simp [widthL]⟩,by simp [widthL]; omega,by simp [widthL]; omega,by simp,fun x hx=>?_,?_,fun x hx=>?_⟩
  ·simp only [List.mem_append,List.mem_cons,List.not_mem_nil,or_false] at hx
   rcases hx with rfl | rfl
   ·exact h1
   ·exact b1
  ·simpa using fun z=>ht z.symm
  ·simp only [List.mem_append,List.mem_cons,List.not_mem_nil,or_false] at hx
   rcases hx with rfl | rfl
   ·exact toLow
   ·exact ⟨hn.1,hn.2,hn.3⟩
 ·refine ⟨⟨A,A + S,by simp [spanF,ht0],by omega,by simp [widthL]⟩,by simp [widthL]; omega,by simp [widthL]; omega,by simp,fun x hx=>?_,?_,fun x hx=>?_⟩
  ·simp only [List.mem_append,List.mem_cons,List.not_mem_nil,or_false] at hx
   rcases hx with (rfl | rfl) | rfl
   ·exact a1
   ·exact h1
   ·exact b1
  ·simp [ht0,hd]
   exact fun z=>ht z.symm
  ·simp only [List.mem_append,List.mem_cons,List.not_mem_nil,or_false] at hx
   rcases hx with (rfl | rfl) | rfl
   ·exact ⟨hn0.1,hn0.2,hn0.3⟩
   ·exact toLow
   ·exact ⟨hn.1,hn.2,hn.3⟩
noncomputable def wF (ns:List Int):Nat:=if drawN ns 3 4 = 0 then 1 + drawN ns 4 14 + drawN ns 5 18 + drawN ns 6 18 else 1 + drawN ns 0 3 + drawN ns 1 2 + drawN ns 2 2
noncomputable def sp__law_layout (K:Frag):Sp:=fun vs H Q _=>match vs with
 | [.ref a]=>∃ ns:List Int,SqL K H a (ns.map V.int) /\ ∀ p H' ls,H p = none -> Same H H' -> Lay H' p ls -> LayOk ls -> widthL ls = wF ns -> Q (.ref p) H'
 | _=>False
theorem ok__law_layout (T:Top K mg):Callee P w K mg base 3 "_law_layout" ["_law_script"] (sp__law_layout K):=by
 refine T.f__law_layout.cal sc__law_layout (by intro vs H Q E h; unfold sp__law_layout at h; split at h <;> first | rfl | exact h.elim) (fun _ _ _ _ _ _ us hl=>match us,hl with | [_],_=>rfl) (fun f cdv A outer s H vs Q E hr h=>?_)
 unfold sp__law_layout at h
 split at h
 case h_2=>exact h.elim
 refine ⟨_,(pss_cons (ps_set (i:=1) sc__law_layout.nd rfl lc (pe_op op_addK pe_int (pe_fn (ok__law_draw T) hr.m rfl (pa_cons (qv 0) (pa_cons pe_int (pa_cons pe_int pa_nil))))))
   (pss_cons (ps_set (i:=2) sc__law_layout.nd rfl lc (pe_fn (ok__law_draw T) hr.m rfl (pa_cons (qv 0) (pa_cons pe_int (pa_cons pe_int pa_nil)))))
   (pss_cons (ps_set (i:=3) sc__law_layout.nd rfl lc (pe_fn (ok__law_draw T) hr.m rfl (pa_cons (qv 0) (pa_cons pe_int (pa_cons pe_int pa_nil)))))
   (pss_join (ps_if (qt_cmp op_eqK (pe_fn (ok__law_draw T) hr.m rfl (pa_cons (qv 0) (pa_cons pe_int (pa_cons pe_int pa_nil)))) pe_int) (pss_cons (ps_set (i:=1) sc__law_layout.nd rfl lc (pe_op op_addK pe_int (pe_fn (ok__law_draw T) hr.m rfl (pa_cons (qv 0) (pa_cons pe_int (pa_cons pe_int pa_nil))))))
   (pss_cons (ps_set (i:=2) sc__law_layout.nd rfl lc (pe_fn (ok__law_draw T) hr.m rfl (pa_cons (qv 0) (pa_cons pe_int (pa_cons pe_int pa_nil)))))
   (pss_one (ps_set (i:=3) sc__law_layout.nd rfl lc (pe_fn (ok__law_draw T) hr.m rfl (pa_cons (qv 0) (pa_cons pe_int (pa_cons pe_int pa_nil)))))))) pss_nil)
   (pss_cons (ps_setC (i:=4) (nt:=1) (fi:=[]) (N':=["_law_name"]) sc__law_layout.nd rfl lc rfl (cscope rfl (by decide +kernel)) (cnames (N:=["_law_script", "_law_size", "_law_ahead", "_law_behind", "_law_names_here", "_law_layout_here"]) (sc:=defScope s__law_layout) rfl rfl (by decide +kernel)) (gk_name (by decide)) (iterE K rfl (pe_fn (ok__law_names T) hr.m rfl (pa_cons (qv 0) (pa_cons pe_int (pa_cons pe_int pa_nil))))) (fun _ _ _ _ _=>(pg_name (i:=0) (by show (["_law_name"]:List Str).Nodup; decide +kernel) rfl lc)) (fun _ _ _ _ _=>(pif_one (qt_cmp op_neK (qv 0) (qs [116,111])))) (fun _ _ _ _ _=>(qv 0)))
   (pss_cons (ps_set (i:=5) sc__law_layout.nd rfl lc (pe_lst (pa_cons (pe_tup (pa_cons (qs [116,111]) (pa_cons (qv 1) pa_nil))) pa_nil)))
   (pss_join (ps_if (qt_cmp op_gtK (qv 2) pe_int) (pss_one (ps_expr (qe_insert (qv 5) pe_int (pe_tup (pa_cons (pe_ix (ixE K rfl) (qv 4) pe_int (fun _ _=>rfl)) (pa_cons (qv 2) pa_nil)))))) pss_nil)
   (pss_join (ps_if (qt_cmp op_gtK (qv 3) pe_int) (pss_one (ps_expr (qe_append (qv 5) (pe_tup (pa_cons (pe_ix (ixE K rfl) (qv 4) pe_int (fun _ _=>rfl)) (pa_cons (qv 3) pa_nil)))))) pss_nil)
   (pss_one (ps_ret (qv 5))))))))))),?_⟩
 rename_i a
 obtain ⟨ns,hS,q⟩:=h
 have d1:=drawN_lt ns 0 (m:=3) (by decide)
 have d2:=drawN_lt ns 1 (m:=2) (by decide)
 have d3:=drawN_lt ns 2 (m:=2) (by decide)
 have d5:=drawN_lt ns 4 (m:=14) (by decide)
 have d6:=drawN_lt ns 5 (m:=18) (by decide)
 have d7:=drawN_lt ns 6 (m:=18) (by decide)
 walk_at "rd"
 refine draw_is (k:=0) (m:=3) hS (by omega) (by decide) (by decide) ?_
 walk_at "rd"
 refine draw_is (k:=1) (m:=2) hS (by omega) (by decide) (by decide) ?_
 walk_at "rd"
 refine draw_is (k:=2) (m:=2) hS (by omega) (by decide) (by decide) ?_
 walk_at "rd"
 refine ⟨fun σ' H'=>∃ S A B:Nat,σ' = [some (.ref a),some (nV S),some (nV A),some (nV B),none,none] /\ H' = H /\ 1 <= S /\ S <= 14 /\ A <= 17 /\ B <= 17 /\ S + A + B = wF ns,?_,?_⟩
 ·refine draw_is (k:=3) (m:=4) hS (by omega) (by decide) (by decide) ?_
  walk_at "rd"
  refine ite2 (fun g0=>?_) fun g0=>⟨1 + drawN ns 0 3,drawN ns 1 2,drawN ns 2 2,by simp,by omega,by omega,by omega,by omega,by unfold wF; rw [if_neg (by omega)]⟩
  refine draw_is (k:=4) (m:=14) hS (by omega) (by decide) (by decide) ?_
  walk_at "rd"
  refine draw_is (k:=5) (m:=18) hS (by omega) (by decide) (by decide) ?_
  refine draw_is (k:=6) (m:=18) hS (by omega) (by decide) (by decide) ?_
  exact ⟨1 + drawN ns 4 14,drawN ns 5 18,drawN ns 6 18,by simp,rfl,by omega,by omega,by omega,by omega,by unfold wF; rw [if_pos (by omega)]⟩
 rintro σ' H'' ⟨S,A',B,rfl,rfl,hS1,hS2,hA,hB,hwF⟩
 walk_at "rd"
 refine ⟨ns,7,4,hS,rfl,by decide,rfl,by decide,fun pn H1 nm hpn s1 e1 N=>?_⟩
 walk_at "rd"
 refine .inl ⟨⟨_,SqL.of e1⟩,fun D hD=>?_⟩
 refine comp_list (item:=tx) (xs:=nm) (h:=fun l=>if (!decide (l = toT)) then [tx l] else []) hD (SqL.of e1) (by rw [N.len]; decide) (fun l=>by split <;> simp) ?_ ?_
 ·intro l H2 out non hl s2 ho hno
  walk_at "rd"
  refine ite2 (fun g=>?_) fun g=>?_
  ·exact hno H2 (by rw [if_neg (by simp [show l = toT from g])]) (Same.refl _)
  ·exact ho _ H2 (by rw [if_pos (by simpa using (show ¬ l = toT from g))]) (Same.refl _)
 ·intro H2 s2 e2
  rw [flat_keep] at e2
  have hm:=filter_most toT nm N.nd
  rw [N.len] at hm
  have hmn:=N.nd.filter (fun x=>!decide (x = toT))
  have hmem:∀ l ∈ nm.filter (fun x=>!decide (x = toT)),NameOk l /\ ¬ l = toT:=fun l hl=>by
   obtain ⟨h1,h2⟩:=List.mem_filter.mp hl
   exact ⟨⟨N.low l h1,(N.short l h1).1,(N.short l h1).2⟩,by simpa using h2⟩
  generalize nm.filter (fun x=>!decide (x = toT)) = ms at e2 hm hmn hmem
  have s12:=s1.trans s2
  walk_at "rd"
  obtain ⟨n0,n1,m2,rfl⟩:∃ n0 n1 m2,ms = n0 :: n1 :: m2:=by
   match ms,hm with
   | [],hm=>simp at hm
   | [_],hm=>simp at hm
   | n0 :: n1 :: m2,_=>exact ⟨n0,n1,m2,rfl⟩
  obtain ⟨k0,k1⟩:=hmem n0 (by simp)
  obtain ⟨k2,k3⟩:=hmem n1 (by simp)
  have k4:¬ n0 = n1:=fun z=>by simp [z] at hmn
  refine ⟨by decide,fun p0 hp0=>⟨by decide,fun p1 hp1=>?_⟩⟩
  have sa:=same_new hp0 (.tup [V.str (st [116,111]),nV S])
  have sb:=same_new hp1 (.lst [V.ref p0])
  have sab:=s12.trans (sa.trans sb)
  have hp1':=s12.free (sa.free hp1)
  have ne01:p0 ≠ p1:=fun z=>by rw [<- z,upd_same] at hp1; cases hp1
  have eD:=(sa.trans sb) _ _ e2
  refine ⟨fun σ' H'=>∃ ls,σ' = [some (.ref a),some (nV S),some (nV A'),some (nV B),some (.ref D),some (.ref p1)] /\ Same H'' H' /\ H' D = some (.lst ((n0 :: n1 :: m2).map tx)) /\ Lay H' p1 ls /\ ((A' = 0 /\ ls = [(toT,S)]) \/ (1 <= A' /\ ls = [(n0,A'),(toT,S)])),?_,?_⟩
  ·refine ite2 (fun gA=>⟨⟨_,upd_same⟩,_,tx n0,.inl (SqL.of eD),show atI _ ((0:Nat):Int) = _ from atI_nat rfl,by decide,fun p2 hp2=>⟨[V.ref p0],0,rfl,?_,by simp,by simp,?_⟩⟩) fun gA=>⟨[(toT,S)],rfl,sab,eD,⟨_,upd_same,.cons ⟨p0,rfl,?_⟩ .nil⟩,.inl ⟨by omega,rfl⟩⟩
   ·rw [upd_ne (fun z=>by rw [<- z,upd_same] at hp2; cases hp2),upd_same]
   ·have ne12:p2 ≠ p1:=fun z=>by rw [z,upd_same] at hp2; cases hp2
    have ne02:p0 ≠ p2:=fun z=>by rw [<- z,upd_ne ne01,upd_same] at hp2; cases hp2
    have sc:=sab.trans (same_new hp2 (.tup [tx n0,nV A']))
    have neD:D ≠ p1:=fun z=>by rw [z,upd_same] at eD; cases eD
    have neD2:D ≠ p2:=fun z=>by rw [<- z,eD] at hp2; cases hp2
    refine ⟨[(n0,A'),(toT,S)],rfl,same_upd sc hp1',?_,⟨_,upd_same,.cons ⟨p2,rfl,?_⟩ (.cons ⟨p0,rfl,?_⟩ .nil)⟩,.inr ⟨by omega,rfl⟩⟩
    ·rw [upd_ne neD,upd_ne neD2]
     exact eD
    ·rw [upd_ne ne12,upd_same]
    ·rw [upd_ne ne01,upd_ne ne02,upd_ne ne01,upd_same]
     rfl
   ·rw [upd_ne ne01,upd_same]
    rfl
  ·rintro σ' H3 ⟨ls,rfl,s3,e3,⟨vs,e4,pr⟩,hls⟩
   walk_at "rd"
   refine ⟨fun σ' H'=>∃ ls,σ' = [some (.ref a),some (nV S),some (nV A'),some (nV B),some (.ref D),some (.ref p1)] /\ Same H'' H' /\ Lay H' p1 ls /\ LayOk ls /\ widthL ls = wF ns,?_,?_⟩
   ·refine ite2 (fun gB=>⟨⟨_,e4⟩,_,tx n1,.inl (SqL.of e3),show atI _ ((1:Nat):Int) = _ from atI_nat rfl,by decide,fun p4 hp4=>⟨vs,?_,?_,?_⟩⟩) fun gB=>⟨ls,rfl,s3,⟨vs,e4,pr⟩,?_,?_⟩
    ·rw [upd_ne (fun z=>by rw [<- z,e4] at hp4; cases hp4)]
     exact e4
    ·have:=pr.length
     refine Nat.lt_of_le_of_lt ?_ (sizeBig (n:=3) (by decide))
     rcases hls with ⟨_,rfl⟩ | ⟨_,rfl⟩
     ·simp at this; omega
     ·simp at this; omega
    ·have ne41:p4 ≠ p1:=fun z=>by rw [z,e4] at hp4; cases hp4
     have s4:=same_new hp4 (.tup [tx n1,nV B])
     refine ⟨ls ++ [(n1,B)],rfl,same_upd (s3.trans s4) hp1',⟨_,upd_same,?_⟩,?_,?_⟩
     ·refine paired_snoc (flds_keep (fun t us z=>?_) pr) ⟨p4,rfl,?_⟩
      ·rw [upd_ne (fun y=>by rw [y,e4] at z; cases z)]
       exact s4 _ _ z
      ·rw [upd_ne ne41,upd_same]
     ·rcases hls with ⟨_,rfl⟩ | ⟨hA1,rfl⟩
      ·exact layBehind (A:=1) hS1 hS2 (by decide) (by decide) k0 k1 (by omega) hB k2 k3 k4 (.inl rfl)
      ·exact layBehind hS1 hS2 hA1 hA k0 k1 (by omega) hB k2 k3 k4 (.inr rfl)
     ·rcases hls with ⟨_,rfl⟩ | ⟨hA1,rfl⟩
      ·simp [widthL]; omega
      ·simp [widthL]; omega
    ·rcases hls with ⟨_,rfl⟩ | ⟨hA1,rfl⟩
     ·exact lay1 hS1 hS2
     ·exact layAhead hS1 hS2 hA1 hA k0 k1
    ·rcases hls with ⟨_,rfl⟩ | ⟨hA1,rfl⟩
     ·simp [widthL]; omega
     ·simp [widthL]; omega
   ·rintro σ' H4 ⟨ls',rfl,s4,hL,ok,hwf⟩
    walk_at "rd"
    exact q p1 H4 ls' hp1' s4 hL ok hwf
structure ToldOk (W:Nat) (ps:List Nat):Prop where
 l1:1 <= ps.length
 l5:ps.length <= 5
 lt:∀ x ∈ ps,x < W
 nd:ps.Nodup
theorem ints_nat:∀ ms:List Int,(∀ x ∈ ms,0 <= x) -> ms.map V.int = (ms.map Int.toNat).map nV
 | [],_=>rfl
 | x :: ms,h=>by
  rw [List.map_cons,List.map_cons,List.map_cons,ints_nat ms fun y hy=>h y (List.mem_cons_of_mem _ hy),nV,show ((x.toNat:Nat):Int) = x from Int.toNat_of_nonneg (h x List.mem_cons_self)]
noncomputable def sp__law_told (K:Frag):Sp:=fun vs H Q _=>match vs with
 | [.ref a,.ref p]=>∃ (ns:List Int) (ls:List Fld),SqL K H a (ns.map V.int) /\ Lay H p ls /\ LayOk ls /\ ∀ (q:Addr) (H':Hp) (ps:List Nat),H q = none -> Same H H' -> H' q = some (.lst (ps.map nV)) -> ToldOk (widthL ls) ps -> Q (.ref q) H'
 | _=>False
theorem ok__law_told (T:Top K mg):Callee P w K mg base 2 "_law_told" ["_law_script", "_law_layout_here"] (sp__law_told K):=by
 refine T.f__law_told.cal sc__law_told (by intro vs H Q E h; unfold sp__law_told at h; split at h <;> first | rfl | exact h.elim) (fun _ _ _ _ _ _ us hl=>match us,hl with | [_,_],_=>rfl) (fun f cdv A outer s H vs Q E hr h=>?_)
 unfold sp__law_told at h
 split at h
 case h_2=>exact h.elim
 refine ⟨_,(pss_cons (ps_set (i:=2) sc__law_told.nd rfl lc (pe_fn (ok__law_width T) hr.m rfl (pa_cons (qv 1) pa_nil)))
   (pss_cons (ps_if (qt_cmp op_leK (qv 2) pe_int) (pss_one (ps_ret (qe_listrng rfl rfl T.b_list rfl T.b_range (qv 2)))) pss_nil)
   (pss_cons (ps_asg (pe_fn (ok__law_span T) hr.m rfl (pa_cons (qv 1) pa_nil)) (seqE K rfl rfl (n:=2) (pgs_cons (pg_name (i:=3) sc__law_told.nd rfl lc) (pgs_cons (pg_name (i:=4) sc__law_told.nd rfl lc) pgs_nil))))
   (pss_cons (ps_set (i:=5) sc__law_told.nd rfl lc (qe_listrng2 rfl rfl T.b_list rfl T.b_range (qv 3) (pe_callB (call_min2K rfl) rfl T.b_min bb_min (pa_cons (qv 4) (pa_cons (pe_op op_addK (qv 3) pe_int) pa_nil)))))
   (pss_cons (qs_for PassesOwn.never rfl (qi_range1 rfl T.b_range (pe_fn (ok__law_draw T) hr.m rfl (pa_cons (qv 0) (pa_cons pe_int (pa_cons pe_int pa_nil))))) (pg_name (i:=6) sc__law_told.nd rfl lc) (pss_one (ps_expr (qe_append (qv 5) (pe_fn (ok__law_draw T) hr.m rfl (pa_cons (qv 0) (pa_cons (pe_op op_addK pe_int (qv 6)) (pa_cons (qv 2) pa_nil))))))))
   (pss_one (ps_ret (qe_sortsetI (K:=K) rfl rfl rfl T.b_sorted rfl T.b_set (qv 5))))))))),?_⟩
 rename_i a p
 obtain ⟨ns,ls,hS,hL,ok,q⟩:=h
 have w1:=ok.w1
 have w2:=ok.w2
 have hlen:=ok.len
 walk_at "rd"
 refine ⟨ls,hL,by omega,fun H1 s1=>?_⟩
 walk_at "rd"
 generalize eW:widthL ls = W at *
 have hL1:=hL.same s1
 refine ite2 (fun g=>⟨Int.le_trans (by decide) (Int.natCast_nonneg W),by omega,fun t1 ht1=>?_⟩) fun g=>?_
 ·rw [Int.toNat_natCast]
  refine q t1 _ (List.range W) (s1.free ht1) (s1.trans (same_new ht1 _)) upd_same ⟨by simp; omega,by simp; omega,fun x hx=>List.mem_range.mp hx,List.nodup_range⟩
 obtain ⟨fa,fb,esp,hab,hb⟩:=ok.to
 rw [eW] at hb
 have eG:spanG ls = (fa,fb):=by unfold spanG; rw [esp]; rfl
 refine ⟨ls,hL1,fun t1 H2 ht1 s2 e1=>?_⟩
 rw [eG] at e1
 have s12:=s1.trans s2
 refine ⟨[_,_],.inr (SqT.of e1),rfl,_,[_],rfl,_,[],rfl,rfl,?_⟩
 walk_at "rd"
 obtain ⟨e,ee,he1,he2,he3⟩:∃ e:Nat,(if (fa:Int) + 3 < (fb:Int) then (fa:Int) + 3 else (fb:Int)) = (e:Int) /\ fa < e /\ e <= fb /\ e <= fa + 3:=by
  split
  ·exact ⟨fa + 3,by omega,by omega,by omega,by omega⟩
  ·exact ⟨fb,rfl,by omega,by omega,by omega⟩
 rw [ee,show ((e:Int) - (fa:Int)).toNat = e - fa by omega]
 have el:(List.range (e - fa)).map (fun k:Nat=>V.int ((fa:Int) + (k:Int))) = ((List.range (e - fa)).map (fa + ·)).map nV:=by
  rw [List.map_map]
  refine List.map_congr_left fun k _=>?_
  show V.int _ = V.int _
  rw [Int.natCast_add]
 rw [el]
 refine ⟨by omega,by omega,by omega,by omega,fun p1 hp1=>?_⟩
 have hp1':=s12.free hp1
 have s3:=same_new hp1 (.lst (((List.range (e - fa)).map (fa + ·)).map nV))
 have s13:=s12.trans s3
 refine draw_to (s13.seq hS) (by decide) (by decide) (by decide) (by decide) fun r1 hr1=>?_
 walk_at "rd"
 refine ⟨by omega,by omega,?_⟩
 rw [Int.toNat_natCast]
 refine loop_range (lo:=0) (n:=r1) (fun i σ H'=>∃ (ps:List Nat) (u:Option V),σ = [some (.ref a),some (.ref p),some (nV W),some (nV fa),some (nV fb),some (.ref p1),u] /\ Same H H' /\ H' p1 = some (.lst (ps.map nV)) /\ 1 <= ps.length /\ ps.length <= 3 + i /\ ∀ x ∈ ps,x < W)
  ⟨_,none,rfl,s13,upd_same,by simp; omega,by simp; omega,fun x hx=>?_⟩ ?_ ?_
 ·obtain ⟨k,hk,rfl⟩:=List.mem_map.mp hx
  have:=List.mem_range.mp hk
  omega
 ·rintro i σ H3 hi ⟨ps,u,rfl,s4,e4,l1,l2,hlt⟩
  walk_at "rd"
  refine ⟨⟨_,e4⟩,draw_to (s4.seq hS) (by omega) (by omega) (by omega) (by omega) fun r2 hr2=>?_⟩
  refine ⟨_,e4,sizeBig (by rw [List.length_map]; omega),ps ++ [r2],_,rfl,same_upd s4 hp1',?_,by simp,by simp; omega,fun x hx=>?_⟩
  ·rw [upd_same,List.map_append]
   rfl
  ·rcases List.mem_append.mp hx with z | z
   ·exact hlt x z
   ·rw [List.mem_singleton.mp z]
    omega
 ·rintro σ H3 ⟨ps,u,rfl,s4,e4,l1,l2,hlt⟩
  walk_at "rd"
  have em:ps.map nV = (ps.map fun x:Nat=>(x:Int)).map V.int:=by rw [List.map_map]; rfl
  refine ⟨ps.map fun x:Nat=>(x:Int),SqL.of (by rw [<- em]; exact e4),by rw [List.length_map]; omega,fun t2 ms ht2 hmem hml _ hnd=>?_⟩
  rw [List.length_map] at hml
  have hpos:∀ x ∈ ms,∃ y,y ∈ ps /\ x = (y:Int):=fun x hx=>by
   obtain ⟨y,hy,rfl⟩:=List.mem_map.mp ((hmem x).mp hx)
   exact ⟨y,hy,rfl⟩
  rw [ints_nat ms fun x hx=>by obtain ⟨y,_,rfl⟩:=hpos x hx; omega]
  refine q t2 _ (ms.map Int.toNat) (s4.free ht2) (s4.trans (same_new ht2 _)) upd_same ⟨?_,by rw [List.length_map]; omega,fun x hx=>?_,?_⟩
  ·rw [List.length_map]
   obtain ⟨x,hx⟩:=List.exists_mem_of_length_pos (l:=ps) (by omega)
   have:=(hmem (x:Int)).mpr (List.mem_map.mpr ⟨x,hx,rfl⟩)
   exact List.length_pos_of_mem this
  ·obtain ⟨z,hz,rfl⟩:=List.mem_map.mp hx
   obtain ⟨y,hy,rfl⟩:=hpos z hz
   exact hlt y hy
  ·refine List.pairwise_map.mpr (List.Pairwise.imp_of_mem ?_ hnd)
   intro x y hx hy hne ez
   obtain ⟨x',_,rfl⟩:=hpos x hx
   obtain ⟨y',_,rfl⟩:=hpos y hy
   exact hne (congrArg Int.ofNat (by simpa using ez))
structure WaysOk (S:Nat) (ds:List (List Nat)) (ws:List Way):Prop where
 n:∀ x ∈ ws,x.1.length <= S
 bits:∀ x ∈ ws,∀ c ∈ x.1,c = 48 \/ c = 49
 door:∀ x ∈ ws,x.2 ∈ ds
 nd:(ws.map (·.1)).Nodup
noncomputable def insW {α:Type} (l:List α) (i:Nat) (x:α):List α:=l.take i ++ x :: l.drop i
theorem insW_perm {α:Type} (l:List α) (i:Nat) (x:α):(insW l i x).Perm (x :: l):=by
 unfold insW
 refine List.perm_middle.trans ?_
 rw [List.take_append_drop]
theorem paired_ins {α β:Type} {F:α -> β -> Prop} {x:α} {y:β} (r:F x y):∀ {l:List α} {m:List β} (i:Nat),Paired F l m -> Paired F (insW l i x) (insW m i y)
 | _,_,0,p=>by unfold insW; exact .cons r p
 | _,_,i + 1,.nil=>by unfold insW; exact .cons r .nil
 | _,_,i + 1,.cons r' p=>by
  have:=paired_ins r i p
  unfold insW at this ⊢
  exact .cons r' this
theorem ways_ins {S:Nat} {ds:List (List Nat)} {ws:List Way} (ok:WaysOk S ds ws) (x:Way) (i:Nat) (h1:x.1.length <= S) (h2:∀ c ∈ x.1,c = 48 \/ c = 49) (h3:x.2 ∈ ds) (h4:x.1 ∉ ws.map (·.1)):WaysOk S ds (insW ws i x):=by
 have hm:∀ y,y ∈ insW ws i x -> y = x \/ y ∈ ws:=fun y hy=>List.mem_cons.mp ((insW_perm ws i x).mem_iff.mp hy)
 refine ⟨fun y hy=>?_,fun y hy=>?_,fun y hy=>?_,?_⟩
 ·rcases hm y hy with rfl | z
  ·exact h1
  ·exact ok.n y z
 ·rcases hm y hy with rfl | z
  ·exact h2
  ·exact ok.bits y z
 ·rcases hm y hy with rfl | z
  ·exact h3
  ·exact ok.door y z
 ·rw [((insW_perm ws i x).map _).nodup_iff,List.map_cons,List.nodup_cons]
  exact ⟨h4,ok.nd⟩
theorem inV_tx (n:List Nat) (l:List (List Nat)):inV (tx n) (l.map tx) = decide (n ∈ l):=by
 unfold inV
 induction l with
 | nil=>simp
 | cons d l ih=>
  rw [List.map_cons,List.any_cons,ih]
  simp only [eqV,List.mem_cons]
  have stj:st n = st d ↔ n = d:=⟨fun h=>by simpa using congrArg (fun x:Str=>x.cps.toList) h,fun h=>by rw [h]⟩
  by_cases h:n = d
  ·subst h; simp
  ·have h2:¬ d = n:=fun z=>h z.symm
   simp [h,h2]
theorem flat_tx (l:List (List Nat)):(l.map tx).all flatV = true:=by
 rw [List.all_eq_true]
 intro v hv
 obtain ⟨c,_,rfl⟩:=List.mem_map.mp hv
 rfl
noncomputable def sp__law_ways (K:Frag):Sp:=fun vs H Q _=>match vs with
 | [.ref a,.int k,.ref d,.int z]=>∃ (ns:List Int) (k0 S:Nat) (ds:List (List Nat)),SqL K H a (ns.map V.int) /\ k = (k0:Int) /\ k0 <= 50000 /\ z = (S:Int) /\ S <= 1000 /\ SqL K H d (ds.map tx) /\ ds.length <= 100 /\
   ∀ p H' ws,H p = none -> Same H H' -> Ways H' p ws -> WaysOk S ds ws -> ws.length <= 4 -> Q (.ref p) H'
 | _=>False
theorem ok__law_ways (T:Top K mg):Callee P w K mg base 2 "_law_ways" ["_law_script", "_law_k", "_law_doors", "_law_size"] (sp__law_ways K):=by
 refine T.f__law_ways.cal sc__law_ways (by intro vs H Q E h; unfold sp__law_ways at h; split at h <;> first | rfl | exact h.elim) (fun _ _ _ _ _ _ us hl=>match us,hl with | [_,_,_,_],_=>rfl) (fun f cdv A outer s H vs Q E hr h=>?_)
 unfold sp__law_ways at h
 split at h
 case h_2=>exact h.elim
 refine ⟨_,(pss_cons (ps_set (i:=4) sc__law_ways.nd rfl lc (pe_lst pa_nil))
   (pss_cons (ps_if (qt_cmp (eqNilE K rfl (hu1 hr)) (qv 2) (pe_lst pa_nil)) (pss_one (ps_ret (qv 4))) pss_nil)
   (pss_cons (qs_for PassesOwn.never rfl (qi_range1 rfl T.b_range (pe_ix (ixE K rfl) (pe_lst (pa_cons pe_int (pa_cons pe_int (pa_cons pe_int (pa_cons pe_int (pa_cons pe_int (pa_cons pe_int (pa_cons pe_int pa_nil)))))))) (pe_fn (ok__law_draw T) hr.m rfl (pa_cons (qv 0) (pa_cons (qv 1) (pa_cons pe_int pa_nil)))) (fun _ _=>rfl))) (pg_name (i:=5) sc__law_ways.nd rfl lc) (pss_cons (ps_set (i:=6) sc__law_ways.nd rfl lc (pe_op op_addK pe_int (pe_fn (ok__law_draw T) hr.m rfl (pa_cons (qv 0) (pa_cons (pe_op op_addK (pe_op op_addK (qv 1) pe_int) (qv 5)) (pa_cons pe_int pa_nil))))))
   (pss_join (ps_if (PW.pt (pw_and (qt_cmp op_eqK (qv 5) pe_int) (pw_and1 (qt_cmp op_gtK (pe_fn (ok__law_draw T) hr.m rfl (pa_cons (qv 0) (pa_cons (pe_op op_addK (qv 1) pe_int) (pa_cons pe_int pa_nil)))) pe_int)))) (pss_one (ps_set (i:=6) sc__law_ways.nd rfl lc pe_int)) pss_nil)
   (pss_cons (ps_set (i:=7) sc__law_ways.nd rfl lc (qs []))
   (pss_cons (ps_while PassesOwn.never (qt_cmp op_gtK (qv 6) pe_int) (pss_cons (ps_set (i:=7) sc__law_ways.nd rfl lc (pe_op op_addK (pe_callTy call_strK rfl T.b_str bb_str (pa_cons (pe_op op_modK (qv 6) pe_int) pa_nil)) (qv 7)))
   (pss_one (ps_set (i:=6) sc__law_ways.nd rfl lc (pe_op op_fdivK (qv 6) pe_int)))))
   (pss_cons (ps_set (i:=7) sc__law_ways.nd rfl lc (pe_slice slF (qv 7) po_none (qo_some (pe_callB (call_min2K rfl) rfl T.b_min bb_min (pa_cons (qv 3) (pa_cons pe_int pa_nil))))))
   (pss_one (ps_if (qt_cmp (notinE K rfl) (qv 7) (qe_comp (nt:=1) (fi:=[]) (N':=["_law_way"]) rfl (cscope rfl (by decide +kernel)) (cnames (N:=["_law_script", "_law_k", "_law_doors", "_law_size", "_law_ways_here", "_law_j", "_law_number", "_law_beginning", "_law_door"]) (sc:=defScope s__law_ways) rfl rfl (by decide +kernel)) (gk_name (by decide)) (iterE K rfl (qv 4)) (fun _ _ _ _ _=>(pg_name (i:=0) (by show (["_law_way"]:List Str).Nodup; decide +kernel) rfl lc)) (fun _ _ _ _ _=>pif_nil) (fun _ _ _ _ _=>(pe_ix (ixE K rfl) (qv 0) pe_int (fun _ _=>rfl))))) (pss_cons (ps_set (i:=8) sc__law_ways.nd rfl lc (pe_ix (ixE K rfl) (qv 2) (pe_fn (ok__law_draw T) hr.m rfl (pa_cons (qv 0) (pa_cons (pe_op op_addK (pe_op op_addK (qv 1) pe_int) (qv 5)) (pa_cons (pe_callB (lenE K rfl) rfl T.b_len bb_len (pa_cons (qv 2) pa_nil)) pa_nil)))) (fun _ _=>rfl)))
   (pss_one (ps_expr (qe_insert (qv 4) (pe_fn (ok__law_draw T) hr.m rfl (pa_cons (qv 0) (pa_cons (pe_op op_addK (pe_op op_addK (qv 1) pe_int) (qv 5)) (pa_cons (pe_op op_addK (pe_callB (lenE K rfl) rfl T.b_len bb_len (pa_cons (qv 4) pa_nil)) pe_int) pa_nil)))) (pe_tup (pa_cons (qv 7) (pa_cons (qv 8) pa_nil))))))) pss_nil))))))))
   (pss_one (ps_ret (qv 4)))))),?_⟩
 rename_i a k d z
 obtain ⟨ns,k0,S,ds,hS,rfl,hk,rfl,hSz,hd,hdl,q⟩:=h
 walk_at "rd"
 refine ⟨Nat.zero_le _,fun g hg=>?_⟩
 have s1:=same_new hg (.lst [])
 have w0:Ways (upd H g (.lst [])) g []:=⟨[],upd_same,.nil⟩
 have ok0:WaysOk S ds []:=⟨fun x hx=>by simp at hx,fun x hx=>by simp at hx,fun x hx=>by simp at hx,by simp⟩
 refine ⟨Nat.zero_le _,fun t1 ht1=>⟨_,(s1.trans (same_new ht1 _)).seq hd,SqL.of upd_same,?_⟩⟩
 have s2:=s1.trans (same_new ht1 (.lst []))
 have w1:=w0.same (same_new ht1 (.lst []))
 refine ite2 (fun ge=>q g _ [] hg s2 w1 ok0 (by simp)) fun ge=>⟨by decide,fun t2 ht2=>?_⟩
 have hd1:1 <= ds.length:=by
  cases ds with
  | nil=>exact absurd rfl ge
  | cons _ _=>simp
 have s3:=s2.trans (same_new ht2 (.lst [V.int 0,V.int 1,V.int 2,V.int 3,V.int 4,V.int 1,V.int 2]))
 have w2:=w1.same (same_new ht2 (.lst [V.int 0,V.int 1,V.int 2,V.int 3,V.int 4,V.int 1,V.int 2]))
 refine draw_to (s3.seq hS) (by omega) (by omega) (by decide) (by decide) fun r1 hr1=>?_
 obtain ⟨c,hc,ec⟩:=pick_int (cs:=[0,1,2,3,4,1,2]) (B:=4) (vs:=[V.int 0,V.int 1,V.int 2,V.int 3,V.int 4,V.int 1,V.int 2]) rfl (by decide) (i:=r1) (by show r1 < 7; omega)
 walk_at "rd"
 refine ⟨_,_,.inl (SqL.of upd_same),ec,?_⟩
 walk_at "rd"
 refine ⟨by omega,by omega,?_⟩
 rw [Int.toNat_natCast]
 refine loop_range (lo:=0) (n:=c) (fun i σ H'=>∃ (ws:List Way) (u5 u6 u7 u8:Option V),σ = [some (.ref a),some (nV k0),some (.ref d),some (nV S),some (.ref g),u5,u6,u7,u8] /\ Same H H' /\ Ways H' g ws /\ WaysOk S ds ws /\ ws.length <= i)
  ⟨[],none,none,none,none,rfl,s3,w2,ok0,by simp⟩ ?_ ?_
 ·rintro i σ H1 hi ⟨ws,u5,u6,u7,u8,rfl,s4,hw,ok,hwl⟩
  walk_at "rd"
  refine draw_to (s4.seq hS) (by omega) (by omega) (by decide) (by decide) fun r2 hr2=>?_
  walk_at "rd"
  refine ⟨fun σ' H'=>∃ M:Nat,σ' = [some (.ref a),some (nV k0),some (.ref d),some (nV S),some (.ref g),some (nV i),some (nV M),u7,u8] /\ H1 = H' /\ M <= 15,?_,?_⟩
  ·refine ite2 (fun _=>draw_to (s4.seq hS) (by omega) (by omega) (by decide) (by decide) fun r3 hr3=>?_) fun _=>⟨1 + r2,by simp,rfl,by omega⟩
   walk_at "rd"
   exact ite2 (fun _=>⟨1,rfl,by decide⟩) fun _=>⟨1 + r2,by simp,by omega⟩
  rintro σ' H' ⟨M,rfl,rfl,hM⟩
  walk_at "rd"
  refine ⟨fun m σ' H'=>∃ (b:List Nat),σ' = [some (.ref a),some (nV k0),some (.ref d),some (nV S),some (.ref g),some (nV i),some (nV m),some (tx b),u8] /\ H1 = H' /\ (∀ c ∈ b,c = 48 \/ c = 49) /\ b.length + m <= 16,⟨M,[],rfl,rfl,fun c hc=>by simp at hc,by simp; omega⟩,?_⟩
  rintro m σ' H2 ⟨b,rfl,rfl,hb,hbm⟩
  walk_at "rd"
  refine ite2 (fun gm=>⟨fun σ' H'=>∃ b,σ' = [some (.ref a),some (nV k0),some (.ref d),some (nV S),some (.ref g),some (nV i),some (nV (m / 2)),some (tx b),u8] /\ H1 = H' /\ (∀ c ∈ b,c = 48 \/ c = 49) /\ b.length + m / 2 <= 16,?_,by omega,by omega,?_⟩) fun gm=>?_
  ·rintro σ' H' ⟨b',rfl,rfl,h1,h2⟩
   exact ⟨m / 2,by omega,b',rfl,rfl,h1,h2⟩
  ·refine ⟨(48 + ((m:Int) % 2).toNat) :: b,rfl,rfl,fun c hc=>?_,by rw [List.length_cons]; omega⟩
   rcases List.mem_cons.mp hc with rfl | hc
   ·omega
   ·exact hb c hc
  obtain ⟨e,ee,he1,he2⟩:∃ e:Nat,(if (3:Int) < (S:Int) then (3:Int) else (S:Int)) = (e:Int) /\ e <= S /\ e <= 3:=by
   split
   ·exact ⟨3,rfl,by omega,by omega⟩
   ·exact ⟨S,rfl,by omega,by omega⟩
  rw [ee,Int.toNat_natCast]
  have hbt:∀ c ∈ b.take e,c = 48 \/ c = 49:=fun c hc=>hb c (List.mem_of_mem_take hc)
  have hbl:(b.take e).length <= S:=by rw [List.length_take]; omega
  generalize b.take e = bg at hbt hbl ⊢
  obtain ⟨vs,e1,pr⟩:=id hw
  have hvl:=pr.length
  obtain ⟨z1,z2⟩:=paired_zip pr
  refine ⟨by omega,by omega,.inl ⟨⟨_,SqL.of e1⟩,fun D hD=>?_⟩⟩
  refine comp_list (item:=fun x:Way × V=>x.2) (xs:=ws.zip vs) (h:=fun x=>[tx x.1.1]) hD (by rw [z1]; exact SqL.of e1) (by rw [List.length_zip]; omega) (fun _=>by simp) ?_ ?_
  ·intro x H2 out non hx s5 ho _
   obtain ⟨t,ex,et⟩:=z2 x hx
   rw [ex]
   walk_at "rd"
   refine ⟨_,_,.inr (SqT.of (s5 _ _ et)),rfl,?_⟩
   exact ho _ _ rfl (Same.refl _)
  intro H2 s5 e2
  rw [show (ws.zip vs).flatMap (fun x=>[tx x.1.1]) = (ws.map (·.1)).map tx by
   rw [flat_one' (fun x:Way × V=>tx x.1.1)]
   conv=>rhs; rw [<- zip_fst (l:=ws) (m:=vs) hvl,List.map_map,List.map_map]
   rfl] at e2
  walk_at "rd"
  refine ⟨_,.inl (SqL.of e2),rfl,flat_tx _,?_⟩
  rw [show V.str (st bg) = tx bg from rfl,inV_tx]
  walk_at "rd"
  have s45:=s4.trans s5
  refine ite2 (fun gi=>⟨ws,_,_,_,_,rfl,s45,hw.same s5,ok,by omega⟩) fun gi=>?_
  refine ⟨_,.inl (s45.seq hd),draw_to (s45.seq hS) (by omega) (by omega) (by rw [List.length_map]; omega) (by rw [List.length_map]; omega) fun r4 hr4=>?_⟩
  rw [List.length_map] at hr4
  obtain ⟨dv,hdv,edv⟩:=atI_lt (l:=ds.map tx) (i:=r4) (by rw [List.length_map]; omega)
  obtain ⟨dn,hdn,rfl⟩:=List.mem_map.mp hdv
  walk_at "rd"
  have e1':=s5 _ _ e1
  refine ⟨_,_,.inl (s45.seq hd),edv,⟨_,e1'⟩,_,.inl (SqL.of e1'),draw_to (s45.seq hS) (by omega) (by omega) (by omega) (by omega) fun r5 hr5=>⟨by decide,fun t5 ht5=>?_⟩⟩
  have s6:=same_new ht5 (.tup [tx bg,tx dn])
  have ng5:g ≠ t5:=fun z=>by rw [<- z,e1'] at ht5; cases ht5
  refine ⟨vs,r5,rfl,s6 _ _ e1',by omega,by omega,insW ws r5 (bg,dn),_,_,_,_,rfl,same_upd (s45.trans s6) hg,⟨_,upd_same,?_⟩,ways_ins ok (bg,dn) r5 hbl hbt hdn (by simpa using gi),?_⟩
  ·refine paired_ins (F:=WayAt _) ⟨t5,rfl,?_⟩ r5 (L2.Paired.mapP pr ?_)
   ·rw [upd_ne (Ne.symm ng5),upd_same]
   ·rintro x v ⟨t,rfl,et⟩
    refine ⟨t,rfl,?_⟩
    rw [upd_ne (fun z=>by rw [z,e1] at et; cases et)]
    exact s6 _ _ (s5 _ _ et)
  ·have:=(insW_perm ws r5 (bg,dn)).length_eq
   rw [this,List.length_cons]
   omega
 ·rintro σ H1 ⟨ws,u5,u6,u7,u8,rfl,s4,hw,ok,hwl⟩
  walk_at "rd"
  exact q g H1 ws hg s4 hw ok (by omega)
structure HouseOk (W S:Nat) (pl:List (List Nat)) (hs:House):Prop where
 nd:(hs.1.map (·.1)).Nodup
 door:∀ x ∈ hs.1,x.1 ∈ pl
 g3:hs.1.length <= 3
 rules:∀ x ∈ hs.1,∀ r ∈ x.2,RuleOk W r
 many:∀ x ∈ hs.1,x.2.length <= 300
 ways:WaysOk S (hs.1.map (·.1)) hs.2
 w8:hs.2.length <= 8
theorem paired_choose {α β:Type} {F:β -> V -> Prop} {P:β -> Prop}:∀ {l:List α} {vs:List V},Paired (fun _ v=>∃ b,P b /\ F b v) l vs -> ∃ bs:List β,Paired F bs vs /\ bs.length = l.length /\ ∀ b ∈ bs,P b
 | _,_,.nil=>⟨[],.nil,rfl,fun b hb=>by simp at hb⟩
 | _,_,.cons ⟨b,h1,h2⟩ p=>by
  obtain ⟨bs,h3,h4,h5⟩:=paired_choose p
  refine ⟨b :: bs,.cons h2 h3,by simp [h4],fun c hc=>?_⟩
  rcases List.mem_cons.mp hc with rfl | hc
  ·exact h1
  ·exact h5 c hc
def GateB (gl:Addr) (F:Addr -> Prop) (H:Hp) (x:Gate) (v:V):Prop:=∃ t r,v = .ref t /\ (r ≠ gl /\ F r) /\ H t = some (.tup [tx x.1,.ref r]) /\ Rules H r x.2
theorem gateB_same {gl:Addr} {F:Addr -> Prop} {H H':Hp} (s:Same H H') {gs:List Gate} {vs:List V} (p:Paired (GateB gl F H) gs vs):Paired (GateB gl F H') gs vs:=
 L2.Paired.mapP p fun _ _ ⟨t,r,e,n,h1,h2⟩=>⟨t,r,e,n,s _ _ h1,h2.same s⟩
theorem rules_off {gl r:Addr} {H:Hp} {us us':List V} {rs:List Rule} (h:H gl = some (.lst us)) (n:r ≠ gl) (hr:Rules H r rs):Rules (upd H gl (.lst us')) r rs:=by
 obtain ⟨vs,e,pr⟩:=hr
 refine ⟨vs,?_,rules_keep (keep_lst h) pr⟩
 rw [upd_ne n]
 exact e
theorem gateB_upd {gl:Addr} {F:Addr -> Prop} {H:Hp} {us us':List V} (h:H gl = some (.lst us)) {gs:List Gate} {vs:List V} (p:Paired (GateB gl F H) gs vs):Paired (GateB gl F (upd H gl (.lst us'))) gs vs:=
 L2.Paired.mapP p fun _ _ ⟨t,r,e,n,h1,h2⟩=>⟨t,r,e,n,keep_lst h _ _ h1,rules_off h n.1 h2⟩
def GateN (N:Addr -> Prop) (H:Hp) (x:Gate) (v:V):Prop:=∃ t r,v = .ref t /\ N r /\ H t = some (.tup [tx x.1,.ref r]) /\ Rules H r x.2
structure HouseN (F:Addr -> Prop) (H:Hp) (q g w:Addr) (hs:House):Prop where
 tup:H q = some (.tup [.ref g,.ref w])
 ne:g ≠ w
 gates:∃ vs,H g = some (.lst vs) /\ Paired (GateN (fun r=>r ≠ g /\ r ≠ w /\ F r) H) hs.1 vs
 ways:Ways H w hs.2
theorem HouseN.at {F:Addr -> Prop} {H:Hp} {q g w:Addr} {hs:House} (h:HouseN F H q g w hs):HouseAt H q hs:=by
 obtain ⟨vs,e,p⟩:=h.gates
 exact ⟨g,w,h.tup,⟨vs,e,L2.Paired.mapP p fun _ _ ⟨t,r,e,_,h1,h2⟩=>⟨t,r,e,h1,h2⟩⟩,h.ways⟩
theorem HouseN.same {F:Addr -> Prop} {H H':Hp} {q g w:Addr} {hs:House} (h:HouseN F H q g w hs) (s:Same H H'):HouseN F H' q g w hs:=by
 obtain ⟨vs,e,p⟩:=h.gates
 exact ⟨s _ _ h.tup,h.ne,⟨vs,s _ _ e,L2.Paired.mapP p fun _ _ ⟨t,r,e,n,h1,h2⟩=>⟨t,r,e,n,s _ _ h1,h2.same s⟩⟩,h.ways.same s⟩
theorem doors_nd {pl:List (List Nat)} (N:Names 5 pl) {r1 c:Nat} (hc:c <= 3):((List.range c).map fun j=>pl.getD ((r1 + j) % 5) []).Nodup:=by
 refine map_nodup _ fun i j hi hj e=>?_
 have hl:=N.len
 have h1:(r1 + i) % 5 < pl.length:=by rw [hl]; exact Nat.mod_lt _ (by decide)
 have h2:(r1 + j) % 5 < pl.length:=by rw [hl]; exact Nat.mod_lt _ (by decide)
 simp only [List.getD_eq_getElem?_getD,List.getElem?_eq_getElem h1,List.getElem?_eq_getElem h2,Option.getD_some] at e
 have:=(List.getElem_inj N.nd).mp e
 omega
noncomputable def sp__law_house (K:Frag):Sp:=fun vs H Q _=>match vs with
 | [.ref a,.int k,.ref t,.ref p,.ref o]=>∃ (ns:List Int) (k0:Nat) (ps:List Nat) (ls:List Fld) (pl:List (List Nat)),SqL K H a (ns.map V.int) /\ k = (k0:Int) /\ k0 <= 10000 /\ SqL K H t (ps.map nV) /\ ToldOk (widthL ls) ps /\ Lay H p ls /\ LayOk ls /\ SqL K H o (pl.map tx) /\ Names 5 pl /\
   ∀ (q g w:Addr) (H':Hp) (hs:House),H q = none -> H g = none -> H w = none -> Same H H' -> HouseN (fun r=>H r = none) H' q g w hs -> HouseOk (widthL ls) ((spanG ls).2 - (spanG ls).1) pl hs -> hs.2.length <= 4 -> Q (.ref q) H'
 | _=>False
theorem ok__law_house (T:Top K mg):Callee P w K mg base 3 "_law_house" ["_law_script", "_law_k", "_law_told_here", "_law_layout_here", "_law_pool"] (sp__law_house K):=by
 refine T.f__law_house.cal sc__law_house (by intro vs H Q E h; unfold sp__law_house at h; split at h <;> first | rfl | exact h.elim) (fun _ _ _ _ _ _ us hl=>match us,hl with | [_,_,_,_,_],_=>rfl) (fun f cdv A outer s H vs Q E hr h=>?_)
 unfold sp__law_house at h
 split at h
 case h_2=>exact h.elim
 refine ⟨_,(pss_cons (ps_set (i:=5) sc__law_house.nd rfl lc (pe_fn (ok__law_width T) hr.m rfl (pa_cons (qv 3) pa_nil)))
   (pss_cons (ps_asg (pe_fn (ok__law_span T) hr.m rfl (pa_cons (qv 3) pa_nil)) (seqE K rfl rfl (n:=2) (pgs_cons (pg_name (i:=6) sc__law_house.nd rfl lc) (pgs_cons (pg_name (i:=7) sc__law_house.nd rfl lc) pgs_nil))))
   (pss_cons (ps_set (i:=8) sc__law_house.nd rfl lc (pe_fn (ok__law_over_at T) hr.m rfl (pa_cons (qv 0) (pa_cons (qv 2) pa_nil))))
   (pss_cons (ps_set (i:=9) sc__law_house.nd rfl lc (pe_fn (ok__law_draw T) hr.m rfl (pa_cons (qv 0) (pa_cons (qv 1) (pa_cons (pe_callB (lenE K rfl) rfl T.b_len bb_len (pa_cons (qv 4) pa_nil)) pa_nil)))))
   (pss_cons (ps_set (i:=10) sc__law_house.nd rfl lc (pe_ix (ixE K rfl) (pe_lst (pa_cons pe_int (pa_cons pe_int (pa_cons pe_int (pa_cons pe_int (pa_cons pe_int (pa_cons pe_int (pa_cons pe_int (pa_cons pe_int (pa_cons pe_int pa_nil)))))))))) (pe_fn (ok__law_draw T) hr.m rfl (pa_cons (qv 0) (pa_cons (pe_op op_addK (qv 1) pe_int) (pa_cons pe_int pa_nil)))) (fun _ _=>rfl)))
   (pss_cons (ps_setC (i:=11) (nt:=1) (fi:=[4,9]) (N':=["_law_j", "_law_pool", "_law_turn"]) sc__law_house.nd rfl lc rfl (cscope rfl (by decide +kernel)) (cnames (N:=["_law_script", "_law_k", "_law_told_here", "_law_layout_here", "_law_pool", "_law_width_here", "_law_first", "_law_behind", "_law_over_at_here", "_law_turn", "_law_count", "_law_doors", "_law_gates", "_law_g", "_law_many", "_law_rules", "_law_over"]) (sc:=defScope s__law_house) rfl rfl (by decide +kernel)) (gk_name (by decide)) (qi_range1 rfl T.b_range (qv 10)) (fun _ _ _ _ _=>(pg_name (i:=0) (by show (["_law_j", "_law_pool", "_law_turn"]:List Str).Nodup; decide +kernel) rfl lc)) (fun _ _ _ _ _=>pif_nil) (fun _ _ _ _ _=>(pe_ix (ixE K rfl) (qv 1) (pe_op op_modK (pe_op op_addK (qv 2) (qv 0)) (pe_callB (lenE K rfl) rfl T.b_len bb_len (pa_cons (qv 1) pa_nil))) (fun _ _=>rfl))))
   (pss_cons (ps_set (i:=12) sc__law_house.nd rfl lc (pe_lst pa_nil))
   (pss_cons (qs_for PassesOwn.never rfl (qi_range1 rfl T.b_range (qv 10)) (pg_name (i:=13) sc__law_house.nd rfl lc) (pss_cons (ps_set (i:=14) sc__law_house.nd rfl lc (pe_fn (ok__law_draw T) hr.m rfl (pa_cons (qv 0) (pa_cons (pe_op op_addK (pe_op op_addK (qv 1) pe_int) (qv 13)) (pa_cons pe_int pa_nil)))))
   (pss_cons (ps_setC (i:=15) (nt:=1) (fi:=[0,2,8,5,1,13]) (N':=["_law_j", "_law_script", "_law_told_here", "_law_over_at_here", "_law_width_here", "_law_k", "_law_g"]) sc__law_house.nd rfl lc rfl (cscope rfl (by decide +kernel)) (cnames (N:=["_law_script", "_law_k", "_law_told_here", "_law_layout_here", "_law_pool", "_law_width_here", "_law_first", "_law_behind", "_law_over_at_here", "_law_turn", "_law_count", "_law_doors", "_law_gates", "_law_g", "_law_many", "_law_rules", "_law_over"]) (sc:=defScope s__law_house) rfl rfl (by decide +kernel)) (gk_name (by decide)) (qi_range1 rfl T.b_range (pe_op op_modK (qv 14) pe_int)) (fun _ _ _ _ _=>(pg_name (i:=0) (by show (["_law_j", "_law_script", "_law_told_here", "_law_over_at_here", "_law_width_here", "_law_k", "_law_g"]:List Str).Nodup; decide +kernel) rfl lc)) (fun _ _ _ _ _=>pif_nil) (fun _ _ _ _ _=>(pe_fn (ok__law_rule T) hr.m rfl (pa_cons (qv 1) (pa_cons (pe_op op_addK (pe_op op_addK (pe_op op_addK (qv 5) pe_int) (pe_op op_mulK pe_int (qv 6))) (pe_op op_mulK pe_int (qv 0))) (pa_cons (qv 2) (pa_cons (qv 3) (pa_cons (qv 4) pa_nil))))))))
   (pss_join (ps_if (qt_cmp op_gtK (qv 14) pe_int) (pss_cons (ps_set (i:=16) sc__law_house.nd rfl lc (pe_fn (ok__law_signs T) hr.m rfl (pa_cons (pe_fn (ok__law_draw T) hr.m rfl (pa_cons (qv 0) (pa_cons (pe_op op_addK (pe_op op_addK (qv 1) pe_int) (pe_op op_mulK pe_int (qv 13))) (pa_cons pe_int pa_nil)))) (pa_cons (qv 8) (pa_cons (qv 5) (pa_cons (qs [48,49,45,45]) pa_nil))))))
   (pss_one (ps_expr (qe_append (qv 15) (pe_tup (pa_cons (pe_op op_mulK (qs [45]) (qv 5)) (pa_cons (qs [112,97,115,115]) (pa_cons (qv 16) pa_nil)))))))) pss_nil)
   (pss_one (ps_expr (qe_append (qv 12) (pe_tup (pa_cons (pe_ix (ixE K rfl) (qv 11) (qv 13) (fun _ _=>rfl)) (pa_cons (qv 15) pa_nil))))))))))
   (pss_one (ps_ret (pe_tup (pa_cons (qv 12) (pa_cons (pe_fn (ok__law_ways T) hr.m rfl (pa_cons (qv 0) (pa_cons (pe_op op_addK (qv 1) pe_int) (pa_cons (qv 11) (pa_cons (pe_op op_subK (qv 7) (qv 6)) pa_nil))))) pa_nil))))))))))))),?_⟩
 rename_i a k t p o
 obtain ⟨ns,k0,ps,ls,pl,hS,rfl,hk,hT,tok,hL,ok,hO,N,q⟩:=h
 obtain ⟨fa,fb,esp,hab,hb⟩:=ok.to
 have eG:spanG ls = (fa,fb):=by unfold spanG; rw [esp]; rfl
 rw [eG] at q
 have w1:=ok.w1
 have w2:=ok.w2
 have hlen:=ok.len
 have hpl:(pl.map tx).length = 5:=by rw [List.length_map]; exact N.len
 walk_at "rd"
 refine ⟨ls,hL,by omega,fun H1 s1=>?_⟩
 generalize eW:widthL ls = W at *
 refine ⟨ls,hL.same s1,fun t1 H2 ht1 s2 e1=>?_⟩
 rw [eG] at e1
 have s12:=s1.trans s2
 refine ⟨[_,_],.inr (SqT.of e1),rfl,_,[_],rfl,_,[],rfl,rfl,?_⟩
 walk_at "rd"
 refine ⟨ns,ps,s12.seq hS,s12.seq hT,tok.l1,by have:=tok.l5; omega,fun ov H3 os hov s3 e3 hos=>?_⟩
 have s13:=s12.trans s3
 have hosW:∀ x ∈ os,x < W:=fun x hx=>tok.lt x (hos x hx)
 walk_at "rd"
 refine ⟨_,.inl (s13.seq hO),draw_to (s13.seq hS) (by omega) (by omega) (by omega) (by omega) fun r1 hr1=>?_⟩
 walk_at "rd"
 refine ⟨by decide,fun c1 hc1=>?_⟩
 have s4:=s13.trans (same_new hc1 (.lst [V.int 1,V.int 2,V.int 3,V.int 2,V.int 1,V.int 2,V.int 3,V.int 2,V.int 0]))
 have e4:=same_new hc1 (.lst [V.int 1,V.int 2,V.int 3,V.int 2,V.int 1,V.int 2,V.int 3,V.int 2,V.int 0]) _ _ e3
 refine draw_to (s4.seq hS) (by omega) (by omega) (by decide) (by decide) fun r2 hr2=>?_
 obtain ⟨c,hc,ec⟩:=pick_int (cs:=[1,2,3,2,1,2,3,2,0]) (B:=3) (vs:=[V.int 1,V.int 2,V.int 3,V.int 2,V.int 1,V.int 2,V.int 3,V.int 2,V.int 0]) rfl (by decide) (i:=r2) (by show r2 < 9; omega)
 walk_at "rd"
 refine ⟨_,_,.inl (SqL.of upd_same),ec,?_⟩
 walk_at "rd"
 refine ⟨by omega,by omega,fun ds hds=>?_⟩
 rw [Int.toNat_natCast]
 have dnP:∀ j:Nat,∃ h:(r1 + j) % 5 < pl.length,pl.getD ((r1 + j) % 5) [] = pl[(r1 + j) % 5]:=fun j=>by
  have h1:(r1 + j) % 5 < pl.length:=by rw [N.len]; exact Nat.mod_lt _ (by decide)
  exact ⟨h1,by rw [List.getD_eq_getElem?_getD,List.getElem?_eq_getElem h1]; rfl⟩
 have dnd:=doors_nd N (r1:=r1) hc
 refine comp_range (lo:=0) (n:=c) (h:=fun j=>[tx (pl.getD ((r1 + j) % 5) [])]) hds (by omega) (fun _=>by simp) ?_ ?_
 ·intro i H5 out non hi s5 ho _
  have s45:=s4.trans s5
  walk_at "rd"
  rw [show ((r1:Int) + (i:Int)) = ((r1 + i:Nat):Int) by omega]
  obtain ⟨h1,h2⟩:=dnP i
  refine ⟨_,.inl (s45.seq hO),by rw [hpl]; decide,_,_,.inl (s45.seq hO),?_,ho _ _ rfl (Same.refl _)⟩
  rw [hpl,show (((r1 + i:Nat):Int) % ((5:Nat):Int)) = (((r1 + i) % 5:Nat):Int) by omega]
  refine atI_nat ?_
  rw [List.getElem?_map,List.getElem?_eq_getElem h1,h2]
  rfl
 intro H5 s5 e5
 rw [flat_one' (fun j=>tx (pl.getD ((r1 + j) % 5) [])),show (List.range c).map (fun j=>tx (pl.getD ((r1 + j) % 5) [])) = ((List.range c).map fun j=>pl.getD ((r1 + j) % 5) []).map tx by rw [List.map_map]; rfl] at e5
 have dmem:∀ x ∈ (List.range c).map (fun j=>pl.getD ((r1 + j) % 5) []),x ∈ pl:=fun x hx=>by
  obtain ⟨j,_,rfl⟩:=List.mem_map.mp hx
  obtain ⟨h1,h2⟩:=dnP j
  rw [h2]
  exact List.getElem_mem h1
 have dlen:((List.range c).map fun j=>pl.getD ((r1 + j) % 5) []).length = c:=by simp
 generalize (List.range c).map (fun j=>pl.getD ((r1 + j) % 5) []) = dl at dnd dmem dlen e5
 have s45:=s4.trans s5
 have e6:=s5 _ _ e4
 clear dnP
 refine ⟨Nat.zero_le _,fun gl hgl=>⟨by omega,by omega,?_⟩⟩
 have sg:=same_new hgl (.lst [])
 refine loop_range (lo:=0) (n:=c) (fun i σ H'=>∃ (gs:List Gate) (vs:List V) (u13 u14 u15 u16:Option V),σ = [some (.ref a),some (nV k0),some (.ref t),some (.ref p),some (.ref o),some (nV W),some (nV fa),some (nV fb),some (.ref ov),some (nV r1),some (nV c),some (.ref ds),some (.ref gl),u13,u14,u15,u16] /\ Same H5 H' /\ H' gl = some (.lst vs) /\ Paired (GateB gl (fun r=>H r = none) H') gs vs /\ gs.map (·.1) = dl.take i /\ (∀ x ∈ gs,∀ r ∈ x.2,RuleOk W r) /\ ∀ x ∈ gs,x.2.length <= 5)
  ⟨[],[],none,none,none,none,rfl,sg,upd_same,.nil,by simp,fun x hx=>by simp at hx,fun x hx=>by simp at hx⟩ ?_ ?_
 ·rintro i σ H6 hi ⟨gs,vs,u13,u14,u15,u16,rfl,s6,eg,pg,hgd,hgr,hgn⟩
  have s46:=s45.trans s6
  walk_at "rd"
  refine draw_to (s46.seq hS) (by omega) (by omega) (by decide) (by decide) fun r3 hr3=>?_
  walk_at "rd"
  have hm5:r3 % 5 < 5:=Nat.mod_lt _ (by decide)
  rw [show ((r3:Int) % 5) = ((r3 % 5:Nat):Int) by omega,Int.toNat_natCast]
  have mul9:CMul 9 (i:Int):=.inl ⟨by decide,by decide⟩
  have mul2:∀ j:Nat,CMul 2 (j:Int):=fun j=>.inl ⟨by decide,by decide⟩
  refine ⟨by omega,by omega,fun R hR=>?_⟩
  refine comp_relR (lo:=0) (n:=r3 % 5) (fun _ v H'=>∃ r:Rule,RuleOk W r /\ RuleAt H' r v) hR (by omega) ?_ ?_ ?_
  ·rintro x v H7 H8 acc hd k ⟨r,hr,t',rfl,et⟩
   exact ⟨r,hr,t',rfl,k t' _ (fun z=>by rw [z,hd] at et; cases et) et⟩
  ·intro j H7 out non hj s7 ho
   have s47:=s46.trans s7
   walk_at "rd"
   refine ⟨mul9,mul2 j,ns,k0 + 22 + 9 * i + 2 * j,W,ps,os,s47.seq hS,by omega,by omega,rfl,by omega,s47.seq hT,tok.lt,SqL.of (s7 _ _ (s6 _ _ e6)),hosW,fun t7 H8 r ht7 s8 e8 hrok=>?_⟩
   exact ho _ _ s8 ⟨r,hrok,t7,rfl,e8⟩
  intro H7 us s7 e7 p7
  obtain ⟨rs,pr7,hrl,hrok⟩:=paired_choose p7
  rw [List.length_range] at hrl
  have hR5:=s6.free hR
  have s47:=s46.trans s7
  have nRg:R ≠ gl:=fun z=>by rw [z,eg] at hR; cases hR
  refine ⟨fun σ' H'=>∃ (rs:List Rule) (u:Option V),σ' = [some (.ref a),some (nV k0),some (.ref t),some (.ref p),some (.ref o),some (nV W),some (nV fa),some (nV fb),some (.ref ov),some (nV r1),some (nV c),some (.ref ds),some (.ref gl),some (nV i),some (nV r3),some (.ref R),u] /\ Same H6 H' /\ Rules H' R rs /\ (∀ r ∈ rs,RuleOk W r) /\ rs.length <= 5,?_,?_⟩
  ·refine ite2 (fun g4=>⟨mul9,draw_to (s47.seq hS) (by omega) (by omega) (by decide) (by decide) fun r4 hr4=>?_⟩) fun g4=>⟨rs,_,rfl,s7,⟨us,e7,pr7⟩,hrok,by omega⟩
   refine signs_to (by omega) (SqL.of (s7 _ _ (s6 _ _ e6))) hosW (by decide) (by decide) (by unfold RowL; decide) fun over H8 s8 hl8 hr8=>?_
   refine ⟨⟨_,s8 _ _ e7⟩,by omega,by omega,by decide,fun t8 ht8=>?_⟩
   rw [Int.toNat_natCast]
   have s9:=same_new ht8 (.tup [V.str (st (List.replicate W 45)),V.str (st [112,97,115,115]),tx over])
   have e9:=s9 _ _ (s8 _ _ e7)
   have hul:=pr7.length
   refine ⟨us,e9,sizeBig (by omega),rs ++ [(List.replicate W 45,passT,over)],_,rfl,same_upd (s7.trans (s8.trans s9)) hR,⟨_,upd_same,?_⟩,fun r hr=>?_,by rw [List.length_append,hrl]; simp; omega⟩
   ·refine paired_snoc (L2.Paired.mapP pr7 ?_) ⟨t8,rfl,?_⟩
    ·rintro x v ⟨t',rfl,et⟩
     exact ⟨t',rfl,keep_lst e9 _ _ (s9 _ _ (s8 _ _ et))⟩
    ·exact keep_lst e9 _ _ upd_same
   ·rcases List.mem_append.mp hr with z | z
    ·exact hrok r z
    ·rw [List.mem_singleton.mp z]
     exact ⟨fun c hc=>.inr (.inr (List.eq_of_mem_replicate hc)),by simp,.inl rfl,hr8,hl8⟩
  ·rintro σ' H8 ⟨rs',u,rfl,s8,hR8,hrok',hrl'⟩
   walk_at "rd"
   have eg8:=s8 _ _ eg
   have hid:i < dl.length:=by omega
   refine ⟨⟨_,eg8⟩,_,tx dl[i],.inl (SqL.of (s8 _ _ (s6 _ _ e5))),atI_nat (by rw [List.getElem?_map,List.getElem?_eq_getElem hid]; rfl),by decide,fun t9 ht9=>?_⟩
   have s9:=same_new ht9 (.tup [tx dl[i],.ref R])
   have eg9:=s9 _ _ eg8
   have hvl:=pg.length
   have hgl2:gs.length = i:=by
    have:=congrArg List.length hgd
    rw [List.length_map,List.length_take] at this
    omega
   refine ⟨vs,eg9,sizeBig (by omega),gs ++ [(dl[i],rs')],_,_,_,_,_,rfl,same_upd (s6.trans (s8.trans s9)) hgl,upd_same,?_,?_,fun x hx=>?_,fun x hx=>?_⟩
   ·exact paired_snoc (gateB_upd eg9 (gateB_same (s8.trans s9) pg)) ⟨t9,R,rfl,⟨nRg,s46.free hR⟩,keep_lst eg9 _ _ upd_same,rules_off eg9 nRg (hR8.same s9)⟩
   ·rw [List.map_append,hgd,List.take_add_one,List.getElem?_eq_getElem hid]
    rfl
   ·rcases List.mem_append.mp hx with z | z
    ·exact hgr x z
    ·rw [List.mem_singleton.mp z]
     exact hrok'
   ·rcases List.mem_append.mp hx with z | z
    ·exact hgn x z
    ·rw [List.mem_singleton.mp z]
     exact hrl'
 ·rintro σ H6 ⟨gs,vs,u13,u14,u15,u16,rfl,s6,eg,pg,hgd,hgr,hgn⟩
  have s46:=s45.trans s6
  rw [<- dlen,List.take_length] at hgd
  walk_at "rd"
  refine ⟨ns,k0 + 5,fb - fa,dl,s46.seq hS,by omega,by omega,by omega,by omega,SqL.of (s6 _ _ e5),by omega,fun wp H7 ws hwp s7 hw wok hwl=>⟨by decide,fun hp hhp=>?_⟩⟩
  have s8:=same_new hhp (.tup [V.ref gl,V.ref wp])
  have s78:=s7.trans s8
  have ngw:gl ≠ wp:=fun z=>by rw [z,hwp] at eg; cases eg
  refine q hp gl wp _ (gs,ws) ((s46.trans s7).free hhp) (s45.free hgl) (s46.free hwp) (s46.trans s78) ⟨upd_same,ngw,⟨vs,s78 _ _ eg,L2.Paired.mapP pg ?_⟩,hw.same s8⟩ ⟨?_,fun x hx=>?_,?_,hgr,fun x hx=>Nat.le_trans (hgn x hx) (by decide),?_,Nat.le_trans hwl (by decide)⟩ hwl
  ·rintro x v ⟨t',r,rfl,n,h1,h2⟩
   refine ⟨t',r,rfl,⟨n.1,fun z=>?_,n.2⟩,s78 _ _ h1,h2.same s78⟩
   obtain ⟨us,eu,_⟩:=h2
   rw [z,hwp] at eu
   cases eu
  ·show (gs.map (·.1)).Nodup
   rw [hgd]
   exact dnd
  ·exact dmem _ (by rw [<- hgd]; exact List.mem_map.mpr ⟨x,hx,rfl⟩)
  ·have:=congrArg List.length hgd
   rw [List.length_map,dlen] at this
   show gs.length <= 3
   omega
  ·show WaysOk (fb - fa) (gs.map (·.1)) ws
   rw [hgd]
   exact wok
theorem paired_flip {α β γ:Type} {F:α -> β -> Prop} {G:β -> γ -> Prop} {f:α -> γ} (h:∀ x v,F x v -> G v (f x)):∀ {l:List α} {vs:List β},Paired F l vs -> Paired G vs (l.map f)
 | _,_,.nil=>.nil
 | _,_,.cons r p=>.cons (h _ _ r) (paired_flip h p)
theorem paired_back {α β γ:Type} {F:α -> β -> Prop} {G:β -> γ -> Prop} {f:α -> γ} (h:∀ x v,G v (f x) -> F x v):∀ {l:List α} {vs:List β},Paired G vs (l.map f) -> Paired F l vs
 | [],_,p=>by cases p; exact .nil
 | x :: l,_,p=>by
  cases p with
  | cons r p=>exact .cons (h _ _ r) (paired_back h p)
theorem th_l {H:Hp} {n:Nat} {v:V} {ds:List D} (h:Th H (n + 1) v (.l ds)):∃ a vs,v = .ref a /\ H a = some (.lst vs) /\ Paired (Th H n) vs ds:=by
 rcases h with ⟨e,_⟩ | ⟨a,vs,ds',e1,e2,e3,_,p⟩ | ⟨a,vs,ds',e1,e2,e3,_,p⟩
 ·cases e
 ·cases e2; exact ⟨a,vs,e1,e3,p⟩
 ·cases e2
theorem th_t {H:Hp} {n:Nat} {v:V} {ds:List D} (h:Th H (n + 1) v (.t ds)):∃ a vs,v = .ref a /\ H a = some (.tup vs) /\ Paired (Th H n) vs ds:=by
 rcases h with ⟨e,_⟩ | ⟨a,vs,ds',e1,e2,e3,_,p⟩ | ⟨a,vs,ds',e1,e2,e3,_,p⟩
 ·cases e
 ·cases e2
 ·cases e2; exact ⟨a,vs,e1,e3,p⟩
theorem mk_l {H:Hp} {n:Nat} {a:Addr} {vs:List V} {ds:List D} (e:H a = some (.lst vs)) (hl:vs.length <= 1000) (p:Paired (Th H n) vs ds):Th H (n + 1) (.ref a) (.l ds):=.inr (.inl ⟨a,vs,ds,rfl,rfl,e,hl,p⟩)
theorem mk_t {H:Hp} {n:Nat} {a:Addr} {vs:List V} {ds:List D} (e:H a = some (.tup vs)) (hl:vs.length <= 1000) (p:Paired (Th H n) vs ds):Th H (n + 1) (.ref a) (.t ds):=.inr (.inr ⟨a,vs,ds,rfl,rfl,e,hl,p⟩)
theorem fld_th {H:Hp} {x:Fld} {v:V} (n:Nat) (h:FldAt H x v):Th H (n + 1) v (fldD x):=by
 obtain ⟨t,rfl,e⟩:=h
 exact mk_t e (by simp) (.cons (th_flat n rfl) (.cons (th_flat n rfl) .nil))
theorem fld_back {H:Hp} {x:Fld} {v:V} {n:Nat} (h:Th H (n + 1) v (fldD x)):FldAt H x v:=by
 obtain ⟨a,vs,rfl,e,p⟩:=th_t h
 cases p with
 | cons r p=>cases p with
  | cons r2 p=>
   cases p
   rw [th_of r,th_of r2] at e
   exact ⟨a,rfl,e⟩
theorem way_th {H:Hp} {x:Way} {v:V} (n:Nat) (h:WayAt H x v):Th H (n + 1) v (wayD x):=by
 obtain ⟨t,rfl,e⟩:=h
 exact mk_t e (by simp) (.cons (th_flat n rfl) (.cons (th_flat n rfl) .nil))
theorem way_back {H:Hp} {x:Way} {v:V} {n:Nat} (h:Th H (n + 1) v (wayD x)):WayAt H x v:=by
 obtain ⟨a,vs,rfl,e,p⟩:=th_t h
 cases p with
 | cons r p=>cases p with
  | cons r2 p=>
   cases p
   rw [th_of r,th_of r2] at e
   exact ⟨a,rfl,e⟩
theorem rule_th {H:Hp} {x:Rule} {v:V} (n:Nat) (h:RuleAt H x v):Th H (n + 1) v (ruleD x):=by
 obtain ⟨t,rfl,e⟩:=h
 exact mk_t e (by simp) (.cons (th_flat n rfl) (.cons (th_flat n rfl) (.cons (th_flat n rfl) .nil)))
theorem rule_back {H:Hp} {x:Rule} {v:V} {n:Nat} (h:Th H (n + 1) v (ruleD x)):RuleAt H x v:=by
 obtain ⟨a,vs,rfl,e,p⟩:=th_t h
 cases p with
 | cons r p=>cases p with
  | cons r2 p=>cases p with
   | cons r3 p=>
    cases p
    rw [th_of r,th_of r2,th_of r3] at e
    exact ⟨a,rfl,e⟩
noncomputable def layD (ls:List Fld):D:=.l (ls.map fldD)
noncomputable def gateD (x:Gate):D:=.t [.f (tx x.1),.l (x.2.map ruleD)]
noncomputable def houseD (h:House):D:=.t [.l (h.1.map gateD),.l (h.2.map wayD)]
theorem lay_th {H:Hp} {p:Addr} {ls:List Fld} (n:Nat) (h:Lay H p ls) (hl:ls.length <= 1000):Th H (n + 2) (.ref p) (layD ls):=by
 obtain ⟨vs,e,pr⟩:=h
 exact mk_l e (by rw [<- pr.length]; exact hl) (paired_flip (fun x v z=>fld_th n z) pr)
theorem lay_back {H:Hp} {v:V} {ls:List Fld} {n:Nat} (h:Th H (n + 2) v (layD ls)):∃ p,v = .ref p /\ Lay H p ls:=by
 obtain ⟨a,vs,rfl,e,p⟩:=th_l h
 exact ⟨a,rfl,vs,e,paired_back (F:=FldAt H) (fun x v z=>fld_back z) p⟩
theorem rules_th {H:Hp} {p:Addr} {rs:List Rule} (n:Nat) (h:Rules H p rs) (hl:rs.length <= 1000):Th H (n + 2) (.ref p) (.l (rs.map ruleD)):=by
 obtain ⟨vs,e,pr⟩:=h
 exact mk_l e (by rw [<- pr.length]; exact hl) (paired_flip (fun x v z=>rule_th n z) pr)
theorem rules_back {H:Hp} {v:V} {rs:List Rule} {n:Nat} (h:Th H (n + 2) v (.l (rs.map ruleD))):∃ p,v = .ref p /\ Rules H p rs:=by
 obtain ⟨a,vs,rfl,e,p⟩:=th_l h
 exact ⟨a,rfl,vs,e,paired_back (F:=RuleAt H) (fun x v z=>rule_back z) p⟩
theorem gate_back {H:Hp} {x:Gate} {v:V} {n:Nat} (h:Th H (n + 3) v (gateD x)):GateAt H x v:=by
 obtain ⟨a,vs,rfl,e,p⟩:=th_t h
 cases p with
 | cons r p=>cases p with
  | cons r2 p=>
   cases p
   obtain ⟨q,rfl,hq⟩:=rules_back r2
   rw [th_of r] at e
   exact ⟨a,q,rfl,e,hq⟩
theorem house_th {H:Hp} {t:Addr} {hs:House} (n:Nat) (h:HouseAt H t hs) (h1:hs.1.length <= 1000) (h2:hs.2.length <= 1000) (h3:∀ x ∈ hs.1,x.2.length <= 1000):Th H (n + 5) (.ref t) (houseD hs):=by
 obtain ⟨g,w,e,⟨vs,eg,pg⟩,⟨us,ew,pw⟩⟩:=h
 refine mk_t e (by simp) (.cons (mk_l eg (by rw [<- pg.length]; exact h1) ?_) (.cons (mk_l ew (by rw [<- pw.length]; exact h2) (paired_flip (fun x v z=>way_th (n + 2) z) pw)) .nil))
 clear eg e ew pw h1 h2
 obtain ⟨gs,ws⟩:=hs
 dsimp only at pg h3 ⊢
 induction pg with
 | nil=>exact .nil
 | cons r p ih=>
  refine .cons ?_ (ih fun x hx=>h3 x (List.mem_cons_of_mem _ hx))
  obtain ⟨t',q,rfl,e,hq⟩:=r
  exact mk_t e (by simp) (.cons (th_flat (n + 2) rfl) (.cons (rules_th n hq (h3 _ List.mem_cons_self)) .nil))
theorem house_back {H:Hp} {v:V} {hs:House} {n:Nat} (h:Th H (n + 5) v (houseD hs)):∃ t,v = .ref t /\ HouseAt H t hs:=by
 obtain ⟨a,vs,rfl,e,p⟩:=th_t h
 cases p with
 | cons r p=>cases p with
  | cons r2 p=>
   cases p
   obtain ⟨g,gv,rfl,eg,pg⟩:=th_l r
   obtain ⟨w,wv,rfl,ew,pw⟩:=th_l r2
   exact ⟨a,rfl,g,w,e,⟨gv,eg,paired_back (F:=GateAt H) (fun x v z=>gate_back z) pg⟩,⟨wv,ew,paired_back (F:=WayAt H) (fun x v z=>way_back z) pw⟩⟩
noncomputable abbrev Named:=List Nat × House
def NamedAt (H:Hp) (x:Named) (v:V):Prop:=∃ t q,v = .ref t /\ H t = some (.tup [tx x.1,.ref q]) /\ HouseAt H q x.2
def Houses (H:Hp) (p:Addr) (hs:List Named):Prop:=∃ vs,H p = some (.lst vs) /\ Paired (NamedAt H) hs vs
theorem Houses.same {H H':Hp} {p:Addr} {hs:List Named} (h:Houses H p hs) (s:Same H H'):Houses H' p hs:=by
 obtain ⟨vs,e,pr⟩:=h
 exact ⟨vs,s _ _ e,L2.Paired.mapP pr fun _ _ ⟨t,q,e,h1,h2⟩=>⟨t,q,e,s _ _ h1,h2.same s⟩⟩
noncomputable def spotsOf (hs:List Named):List Way:=hs.flatMap fun x=>x.2.1.map fun g=>(x.1,g.1)
theorem spots_snoc (hs:List Named) (i:Nat) (h:i < hs.length):spotsOf (hs.take (i + 1)) = spotsOf (hs.take i) ++ hs[i].2.1.map fun g=>(hs[i].1,g.1):=by
 unfold spotsOf
 rw [List.take_add_one,List.getElem?_eq_getElem h,Option.toList_some,List.flatMap_append]
 simp
theorem paired_app {α β:Type} {F:α -> β -> Prop}:∀ {l l':List α} {m m':List β},Paired F l m -> Paired F l' m' -> Paired F (l ++ l') (m ++ m')
 | _,_,_,_,.nil,q=>q
 | _,_,_,_,.cons r p,q=>.cons r (paired_app p q)
theorem paired_mapL {α β γ:Type} {F:β -> γ -> Prop} {f:α -> β}:∀ {l:List α} {vs:List γ},Paired (fun x v=>F (f x) v) l vs -> Paired F (l.map f) vs
 | _,_,.nil=>.nil
 | _,_,.cons r p=>.cons r (paired_mapL p)
noncomputable def sp__law_spots (K:Frag):Sp:=fun vs H Q _=>match vs with
 | [.ref p]=>∃ hs:List Named,Houses H p hs /\ hs.length <= 100 /\ (∀ x ∈ hs,x.2.1.length <= 100) /\ ∀ q H',H q = none -> Same H H' -> Ways H' q (spotsOf hs) -> Q (.ref q) H'
 | _=>False
theorem spots_len {hs:List Named} {c:Nat} (h:∀ x ∈ hs,x.2.1.length <= c):(spotsOf hs).length <= hs.length * c:=by
 unfold spotsOf
 induction hs with
 | nil=>simp
 | cons x hs ih=>
  have h1:=h x List.mem_cons_self
  have h2:=ih fun y hy=>h y (List.mem_cons_of_mem _ hy)
  rw [List.flatMap_cons,List.length_append,List.length_map,List.length_cons,Nat.add_mul]
  omega
theorem ok__law_spots (T:Top K mg):Callee P w K mg base 1 "_law_spots" ["_law_houses"] (sp__law_spots K):=by
 refine T.f__law_spots.cal sc__law_spots (by intro vs H Q E h; unfold sp__law_spots at h; split at h <;> first | rfl | exact h.elim) (fun _ _ _ _ _ _ us hl=>match us,hl with | [_],_=>rfl) (fun f cdv A outer s H vs Q E hr h=>?_)
 unfold sp__law_spots at h
 split at h
 case h_2=>exact h.elim
 refine ⟨_,(pss_cons (ps_set (i:=1) sc__law_spots.nd rfl lc (pe_lst pa_nil))
   (pss_cons (qs_for PassesOwn.never rfl (iterE K rfl (qv 0)) (tupE K rfl rfl (n:=2) (pgs_cons (pg_name (i:=2) sc__law_spots.nd rfl lc) (pgs_cons (pg_name (i:=3) sc__law_spots.nd rfl lc) pgs_nil))) (pss_one (ps_expr (qe_extend (qv 1) (qe_comp (nt:=1) (fi:=[2]) (N':=["_law_gate", "_law_name"]) rfl (cscope rfl (by decide +kernel)) (cnames (N:=["_law_houses", "_law_spots_here", "_law_name", "_law_house_here"]) (sc:=defScope s__law_spots) rfl rfl (by decide +kernel)) (gk_name (by decide)) (iterE K rfl (pe_ix (ixE K rfl) (qv 3) pe_int (fun _ _=>rfl))) (fun _ _ _ _ _=>(pg_name (i:=0) (by show (["_law_gate", "_law_name"]:List Str).Nodup; decide +kernel) rfl lc)) (fun _ _ _ _ _=>pif_nil) (fun _ _ _ _ _=>(pe_tup (pa_cons (qv 1) (pa_cons (pe_ix (ixE K rfl) (qv 0) pe_int (fun _ _=>rfl)) pa_nil)))))))))
   (pss_one (ps_ret (qv 1))))),?_⟩
 rename_i p
 obtain ⟨hs,⟨vs,e0,pr⟩,hn,hg,q⟩:=h
 have hl:=pr.length
 walk_at "rd"
 refine ⟨Nat.zero_le _,fun g hg0=>?_⟩
 have s1:=same_new hg0 (.lst [])
 refine .inl ⟨⟨_,SqL.of (s1 _ _ e0)⟩,?_⟩
 refine loop_list (xs:=vs) (fun i σ H'=>∃ u v,σ = [some (.ref p),some (.ref g),u,v] /\ Same H H' /\ Ways H' g (spotsOf (hs.take i))) ⟨none,none,rfl,s1,⟨[],upd_same,.nil⟩⟩ (fun i σ H' _ ⟨_,_,_,z,_⟩=>SqL.of (z _ _ e0)) ?_ ?_
 ·rintro i x σ H1 hx ⟨u,v,rfl,s2,⟨us,eu,pu⟩⟩
  have hi:i < vs.length:=(List.getElem?_eq_some_iff.mp hx).1
  have hil:i < hs.length:=by omega
  obtain ⟨y,hy,t,hq,ey,et,hH⟩:=paired_at pr (List.getElem?_eq_getElem hil)
  obtain rfl:x = .ref t:=by rw [hy] at hx; rw [<- Option.some.inj hx,ey]
  obtain ⟨ga,wa,eh,⟨gv,eg,pg⟩,_⟩:=hH.same s2
  have hgl:=pg.length
  obtain ⟨z1,z2⟩:=paired_zip pg
  have hgi:=hg hs[i] (List.getElem_mem hil)
  refine ⟨t,[_,_],rfl,SqT.of (s2 _ _ et),rfl,_,[_],rfl,_,[],rfl,rfl,?_⟩
  walk_at "rd"
  refine ⟨⟨_,eu⟩,_,_,.inr (SqT.of eh),rfl,?_⟩
  walk_at "rd"
  refine .inl ⟨⟨_,SqL.of eg⟩,fun D hD=>?_⟩
  refine comp_rel (item:=fun x:Gate × V=>x.2) (hs[i].2.1.zip gv) (fun _=>true) (fun x v H'=>WayAt H' (hs[i].1,x.1.1) v) hD (by rw [z1]; exact SqL.of eg) (by rw [List.length_zip]; omega) ?_ ?_ ?_
  ·rintro x v H2 H3 acc hd k ⟨t',rfl,et'⟩
   exact ⟨t',rfl,k t' _ (fun z=>by rw [z,hd] at et'; cases et') et'⟩
  ·intro x H2 out non hx2 s3 ho _
   obtain ⟨t',r',ex,et',_⟩:=z2 x hx2
   rw [ex]
   walk_at "rd"
   refine ⟨_,_,.inr (SqT.of (s3 _ _ et')),rfl,by decide,fun t2 ht2=>?_⟩
   exact ho _ _ rfl (same_new ht2 _) ⟨t2,rfl,upd_same⟩
  ·intro H2 ws s3 e3 p3
   have p4:Paired (WayAt H2) (hs[i].2.1.map fun g=>(hs[i].1,g.1)) ws:=by
    have hf:(hs[i].2.1.zip gv).filter (fun _=>true) = hs[i].2.1.zip gv:=List.filter_eq_self.mpr fun _ _=>rfl
    rw [hf] at p3
    have:hs[i].2.1.map (fun g=>((hs[i].1,g.1):Way)) = (hs[i].2.1.zip gv).map fun x=>(hs[i].1,x.1.1):=by
     conv=>lhs; rw [<- zip_fst (l:=hs[i].2.1) (m:=gv) hgl,List.map_map]
     rfl
    rw [this]
    exact paired_mapL p3
   have eu3:=s3 _ _ eu
   have ngD:g ≠ D:=fun z=>by rw [<- z,eu] at hD; cases hD
   have l1:=pu.length
   have l2:=p4.length
   have l3:=spots_len (hs:=hs.take i) (c:=100) fun x hx=>hg x (List.mem_of_mem_take hx)
   rw [List.length_take] at l3
   rw [List.length_map] at l2
   refine ⟨us,ws,eu3,e3,Nat.le_of_lt (sizeBig ?_),some (tx hs[i].1),some (.ref hq),rfl,same_upd (s2.trans s3) hg0,⟨_,upd_same,?_⟩⟩
   ·have:min i hs.length * 100 <= 100 * 100:=Nat.mul_le_mul_right _ (by omega)
    omega
   ·rw [spots_snoc hs i hil]
    refine paired_app (L2.Paired.mapP pu ?_) (L2.Paired.mapP p4 ?_)
    ·rintro x v ⟨t',rfl,et'⟩
     exact ⟨t',rfl,keep_lst eu3 _ _ (s3 _ _ et')⟩
    ·rintro x v ⟨t',rfl,et'⟩
     exact ⟨t',rfl,keep_lst eu3 _ _ et'⟩
 ·rintro σ H1 ⟨u,v,rfl,s2,hW⟩
  walk_at "rd"
  rw [<- hl,List.take_length] at hW
  exact q g H1 hg0 s2 hW
noncomputable abbrev Line:=Way × Way
def LineAt (H:Hp) (x:Line) (v:V):Prop:=∃ t u1 u2,v = .ref t /\ H t = some (.tup [u1,u2]) /\ WayAt H x.1 u1 /\ WayAt H x.2 u2
def Lines (H:Hp) (p:Addr) (ls:List Line):Prop:=∃ vs,H p = some (.lst vs) /\ Paired (LineAt H) ls vs
theorem line_keep {H H':Hp} (k:∀ t vs,H t = some (.tup vs) -> H' t = some (.tup vs)) {x:Line} {v:V} (h:LineAt H x v):LineAt H' x v:=by
 obtain ⟨t,u1,u2,e,h1,⟨a,ea,ha⟩,⟨b,eb,hb⟩⟩:=h
 exact ⟨t,u1,u2,e,k _ _ h1,⟨a,ea,k _ _ ha⟩,⟨b,eb,k _ _ hb⟩⟩
theorem Lines.same {H H':Hp} {p:Addr} {ls:List Line} (h:Lines H p ls) (s:Same H H'):Lines H' p ls:=by
 obtain ⟨vs,e,pr⟩:=h
 exact ⟨vs,s _ _ e,L2.Paired.mapP pr fun _ _ z=>line_keep (fun t us q=>s _ _ q) z⟩
noncomputable def endsOf (ls:List Line):List Way:=ls.flatMap fun x=>[x.1,x.2]
theorem paired_erase {α β:Type} {F:α -> β -> Prop}:∀ {l:List α} {m:List β} (i:Nat),Paired F l m -> Paired F (l.eraseIdx i) (m.eraseIdx i)
 | _,_,_,.nil=>.nil
 | _,_,0,.cons r p=>p
 | _,_,i + 1,.cons r p=>.cons r (paired_erase i p)
noncomputable def sp__law_lines (K:Frag):Sp:=fun vs H Q _=>match vs with
 | [.ref a,.ref p]=>∃ (ns:List Int) (sp:List Way),SqL K H a (ns.map V.int) /\ Ways H p sp /\ sp.length <= 1000 /\ sp.Nodup /\
   ∀ (c:Addr) (H':Hp) (ls:List Line),H c = none -> Same H H' -> Lines H' c ls -> (endsOf ls).Nodup -> (∀ s ∈ endsOf ls,s ∈ sp) -> ls.length <= 500 -> Q (.ref c) H'
 | _=>False
theorem ok__law_lines (T:Top K mg):Callee P w K mg base 2 "_law_lines" ["_law_script", "_law_spots_here"] (sp__law_lines K):=by
 refine T.f__law_lines.cal sc__law_lines (by intro vs H Q E h; unfold sp__law_lines at h; split at h <;> first | rfl | exact h.elim) (fun _ _ _ _ _ _ us hl=>match us,hl with | [_,_],_=>rfl) (fun f cdv A outer s H vs Q E hr h=>?_)
 unfold sp__law_lines at h
 split at h
 case h_2=>exact h.elim
 refine ⟨_,(pss_cons (ps_set (i:=2) sc__law_lines.nd rfl lc (pe_callTy (call_listK K rfl rfl) rfl T.b_list bb_list (pa_cons (qv 1) pa_nil)))
   (pss_cons (ps_set (i:=3) sc__law_lines.nd rfl lc (pe_op op_fdivK (pe_callB (lenE K rfl) rfl T.b_len bb_len (pa_cons (qv 1) pa_nil)) pe_int))
   (pss_cons (ps_set (i:=4) sc__law_lines.nd rfl lc (pe_lst pa_nil))
   (pss_cons (qs_for PassesOwn.never rfl (qi_range1 rfl T.b_range (pe_callB (call_max2K rfl) rfl T.b_max bb_max (pa_cons (pe_fn (ok__law_draw T) hr.m rfl (pa_cons (qv 0) (pa_cons pe_int (pa_cons (pe_op op_addK (qv 3) pe_int) pa_nil)))) (pa_cons (pe_fn (ok__law_draw T) hr.m rfl (pa_cons (qv 0) (pa_cons pe_int (pa_cons (pe_op op_addK (qv 3) pe_int) pa_nil)))) pa_nil)))) (pg_name (i:=5) sc__law_lines.nd rfl lc) (pss_cons (ps_set (i:=6) sc__law_lines.nd rfl lc (qe_popAt (qv 2) (pe_fn (ok__law_draw T) hr.m rfl (pa_cons (qv 0) (pa_cons (pe_op op_addK pe_int (pe_op op_mulK pe_int (qv 5))) (pa_cons (pe_callB (lenE K rfl) rfl T.b_len bb_len (pa_cons (qv 2) pa_nil)) pa_nil))))))
   (pss_one (ps_expr (qe_append (qv 4) (pe_tup (pa_cons (qv 6) (pa_cons (qe_popAt (qv 2) (pe_fn (ok__law_draw T) hr.m rfl (pa_cons (qv 0) (pa_cons (pe_op op_addK pe_int (pe_op op_mulK pe_int (qv 5))) (pa_cons (pe_callB (lenE K rfl) rfl T.b_len bb_len (pa_cons (qv 2) pa_nil)) pa_nil))))) pa_nil))))))))
   (pss_one (ps_ret (qv 4))))))),?_⟩
 rename_i a p
 obtain ⟨ns,sp,hS,⟨vs,e0,pr⟩,hl,hnd,q⟩:=h
 have hvl:=pr.length
 walk_at "rd"
 refine ⟨_,.inl (SqL.of e0),fun P hP=>?_⟩
 have s1:=same_new hP (.lst vs)
 refine ⟨_,.inl (SqL.of (s1 _ _ e0)),?_⟩
 refine ⟨Nat.zero_le _,fun c hc=>?_⟩
 have s2:=s1.trans (same_new hc (.lst []))
 have eP:=same_new hc (.lst []) _ _ (show upd H P (.lst vs) P = some (.lst vs) from upd_same)
 have ncP:c ≠ P:=fun z=>by rw [z,upd_same] at hc; cases hc
 have hc0:=s1.free hc
 refine draw_to (s2.seq hS) (by decide) (by decide) (by omega) (by omega) fun r1 hr1=>?_
 refine draw_to (s2.seq hS) (by decide) (by decide) (by omega) (by omega) fun r2 hr2=>?_
 walk_at "rd"
 obtain ⟨z,ez,hz⟩:∃ z:Nat,(if (r1:Int) < (r2:Int) then (r2:Int) else (r1:Int)) = (z:Int) /\ 2 * z <= vs.length:=by
  split
  ·exact ⟨r2,rfl,by omega⟩
  ·exact ⟨r1,rfl,by omega⟩
 rw [ez,Int.toNat_natCast]
 refine ⟨by omega,by omega,?_⟩
 have nPc:P ≠ c:=Ne.symm ncP
 refine loop_range (lo:=0) (n:=z) (fun i σ H'=>∃ (rest:List Way) (pv:List V) (ls:List Line) (cv:List V) (u5 u6:Option V),σ = [some (.ref a),some (.ref p),some (.ref P),some (.int ((vs.length:Int) / 2)),some (.ref c),u5,u6] /\ Same H H' /\ H' P = some (.lst pv) /\ Paired (WayAt H') rest pv /\ H' c = some (.lst cv) /\ Paired (LineAt H') ls cv /\ (endsOf ls ++ rest).Perm sp /\ rest.length + 2 * i = sp.length /\ ls.length = i)
  ⟨sp,vs,[],[],none,none,rfl,s2,eP,ways_keep (fun t us z=>s2 _ _ z) pr,upd_same,.nil,List.Perm.refl _,by omega,rfl⟩ ?_ ?_
 ·rintro i σ H1 hi ⟨rest,pv,ls,cv,u5,u6,rfl,s3,e3,p3,e4,p4,hperm,hrl,hll⟩
  have l3:=p3.length
  have l4:=p4.length
  have mul2:CMul 2 (i:Int):=.inl ⟨by decide,by decide⟩
  walk_at "rd"
  refine ⟨⟨_,e3⟩,mul2,_,.inl (SqL.of e3),draw_to (s3.seq hS) (by omega) (by omega) (by omega) (by omega) fun r3 hr3=>?_⟩
  have h3:r3 < pv.length:=by omega
  have h3r:r3 < rest.length:=by omega
  refine ⟨pv,r3,pv[r3],rfl,e3,by omega,List.getElem?_eq_getElem h3,?_⟩
  obtain ⟨y1,hy1,w1⟩:=paired_at p3 (List.getElem?_eq_getElem h3r)
  rw [List.getElem?_eq_getElem h3] at hy1
  cases hy1
  have p5:=paired_erase r3 p3
  have le1:(pv.eraseIdx r3).length = pv.length - 1:=List.length_eraseIdx_of_lt h3
  have le2:(rest.eraseIdx r3).length = rest.length - 1:=List.length_eraseIdx_of_lt h3r
  have s4:Same H (upd H1 P (.lst (pv.eraseIdx r3))):=same_upd s3 hP
  have e5:upd H1 P (.lst (pv.eraseIdx r3)) P = some (.lst (pv.eraseIdx r3)):=upd_same
  have e6:upd H1 P (.lst (pv.eraseIdx r3)) c = some (.lst cv):=by rw [upd_ne ncP]; exact e4
  have k4:∀ t us,H1 t = some (.tup us) -> upd H1 P (.lst (pv.eraseIdx r3)) t = some (.tup us):=keep_lst e3
  generalize upd H1 P (.lst (pv.eraseIdx r3)) = H2 at s4 e5 e6 k4 ⊢
  walk_at "rd"
  refine ⟨⟨_,e6⟩,⟨_,e5⟩,mul2,_,.inl (SqL.of e5),draw_to (s4.seq hS) (by omega) (by omega) (by omega) (by omega) fun r4 hr4=>?_⟩
  have h4:r4 < (pv.eraseIdx r3).length:=by omega
  have h4r:r4 < (rest.eraseIdx r3).length:=by omega
  refine ⟨_,r4,(pv.eraseIdx r3)[r4],rfl,e5,by omega,List.getElem?_eq_getElem h4,by decide,fun t5 ht5=>?_⟩
  obtain ⟨y2,hy2,w2⟩:=paired_at p5 (List.getElem?_eq_getElem h4r)
  rw [List.getElem?_eq_getElem h4] at hy2
  cases hy2
  have p6:=paired_erase r4 p5
  have s5:Same H (upd H2 P (.lst ((pv.eraseIdx r3).eraseIdx r4))):=same_upd s4 hP
  have e7:upd H2 P (.lst ((pv.eraseIdx r3).eraseIdx r4)) P = some (.lst ((pv.eraseIdx r3).eraseIdx r4)):=upd_same
  have e8:upd H2 P (.lst ((pv.eraseIdx r3).eraseIdx r4)) c = some (.lst cv):=by rw [upd_ne ncP]; exact e6
  have k5:∀ t us,H2 t = some (.tup us) -> upd H2 P (.lst ((pv.eraseIdx r3).eraseIdx r4)) t = some (.tup us):=keep_lst e5
  generalize upd H2 P (.lst ((pv.eraseIdx r3).eraseIdx r4)) = H3 at s5 e7 e8 k5 ht5 ⊢
  have s6:=same_new ht5 (.tup [pv[r3],(pv.eraseIdx r3)[r4]])
  have e9:=s6 _ _ e8
  have kk:∀ t us,H1 t = some (.tup us) -> upd (upd H3 t5 (.tup [pv[r3],(pv.eraseIdx r3)[r4]])) c (.lst (cv ++ [.ref t5])) t = some (.tup us):=fun t us z=>keep_lst e9 _ _ (s6 _ _ (k5 _ _ (k4 _ _ z)))
  have nc5:c ≠ t5:=fun z=>by rw [<- z,e8] at ht5; cases ht5
  refine ⟨cv,e9,sizeBig (by omega),(rest.eraseIdx r3).eraseIdx r4,(pv.eraseIdx r3).eraseIdx r4,ls ++ [(rest[r3],(rest.eraseIdx r3)[r4])],cv ++ [.ref t5],_,_,rfl,same_upd (s5.trans s6) hc0,?_,ways_keep kk p6,upd_same,?_,?_,?_,by rw [List.length_append,hll]; rfl⟩
  ·rw [upd_ne nPc]
   exact s6 _ _ e7
  ·refine paired_snoc (L2.Paired.mapP p4 fun _ _ y=>line_keep kk y) ⟨t5,_,_,rfl,keep_lst e9 _ _ upd_same,?_,?_⟩
   ·obtain ⟨ta,ea,ha⟩:=w1
    exact ⟨ta,ea,kk _ _ ha⟩
   ·obtain ⟨ta,ea,ha⟩:=w2
    exact ⟨ta,ea,kk _ _ ha⟩
  ·refine List.Perm.trans ?_ hperm
   unfold endsOf
   rw [List.flatMap_append,List.append_assoc]
   refine List.Perm.append_left _ ?_
   show (rest[r3] :: (rest.eraseIdx r3)[r4] :: (rest.eraseIdx r3).eraseIdx r4).Perm rest
   exact ((perm_erase h4r).cons _).trans (perm_erase h3r)
  ·have:((rest.eraseIdx r3).eraseIdx r4).length = (rest.eraseIdx r3).length - 1:=List.length_eraseIdx_of_lt h4r
   omega
 ·rintro σ H1 ⟨rest,pv,ls,cv,u5,u6,rfl,s3,e3,p3,e4,p4,hperm,hrl,hll⟩
  walk_at "rd"
  refine q c H1 ls hc0 s3 ⟨cv,e4,p4⟩ ?_ (fun x hx=>hperm.mem_iff.mp (List.mem_append_left _ hx)) (by omega)
  exact (List.nodup_append.mp (hperm.nodup_iff.mpr hnd)).1
theorem tup_way {H:Hp} {x w:Way} {v:V} (h:WayAt H x v):tupEq H [tx w.1,tx w.2] v = decide (x = w):=by
 obtain ⟨t,rfl,e⟩:=h
 have txs:∀ x y:List Nat,eqV (tx x) (tx y) = decide (x = y):=fun x y=>by
  show (st x == st y) = _
  rw [Bool.eq_iff_iff,beq_iff_eq,st_inj,decide_eq_true_eq]
 unfold tupEq
 simp only [e,List.map_cons,List.map_nil,eqDs,eqD,txs,Bool.and_true]
 rw [Bool.eq_iff_iff]
 simp [Prod.ext_iff]
theorem any_way {H:Hp} {w:Way}:∀ {B:List Way} {us:List V},Paired (WayAt H) B us -> us.any (tupEq H [tx w.1,tx w.2]) = decide (w ∈ B)
 | _,_,.nil=>by simp
 | _,_,.cons (a:=x) r t=>by
  rw [List.any_cons,tup_way r,any_way t,Bool.eq_iff_iff,Bool.or_eq_true,decide_eq_true_eq,decide_eq_true_eq,decide_eq_true_eq,List.mem_cons]
  exact ⟨fun h=>h.imp Eq.symm id,fun h=>h.imp Eq.symm id⟩
theorem flat_ways {H:Hp}:∀ {B:List Way} {us:List V},Paired (WayAt H) B us -> ∀ y ∈ us,FlatT H y
 | _,_,.nil,y,hy=>by simp at hy
 | _,_,.cons ⟨t,e,q⟩ p,y,hy=>by
  rcases List.mem_cons.mp hy with rfl | hy
  ·exact ⟨t,_,e,q,rfl⟩
  ·exact flat_ways p y hy
noncomputable def sp_check_new (K:Frag):Sp:=fun vs H Q _=>match vs with
 | [v,.ref p]=>(∃ (n:List Nat) (ls:List (List Nat)),v = tx n /\ H p = some (.lst (ls.map tx)) /\ n ∉ ls /\ Q .non H) \/ (∃ (x:Way) (xs:List Way) (us:List V),WayAt H x v /\ H p = some (.lst us) /\ Paired (WayAt H) xs us /\ x ∉ xs /\ Q .non H)
 | _=>False
theorem ok_check_new (T:Top K mg):CalleeX P w K mg base 1 "check_new" ["thing", "earlier"] (sp_check_new K):=by
 refine T.f_check_new.calX sc_check_new (by intro vs H Q E h; unfold sp_check_new at h; split at h <;> first | rfl | exact h.elim) (fun _ _ _ _ _ _ us hl=>match us,hl with | [_,_],_=>rfl) (fun f cdv A outer s H vs Q E hr h=>?_)
 unfold sp_check_new at h
 split at h
 case h_2=>exact h.elim
 refine ⟨_,(pss_one (ps_if (qt_cmp (OpR.or (inE K rfl) (op_inT K rfl hr)) (qv 0) (qv 1)) (pss_one (ps_raise rfl raises_fn rfl T.x_Twice.1 T.x_Twice.2 (pa_cons (pe_fs (pj_cons (pe_fmtR (qv 0)) (pj_cons (qs [32,115,116,97,110,100,115,32,97,104,101,97,100]) pj_nil))) pa_nil))) pss_nil)),?_⟩
 rename_i v p
 rcases h with ⟨n,ls,rfl,e,hn,q⟩ | ⟨x,xs,us,⟨t,rfl,et⟩,e,pr,hn,q⟩
 ·walk_at "rd"
  refine .inl ⟨_,.inl (SqL.of e),rfl,flat_tx _,?_⟩
  rw [inV_tx]
  walk_at "rd"
  rw [if_neg hn]
  exact q
 ·walk_at "rd"
  refine .inr ⟨_,_,SqL.of e,et,rfl,flat_ways pr,?_⟩
  rw [any_way pr]
  walk_at "rd"
  rw [if_neg hn]
  exact q
noncomputable def sp_check_layout (K:Frag):Sp:=fun vs H Q _=>match vs with
 | [.ref p]=>∃ ls:List Fld,Lay H p ls /\ ls.length <= 1000 /\ (ls.map (·.1)).Nodup /\ (∀ x ∈ ls,1 <= x.2) /\ toT ∈ ls.map (·.1) /\ ∀ H',Same H H' -> Q .non H'
 | _=>False
theorem take_new {α:Type} {l:List α} (nd:l.Nodup) {i:Nat} (h:i < l.length):l[i] ∉ l.take i:=fun hm=>by
 obtain ⟨j,hj,e⟩:=List.mem_take_iff_getElem.mp hm
 have:=(List.getElem_inj nd).mp e
 omega
theorem ok_check_layout (T:Top K mg):CalleeX P w K mg base 2 "check_layout" ["layout"] (sp_check_layout K):=by
 refine T.f_check_layout.calX sc_check_layout (by intro vs H Q E h; unfold sp_check_layout at h; split at h <;> first | rfl | exact h.elim) (fun _ _ _ _ _ _ us hl=>match us,hl with | [_],_=>rfl) (fun f cdv A outer s H vs Q E hr h=>?_)
 unfold sp_check_layout at h
 split at h
 case h_2=>exact h.elim
 refine ⟨_,(pss_cons (ps_set (i:=1) sc_check_layout.nd rfl lc (pe_lst pa_nil))
   (pss_cons (qs_for PassesOwn.leaving rfl (iterE K rfl (qv 0)) (tupE K rfl rfl (n:=2) (pgs_cons (pg_name (i:=2) sc_check_layout.nd rfl lc) (pgs_cons (pg_name (i:=3) sc_check_layout.nd rfl lc) pgs_nil))) (pss_cons (ps_expr (pe_fnX (ok_check_new T) hr.m passes_fn rfl (pa_cons (qv 2) (pa_cons (qv 1) pa_nil))))
   (pss_cons (ps_if (qt_cmp op_ltK (qv 3) pe_int) (pss_one (ps_raise rfl raises_fn rfl T.x_Misfit.1 T.x_Misfit.2 (pa_cons (pe_fs (pj_cons (qs [102,105,101,108,100,32]) (pj_cons (pe_fmtR (qv 2)) (pj_cons (qs [32,104,97,115,32,110,111,32,112,108,97,99,101]) pj_nil)))) pa_nil))) pss_nil)
   (pss_one (ps_expr (qe_append (qv 1) (qv 2)))))))
   (pss_one (ps_if (qt_cmp (notinE K rfl) (qs [116,111]) (qv 1)) (pss_one (ps_raise rfl raises_fn rfl T.x_NoField.1 T.x_NoField.2 (pa_cons (qs [110,111,32,102,105,101,108,100,32,39,116,111,39]) pa_nil))) pss_nil)))),?_⟩
 rename_i p
 obtain ⟨ls,⟨vs,e0,pr⟩,hn,nd,hp,hto,q⟩:=h
 have hl:=pr.length
 walk_at "rd"
 refine ⟨Nat.zero_le _,fun g hg=>?_⟩
 have s1:=same_new hg (.lst [])
 refine .inl ⟨⟨_,SqL.of (s1 _ _ e0)⟩,?_⟩
 refine loop_list (xs:=vs) (fun i σ H'=>∃ u v,σ = [some (.ref p),some (.ref g),u,v] /\ Same H H' /\ H' g = some (.lst (((ls.take i).map (·.1)).map tx))) ⟨none,none,rfl,s1,upd_same⟩ (fun i σ H' _ ⟨_,_,_,z,_⟩=>SqL.of (z _ _ e0)) ?_ ?_
 ·rintro i x σ H1 hx ⟨u,v,rfl,s2,e2⟩
  have hi:i < vs.length:=(List.getElem?_eq_some_iff.mp hx).1
  have hil:i < ls.length:=by omega
  obtain ⟨y,hy,t,ey,et⟩:=paired_at pr (List.getElem?_eq_getElem hil)
  obtain rfl:x = .ref t:=by rw [hy] at hx; rw [<- Option.some.inj hx,ey]
  refine ⟨t,[_,_],rfl,SqT.of (s2 _ _ et),rfl,_,[_],rfl,_,[],rfl,rfl,?_⟩
  walk_at "rd"
  have hni:ls[i].1 ∉ (ls.take i).map (·.1):=by
   rw [List.map_take]
   have:=take_new nd (i:=i) (by simpa using hil)
   rwa [List.getElem_map] at this
  refine .inl ⟨ls[i].1,_,rfl,e2,hni,?_⟩
  walk_at "rd"
  have hpi:=hp ls[i] (List.getElem_mem hil)
  rw [if_neg (by omega)]
  refine ⟨⟨_,e2⟩,_,e2,sizeBig (by simp; omega),some (tx ls[i].1),some (.int ls[i].2),rfl,same_upd s2 hg,?_⟩
  rw [upd_same,List.take_add_one,List.getElem?_eq_getElem hil,Option.toList_some,List.map_append,List.map_append]
  rfl
 ·rintro σ H1 ⟨u,v,rfl,s2,e2⟩
  rw [<- hl,List.take_length] at e2
  walk_at "rd"
  refine ⟨_,.inl (SqL.of e2),rfl,flat_tx _,?_⟩
  rw [show V.str (st [116,111]) = tx toT from rfl,inV_tx]
  walk_at "rd"
  rw [if_pos hto]
  exact q H1 s2
theorem row_text {r:List Nat} {W:Nat} (h:RowL r) (hl:r.length = W):textOf (tx r) (W:Int) [48,49,45] = true:=by
 simp only [textOf,st_cps,Bool.and_eq_true,decide_eq_true_eq,List.all_eq_true]
 refine ⟨by omega,fun c hc=>?_⟩
 rcases h c hc with z | z | z <;> simp [z]
theorem letter_text {r:List Nat} (h:∀ c ∈ r,c = 48 \/ c = 49):textOf (tx r) (r.length:Int) [48,49] = true:=by
 simp only [textOf,st_cps,Bool.and_eq_true,decide_eq_true_eq,List.all_eq_true]
 refine ⟨trivial,fun c hc=>?_⟩
 rcases h c hc with z | z <;> simp [z]
noncomputable def sp_check_rule (K:Frag):Sp:=fun vs H Q _=>match vs with
 | [.ref p,.str r,.str w,.str o]=>∃ ls:List Fld,Lay H p ls /\ ls.length <= 1000 /\ widthL ls <= 1000 /\ RuleOk (widthL ls) (r.cps.toList,w.cps.toList,o.cps.toList) /\ ∀ H',Same H H' -> Q .non H'
 | _=>False
theorem ok_check_rule (T:Top K mg):CalleeX P w K mg base 3 "check_rule" ["layout", "row", "word", "over"] (sp_check_rule K):=by
 refine T.f_check_rule.calX sc_check_rule (by intro vs H Q E h; unfold sp_check_rule at h; split at h <;> first | rfl | exact h.elim) (fun _ _ _ _ _ _ us hl=>match us,hl with | [_,_,_,_],_=>rfl) (fun f cdv A outer s H vs Q E hr h=>?_)
 unfold sp_check_rule at h
 split at h
 case h_2=>exact h.elim
 refine ⟨_,(pss_cons (ps_set (i:=4) sc_check_rule.nd rfl lc (pe_fn (ok_layout_width T) hr.m rfl (pa_cons (qv 0) pa_nil)))
   (pss_cons (ps_if (pt_not (qt_val (pe_fn (ok_is_row T) hr.m rfl (pa_cons (qv 1) (pa_cons (qv 4) pa_nil))))) (pss_one (ps_raise rfl raises_fn rfl T.x_Misfit.1 T.x_Misfit.2 (pa_cons (pe_fs (pj_cons (qs [110,111,32,114,111,119,32,111,102,32,108,101,116,116,101,114,115,58,32]) (pj_cons (pe_fmtA hr.gd hr.units0 (qv 1)) pj_nil))) pa_nil))) pss_nil)
   (pss_cons (ps_if (qt_cmp (notinE K rfl) (qv 2) (qe_gtup T.u_WORDS rfl)) (pss_one (ps_raise rfl raises_fn rfl T.x_BadWord.1 T.x_BadWord.2 (pa_cons (pe_fs (pj_cons (qs [110,111,32,119,111,114,100,32,111,102,32,97,32,114,117,108,101,58,32]) (pj_cons (pe_fmtA hr.gd hr.units0 (qv 2)) pj_nil))) pa_nil))) pss_nil)
   (pss_one (ps_if (pt_not (qt_val (pe_fn (ok_is_row T) hr.m rfl (pa_cons (qv 3) (pa_cons (qv 4) pa_nil))))) (pss_one (ps_raise rfl raises_fn rfl T.x_Misfit.1 T.x_Misfit.2 (pa_cons (pe_fs (pj_cons (qs [110,111,32,111,118,101,114,32,111,102,32,108,101,116,116,101,114,115,58,32]) (pj_cons (pe_fmtA hr.gd hr.units0 (qv 3)) pj_nil))) pa_nil))) pss_nil))))),?_⟩
 rename_i p r w' o
 obtain ⟨r,rfl⟩:∃ x,r = st x:=⟨_,(st_eta r).symm⟩
 obtain ⟨wd,rfl⟩:∃ x,w' = st x:=⟨_,(st_eta w').symm⟩
 obtain ⟨o,rfl⟩:∃ x,o = st x:=⟨_,(st_eta o).symm⟩
 obtain ⟨ls,hL,hn,hW,ok,q⟩:=h
 simp only [st_cps] at ok
 have hr:=ok.rowN
 have ho:=ok.overN
 walk_at "rd"
 refine ⟨ls,hL,hn,fun H1 s1=>?_⟩
 walk_at "rd"
 refine ⟨by show (st r).cps.toList.length <= 1000; simp only [st_cps]; exact Nat.le_trans (Nat.le_of_eq hr) hW,?_⟩
 rw [show V.str (st r) = tx r from rfl,row_text ok.row hr]
 walk_at "rd"
 intro W hW1
 have hin:inV (V.str (st wd)) [V.str (Str.ofString "pass"),V.str (Str.ofString "drop")] = true:=by
  rcases ok.word with z | z
  ·rw [show wd = passT from z]; decide +kernel
  ·rw [show wd = dropT from z]; decide +kernel
 refine ⟨_,.inr hW1,rfl,rfl,?_⟩
 rw [hin]
 walk_at "rd"
 refine ⟨by show (st o).cps.toList.length <= 1000; simp only [st_cps]; exact Nat.le_trans (Nat.le_of_eq ho) hW,?_⟩
 rw [show V.str (st o) = tx o from rfl,row_text ok.over ho]
 walk_at "rd"
 exact q H1 s1
noncomputable def sp_is_letter:Sp:=fun vs H Q _=>match vs with
 | [v,.int w]=>Known H v /\ Q (.bl (textOf v w [48,49])) H
 | _=>False
theorem ok_is_letter (T:Top K mg):Callee P w K mg base 2 "is_letter" ["thing", "width"] sp_is_letter:=by
 refine T.f_is_letter.cal sc_is_letter (by intro vs H Q E h; unfold sp_is_letter at h; split at h <;> first | rfl | exact h.elim) (fun _ _ _ _ _ _ us hl=>match us,hl with | [_,_],_=>rfl) (fun f cdv A outer s H vs Q E hr h=>?_)
 unfold sp_is_letter at h
 split at h
 case h_2=>exact h.elim
 refine ⟨_,(pss_one (ps_ret (pe_fn (ok_is_text_of T) hr.m rfl (pa_cons (qv 0) (pa_cons (qv 1) (pa_cons (qs [48,49]) pa_nil)))))),?_⟩
 walk_at "rd"
 exact h
noncomputable def sp_is_beginning:Sp:=fun vs H Q _=>match vs with
 | [.str b,.int n]=>b.cps.toList.length <= 1000 /\ (b.cps.toList.length:Int) <= n /\ (∀ c ∈ b.cps.toList,c = 48 \/ c = 49) /\ Q (.bl true) H
 | _=>False
theorem ok_is_beginning (T:Top K mg):Callee P w K mg base 3 "is_beginning" ["thing", "longest"] sp_is_beginning:=by
 refine T.f_is_beginning.cal sc_is_beginning (by intro vs H Q E h; unfold sp_is_beginning at h; split at h <;> first | rfl | exact h.elim) (fun _ _ _ _ _ _ us hl=>match us,hl with | [_,_],_=>rfl) (fun f cdv A outer s H vs Q E hr h=>?_)
 unfold sp_is_beginning at h
 split at h
 case h_2=>exact h.elim
 refine ⟨_,(pss_one (ps_ret (qe_and (qe_isinst .str rfl T.b_isinstance (qv 0) rfl T.b_str bb_str) (qe_and (qe_cmp op_leK (pe_callB (lenE K rfl) rfl T.b_len bb_len (pa_cons (qv 0) pa_nil)) (qv 1)) (pe_one (pe_fn (ok_is_letter T) hr.m rfl (pa_cons (qv 0) (pa_cons (pe_callB (lenE K rfl) rfl T.b_len bb_len (pa_cons (qv 0) pa_nil)) pa_nil)))))))),?_⟩
 rename_i b n
 obtain ⟨b,rfl⟩:∃ x,b = st x:=⟨_,(st_eta b).symm⟩
 obtain ⟨h1,h2,h3,q⟩:=h
 simp only [st_cps] at h1 h2 h3
 walk_at "rd"
 rw [if_pos h2]
 refine ⟨by omega,by omega,?_⟩
 walk_at "rd"
 refine ⟨h1,?_⟩
 rw [show V.str (st b) = tx b from rfl,letter_text h3]
 exact q
noncomputable def sp_check_gates (K:Frag):Sp:=fun vs H Q _=>match vs with
 | [.ref p,.ref t]=>∃ (ls:List Fld) (hs:House),Lay H p ls /\ ls.length <= 1000 /\ widthL ls <= 1000 /\ HouseAt H t hs /\ hs.1.length <= 1000 /\ (hs.1.map (·.1)).Nodup /\ (∀ x ∈ hs.1,∀ r ∈ x.2,RuleOk (widthL ls) r) /\ ∀ H',Same H H' -> Q .non H'
 | _=>False
theorem ok_check_gates (T:Top K mg):CalleeX P w K mg base 4 "check_gates" ["layout", "house"] (sp_check_gates K):=by
 refine T.f_check_gates.calX sc_check_gates (by intro vs H Q E h; unfold sp_check_gates at h; split at h <;> first | rfl | exact h.elim) (fun _ _ _ _ _ _ us hl=>match us,hl with | [_,_],_=>rfl) (fun f cdv A outer s H vs Q E hr h=>?_)
 unfold sp_check_gates at h
 split at h
 case h_2=>exact h.elim
 refine ⟨_,(pss_cons (ps_set (i:=2) sc_check_gates.nd rfl lc (pe_lst pa_nil))
   (pss_one (qs_for PassesOwn.leaving rfl (iterE K rfl (pe_ix (ixE K rfl) (qv 1) pe_int (fun _ _=>rfl))) (tupE K rfl rfl (n:=2) (pgs_cons (pg_name (i:=3) sc_check_gates.nd rfl lc) (pgs_cons (pg_name (i:=4) sc_check_gates.nd rfl lc) pgs_nil))) (pss_cons (ps_expr (pe_fnX (ok_check_new T) hr.m passes_fn rfl (pa_cons (qv 3) (pa_cons (qv 2) pa_nil))))
   (pss_cons (qs_for PassesOwn.leaving rfl (iterE K rfl (qv 4)) (tupE K rfl rfl (n:=3) (pgs_cons (pg_name (i:=5) sc_check_gates.nd rfl lc) (pgs_cons (pg_name (i:=6) sc_check_gates.nd rfl lc) (pgs_cons (pg_name (i:=7) sc_check_gates.nd rfl lc) pgs_nil)))) (pss_one (ps_expr (pe_fnX (ok_check_rule T) hr.m passes_fn rfl (pa_cons (qv 0) (pa_cons (qv 5) (pa_cons (qv 6) (pa_cons (qv 7) pa_nil))))))))
   (pss_one (ps_expr (qe_append (qv 2) (qv 3))))))))),?_⟩
 rename_i p t
 obtain ⟨ls,hs,hL,hn,hW,hH,hg,nd,hr',q⟩:=h
 walk_at "rd"
 refine ⟨Nat.zero_le _,fun g hg0=>?_⟩
 have s1:=same_new hg0 (.lst [])
 obtain ⟨ga,wa,eh,⟨gv,eg,pg⟩,_⟩:=hH
 have hgl:=pg.length
 refine ⟨_,_,.inr (SqT.of (s1 _ _ eh)),rfl,?_⟩
 walk_at "rd"
 refine .inl ⟨⟨_,SqL.of (s1 _ _ eg)⟩,?_⟩
 refine loop_list (xs:=gv) (fun i σ H'=>∃ u3 u4 u5 u6 u7,σ = [some (.ref p),some (.ref t),some (.ref g),u3,u4,u5,u6,u7] /\ Same H H' /\ H' g = some (.lst (((hs.1.take i).map (·.1)).map tx))) ⟨none,none,none,none,none,rfl,s1,upd_same⟩ (fun i σ H' _ ⟨_,_,_,_,_,_,z,_⟩=>SqL.of (z _ _ eg)) ?_ ?_
 ·rintro i x σ H1 hx ⟨u3,u4,u5,u6,u7,rfl,s2,e2⟩
  have hi:i < gv.length:=(List.getElem?_eq_some_iff.mp hx).1
  have hil:i < hs.1.length:=by omega
  obtain ⟨y,hy,t',r',ey,et,hR⟩:=paired_at pg (List.getElem?_eq_getElem hil)
  obtain rfl:x = .ref t':=by rw [hy] at hx; rw [<- Option.some.inj hx,ey]
  refine ⟨t',[_,_],rfl,SqT.of (s2 _ _ et),rfl,_,[_],rfl,_,[],rfl,rfl,?_⟩
  walk_at "rd"
  have hni:hs.1[i].1 ∉ (hs.1.take i).map (·.1):=by
   rw [List.map_take]
   have:=take_new nd (i:=i) (by simpa using hil)
   rwa [List.getElem_map] at this
  refine .inl ⟨hs.1[i].1,_,rfl,e2,hni,?_⟩
  obtain ⟨rv,er,prr⟩:=hR
  have hrl:=prr.length
  refine .inl ⟨⟨_,SqL.of (s2 _ _ er)⟩,?_⟩
  refine loop_list (xs:=rv) (fun j σ H'=>∃ v5 v6 v7,σ = [some (.ref p),some (.ref t),some (.ref g),some (tx hs.1[i].1),some (.ref r'),v5,v6,v7] /\ Same H1 H') ⟨_,_,_,rfl,Same.refl _⟩ (fun j σ H' _ ⟨_,_,_,_,z⟩=>SqL.of (z _ _ (s2 _ _ er))) ?_ ?_
  ·rintro j z σ H2 hz ⟨v5,v6,v7,rfl,s3⟩
   have hj:j < rv.length:=(List.getElem?_eq_some_iff.mp hz).1
   have hjl:j < hs.1[i].2.length:=by omega
   obtain ⟨y2,hy2,t2,ey2,et2⟩:=paired_at prr (List.getElem?_eq_getElem hjl)
   obtain rfl:z = .ref t2:=by rw [hy2] at hz; rw [<- Option.some.inj hz,ey2]
   have s23:=s2.trans s3
   refine ⟨t2,[_,_,_],rfl,SqT.of (s23 _ _ et2),rfl,_,[_,_],rfl,_,[_],rfl,_,[],rfl,rfl,?_⟩
   walk_at "rd"
   refine ⟨ls,hL.same s23,hn,hW,by simp only [st_cps]; exact hr' hs.1[i] (List.getElem_mem hil) hs.1[i].2[j] (List.getElem_mem hjl),fun H3 s4=>?_⟩
   exact ⟨_,_,_,rfl,s3.trans s4⟩
  ·rintro σ H2 ⟨v5,v6,v7,rfl,s3⟩
   have e3:=s3 _ _ e2
   walk_at "rd"
   refine ⟨⟨_,e3⟩,_,e3,sizeBig (by simp; omega),some (tx hs.1[i].1),some (.ref r'),_,_,_,rfl,same_upd (s2.trans s3) hg0,?_⟩
   rw [upd_same,List.take_add_one,List.getElem?_eq_getElem hil,Option.toList_some,List.map_append,List.map_append]
   rfl
 ·rintro σ H1 ⟨u3,u4,u5,u6,u7,rfl,s2,e2⟩
  exact q H1 s2
noncomputable def sp_check_way (K:Frag):Sp:=fun vs H Q _=>match vs with
 | [.ref p,.ref t,.str b,.str d,.ref bs]=>∃ (ls:List Fld) (hs:House) (bl:List (List Nat)) (fa fb:Nat),Lay H p ls /\ spanF ls toT 0 = some (fa,fb) /\ fb <= 1000 /\ HouseAt H t hs /\ b.cps.toList.length <= fb - fa /\ (∀ c ∈ b.cps.toList,c = 48 \/ c = 49) /\ H bs = some (.lst (bl.map tx)) /\ b.cps.toList ∉ bl /\ d.cps.toList ∈ hs.1.map (·.1) /\ Low d.cps.toList /\ d.cps.toList.length <= 1000 /\ ∀ H',Same H H' -> Q .non H'
 | _=>False
theorem ok_check_way (T:Top K mg):CalleeX P w K mg base 4 "check_way" ["layout", "house", "beginning", "door", "beginnings"] (sp_check_way K):=by
 refine T.f_check_way.calX sc_check_way (by intro vs H Q E h; unfold sp_check_way at h; split at h <;> first | rfl | exact h.elim) (fun _ _ _ _ _ _ us hl=>match us,hl with | [_,_,_,_,_],_=>rfl) (fun f cdv A outer s H vs Q E hr h=>?_)
 unfold sp_check_way at h
 split at h
 case h_2=>exact h.elim
 refine ⟨_,(pss_cons (ps_set (i:=5) sc_check_way.nd rfl lc (pe_fnX (ok_field_span T) hr.m passes_fn rfl (pa_cons (qv 0) (pa_cons (qs [116,111]) pa_nil))))
   (pss_cons (ps_if (pt_not (qt_val (pe_fn (ok_is_beginning T) hr.m rfl (pa_cons (qv 2) (pa_cons (pe_op op_subK (pe_ix (ixE K rfl) (qv 5) pe_int (fun _ _=>rfl)) (pe_ix (ixE K rfl) (qv 5) pe_int (fun _ _=>rfl))) pa_nil))))) (pss_one (ps_raise rfl raises_fn rfl T.x_Misfit.1 T.x_Misfit.2 (pa_cons (pe_fs (pj_cons (qs [110,111,32,98,101,103,105,110,110,105,110,103,32,111,102,32,116,104,101,32,102,105,101,108,100,32,39,116,111,39,58,32]) (pj_cons (pe_fmtA hr.gd hr.units0 (qv 2)) pj_nil))) pa_nil))) pss_nil)
   (pss_cons (ps_expr (pe_fnX (ok_check_new T) hr.m passes_fn rfl (pa_cons (qv 2) (pa_cons (qv 4) pa_nil))))
   (pss_one (ps_expr (pe_fnX (ok_gate_rules T) hr.m passes_fn rfl (pa_cons (qv 1) (pa_cons (qv 3) pa_nil)))))))),?_⟩
 rename_i p t b d bs
 obtain ⟨b,rfl⟩:∃ x,b = st x:=⟨_,(st_eta b).symm⟩
 obtain ⟨d,rfl⟩:∃ x,d = st x:=⟨_,(st_eta d).symm⟩
 obtain ⟨ls,hs,bl,fa,fb,hL,esp,hfb,hH,hbl,hb2,ebs,hbn,hdm,hdl,hdn,q⟩:=h
 simp only [st_cps] at hbl hb2 hbn hdm hdl hdn
 have hab:=spanF_le ls toT 0 fa fb esp
 walk_at "rd"
 refine ⟨ls,hL,by decide,by decide,fun a1 b1 e1 t1 H1 ht1 s1 et1=>?_,fun e1=>?_⟩
 ·have e1':spanF ls toT 0 = some (a1,b1):=e1
  rw [esp] at e1'
  cases e1'
  walk_at "rd"
  refine ⟨_,_,.inr (SqT.of et1),rfl,_,_,.inr (SqT.of et1),rfl,?_⟩
  walk_at "rd"
  refine ⟨by simp only [st_cps]; omega,by simp only [st_cps]; omega,by simp only [st_cps]; exact hb2,?_⟩
  walk_at "rd"
  refine .inl ⟨b,bl,rfl,s1 _ _ ebs,hbn,?_⟩
  walk_at "rd"
  refine ⟨hs,hH.same s1,fun c hc=>?_,by simp only [st_cps]; exact hdn,fun rs ers r H2 s2 hR=>q H2 (s1.trans s2),fun en=>?_⟩
  ·have:=hdl c (by simpa using hc)
   omega
  ·simp only [st_cps] at en
   exfalso
   unfold gateOf at en
   obtain ⟨x,hx,ex⟩:=List.mem_map.mp hdm
   have:=List.find?_eq_none.mp (Option.map_eq_none_iff.mp en) x hx
   simp [ex] at this
 ·have e1':spanF ls toT 0 = none:=e1
  rw [esp] at e1'
  cases e1'
noncomputable def sp_check_ways (K:Frag):Sp:=fun vs H Q _=>match vs with
 | [.ref p,.ref t]=>∃ (ls:List Fld) (hs:House) (fa fb:Nat),Lay H p ls /\ spanF ls toT 0 = some (fa,fb) /\ fb <= 1000 /\ HouseAt H t hs /\ hs.2.length <= 1000 /\ WaysOk (fb - fa) (hs.1.map (·.1)) hs.2 /\ (∀ x ∈ hs.1,Low x.1 /\ x.1.length <= 1000) /\ ∀ H',Same H H' -> Q .non H'
 | _=>False
theorem ok_check_ways (T:Top K mg):CalleeX P w K mg base 5 "check_ways" ["layout", "house"] (sp_check_ways K):=by
 refine T.f_check_ways.calX sc_check_ways (by intro vs H Q E h; unfold sp_check_ways at h; split at h <;> first | rfl | exact h.elim) (fun _ _ _ _ _ _ us hl=>match us,hl with | [_,_],_=>rfl) (fun f cdv A outer s H vs Q E hr h=>?_)
 unfold sp_check_ways at h
 split at h
 case h_2=>exact h.elim
 refine ⟨_,(pss_cons (ps_set (i:=2) sc_check_ways.nd rfl lc (pe_lst pa_nil))
   (pss_one (qs_for PassesOwn.leaving rfl (iterE K rfl (pe_ix (ixE K rfl) (qv 1) pe_int (fun _ _=>rfl))) (tupE K rfl rfl (n:=2) (pgs_cons (pg_name (i:=3) sc_check_ways.nd rfl lc) (pgs_cons (pg_name (i:=4) sc_check_ways.nd rfl lc) pgs_nil))) (pss_cons (ps_expr (pe_fnX (ok_check_way T) hr.m passes_fn rfl (pa_cons (qv 0) (pa_cons (qv 1) (pa_cons (qv 3) (pa_cons (qv 4) (pa_cons (qv 2) pa_nil)))))))
   (pss_one (ps_expr (qe_append (qv 2) (qv 3)))))))),?_⟩
 rename_i p t
 obtain ⟨ls,hs,fa,fb,hL,esp,hfb,hH,hg,wok,hlo,q⟩:=h
 walk_at "rd"
 refine ⟨Nat.zero_le _,fun g hg0=>?_⟩
 have s1:=same_new hg0 (.lst [])
 obtain ⟨ga,wa,eh,hG,⟨wv,ew,pw⟩⟩:=id hH
 have hwl:=pw.length
 refine ⟨_,_,.inr (SqT.of (s1 _ _ eh)),rfl,?_⟩
 walk_at "rd"
 refine .inl ⟨⟨_,SqL.of (s1 _ _ ew)⟩,?_⟩
 refine loop_list (xs:=wv) (fun i σ H'=>∃ u3 u4,σ = [some (.ref p),some (.ref t),some (.ref g),u3,u4] /\ Same H H' /\ H' g = some (.lst (((hs.2.take i).map (·.1)).map tx))) ⟨none,none,rfl,s1,upd_same⟩ (fun i σ H' _ ⟨_,_,_,z,_⟩=>SqL.of (z _ _ ew)) ?_ ?_
 ·rintro i x σ H1 hx ⟨u3,u4,rfl,s2,e2⟩
  have hi:i < wv.length:=(List.getElem?_eq_some_iff.mp hx).1
  have hil:i < hs.2.length:=by omega
  obtain ⟨y,hy,t',ey,et⟩:=paired_at pw (List.getElem?_eq_getElem hil)
  obtain rfl:x = .ref t':=by rw [hy] at hx; rw [<- Option.some.inj hx,ey]
  refine ⟨t',[_,_],rfl,SqT.of (s2 _ _ et),rfl,_,[_],rfl,_,[],rfl,rfl,?_⟩
  walk_at "rd"
  have hmi:=List.getElem_mem hil
  have hni:hs.2[i].1 ∉ (hs.2.take i).map (·.1):=by
   rw [List.map_take]
   have:=take_new wok.nd (i:=i) (by simpa using hil)
   rwa [List.getElem_map] at this
  have hdo:=wok.door _ hmi
  obtain ⟨xg,hxg,exg⟩:=List.mem_map.mp hdo
  obtain ⟨lo1,lo2⟩:=hlo xg hxg
  rw [exg] at lo1 lo2
  refine ⟨ls,hs,_,fa,fb,hL.same s2,esp,hfb,hH.same s2,by simp only [st_cps]; exact wok.n _ hmi,by simp only [st_cps]; exact wok.bits _ hmi,e2,by simp only [st_cps]; exact hni,by simp only [st_cps]; exact hdo,by simp only [st_cps]; exact lo1,by simp only [st_cps]; exact lo2,fun H2 s3=>?_⟩
  have e3:=s3 _ _ e2
  walk_at "rd"
  refine ⟨⟨_,e3⟩,_,e3,sizeBig (by simp; omega),some (tx hs.2[i].1),some (tx hs.2[i].2),rfl,same_upd (s2.trans s3) hg0,?_⟩
  rw [upd_same,List.take_add_one,List.getElem?_eq_getElem hil,Option.toList_some,List.map_append,List.map_append]
  rfl
 ·rintro σ H1 ⟨u3,u4,rfl,s2,e2⟩
  exact q H1 s2
noncomputable abbrev Net:=List Fld × List Named × List Line
def NetAt (H:Hp) (t:Addr) (n:Net):Prop:=∃ a b c,H t = some (.tup [.ref a,.ref b,.ref c]) /\ Lay H a n.1 /\ Houses H b n.2.1 /\ Lines H c n.2.2
theorem NetAt.same {H H':Hp} {t:Addr} {n:Net} (h:NetAt H t n) (s:Same H H'):NetAt H' t n:=by
 obtain ⟨a,b,c,e,h1,h2,h3⟩:=h
 exact ⟨a,b,c,s _ _ e,h1.same s,h2.same s,h3.same s⟩
structure HouseOk5 (W S:Nat) (hs:House):Prop where
 nd:(hs.1.map (·.1)).Nodup
 g3:hs.1.length <= 8
 rules:∀ x ∈ hs.1,∀ r ∈ x.2,RuleOk W r
 many:∀ x ∈ hs.1,x.2.length <= 300
 ways:WaysOk S (hs.1.map (·.1)) hs.2
 w8:hs.2.length <= 8
structure NetOk (n:Net):Prop where
 lay:LayOk n.1
 nd:(n.2.1.map (·.1)).Nodup
 low:∀ x ∈ n.2.1,Low x.1 /\ x.1.length <= 1000
 house:∀ x ∈ n.2.1,HouseOk5 (widthL n.1) ((spanG n.1).2 - (spanG n.1).1) x.2
 door:∀ x ∈ n.2.1,∀ g ∈ x.2.1,Low g.1 /\ g.1.length <= 1000
 h100:n.2.1.length <= 100
 ends:(endsOf n.2.2).Nodup
 spots:∀ s ∈ endsOf n.2.2,s ∈ spotsOf n.2.1
 l500:n.2.2.length <= 500
noncomputable def sp_check_houses (K:Frag):Sp:=fun vs H Q _=>match vs with
 | [.ref p,.ref t]=>∃ (ls:List Fld) (hs:List Named),Lay H p ls /\ LayOk ls /\ Houses H t hs /\ hs.length <= 100 /\ (hs.map (·.1)).Nodup /\ (∀ x ∈ hs,HouseOk5 (widthL ls) ((spanG ls).2 - (spanG ls).1) x.2) /\ (∀ x ∈ hs,∀ g ∈ x.2.1,Low g.1 /\ g.1.length <= 1000) /\ ∀ H',Same H H' -> Q .non H'
 | _=>False
theorem ok_check_houses (T:Top K mg):CalleeX P w K mg base 6 "check_houses" ["layout", "houses"] (sp_check_houses K):=by
 refine T.f_check_houses.calX sc_check_houses (by intro vs H Q E h; unfold sp_check_houses at h; split at h <;> first | rfl | exact h.elim) (fun _ _ _ _ _ _ us hl=>match us,hl with | [_,_],_=>rfl) (fun f cdv A outer s H vs Q E hr h=>?_)
 unfold sp_check_houses at h
 split at h
 case h_2=>exact h.elim
 refine ⟨_,(pss_cons (ps_set (i:=2) sc_check_houses.nd rfl lc (pe_lst pa_nil))
   (pss_one (qs_for PassesOwn.leaving rfl (iterE K rfl (qv 1)) (tupE K rfl rfl (n:=2) (pgs_cons (pg_name (i:=3) sc_check_houses.nd rfl lc) (pgs_cons (pg_name (i:=4) sc_check_houses.nd rfl lc) pgs_nil))) (pss_cons (ps_expr (pe_fnX (ok_check_new T) hr.m passes_fn rfl (pa_cons (qv 3) (pa_cons (qv 2) pa_nil))))
   (pss_cons (ps_expr (pe_fnX (ok_check_gates T) hr.m passes_fn rfl (pa_cons (qv 0) (pa_cons (qv 4) pa_nil))))
   (pss_cons (ps_expr (pe_fnX (ok_check_ways T) hr.m passes_fn rfl (pa_cons (qv 0) (pa_cons (qv 4) pa_nil))))
   (pss_one (ps_expr (qe_append (qv 2) (qv 3)))))))))),?_⟩
 rename_i p t
 obtain ⟨ls,hs,hL,ok,⟨hv,e0,pr⟩,hn,nd,hok,hlo,q⟩:=h
 have hl:=pr.length
 have w2:=ok.w2
 have l3:=ok.len
 obtain ⟨fa,fb,esp,hab,hb⟩:=ok.to
 have eG:spanG ls = (fa,fb):=by unfold spanG; rw [esp]; rfl
 rw [eG] at hok
 walk_at "rd"
 refine ⟨Nat.zero_le _,fun g hg0=>?_⟩
 have s1:=same_new hg0 (.lst [])
 refine .inl ⟨⟨_,SqL.of (s1 _ _ e0)⟩,?_⟩
 refine loop_list (xs:=hv) (fun i σ H'=>∃ u3 u4,σ = [some (.ref p),some (.ref t),some (.ref g),u3,u4] /\ Same H H' /\ H' g = some (.lst (((hs.take i).map (·.1)).map tx))) ⟨none,none,rfl,s1,upd_same⟩ (fun i σ H' _ ⟨_,_,_,z,_⟩=>SqL.of (z _ _ e0)) ?_ ?_
 ·rintro i x σ H1 hx ⟨u3,u4,rfl,s2,e2⟩
  have hi:i < hv.length:=(List.getElem?_eq_some_iff.mp hx).1
  have hil:i < hs.length:=by omega
  obtain ⟨y,hy,t',q',ey,et,hH⟩:=paired_at pr (List.getElem?_eq_getElem hil)
  obtain rfl:x = .ref t':=by rw [hy] at hx; rw [<- Option.some.inj hx,ey]
  refine ⟨t',[_,_],rfl,SqT.of (s2 _ _ et),rfl,_,[_],rfl,_,[],rfl,rfl,?_⟩
  walk_at "rd"
  have hmi:=List.getElem_mem hil
  have hoi:=hok _ hmi
  have hni:hs[i].1 ∉ (hs.take i).map (·.1):=by
   rw [List.map_take]
   have:=take_new nd (i:=i) (by simpa using hil)
   rwa [List.getElem_map] at this
  refine .inl ⟨hs[i].1,_,rfl,e2,hni,?_⟩
  walk_at "rd"
  have g3:=hoi.g3
  have w8:=hoi.w8
  refine ⟨ls,hs[i].2,hL.same s2,by omega,by omega,hH.same s2,by omega,hoi.nd,hoi.rules,fun H2 s3=>?_⟩
  walk_at "rd"
  have s23:=s2.trans s3
  refine ⟨ls,hs[i].2,fa,fb,hL.same s23,esp,by omega,hH.same s23,by omega,hoi.ways,hlo _ hmi,fun H3 s4=>?_⟩
  have e3:=s4 _ _ (s3 _ _ e2)
  walk_at "rd"
  refine ⟨⟨_,e3⟩,_,e3,sizeBig (by simp; omega),some (tx hs[i].1),some (.ref q'),rfl,same_upd (s23.trans s4) hg0,?_⟩
  rw [upd_same,List.take_add_one,List.getElem?_eq_getElem hil,Option.toList_some,List.map_append,List.map_append]
  rfl
 ·rintro σ H1 ⟨u3,u4,rfl,s2,e2⟩
  exact q H1 s2
noncomputable def houseOf (hs:List Named) (n:List Nat):Option House:=(hs.find? fun x=>decide (x.1 = n)).map (·.2)
noncomputable def sp_house_named (K:Frag):Sp:=fun vs H Q E=>match vs with
 | [.ref t,.str n]=>∃ N:Net,NetAt H t N /\ (∀ c ∈ n.cps.toList,c < 16 ^ 8) /\ n.cps.toList.length <= 1000 /\
   (∀ h,houseOf N.2.1 n.cps.toList = some h -> ∀ q H',Same H H' -> HouseAt H' q h -> Q (.ref q) H') /\
   (houseOf N.2.1 n.cps.toList = none -> ∀ H',Same H H' -> E (.ref (xA K "NoHouse")) none H')
 | _=>False
theorem ok_house_named (T:Top K mg):CalleeX P w K mg base 1 "house_named" ["net", "name"] (sp_house_named K):=by
 refine T.f_house_named.calX sc_house_named (by intro vs H Q E h; unfold sp_house_named at h; split at h <;> first | rfl | exact h.elim) (fun _ _ _ _ _ _ us hl=>match us,hl with | [_,_],_=>rfl) (fun f cdv A outer s H vs Q E hr h=>?_)
 unfold sp_house_named at h
 split at h
 case h_2=>exact h.elim
 refine ⟨_,(pss_cons (qs_for PassesOwn.leaving rfl (iterE K rfl (pe_ix (ixE K rfl) (qv 0) pe_int (fun _ _=>rfl))) (tupE K rfl rfl (n:=2) (pgs_cons (pg_name (i:=2) sc_house_named.nd rfl lc) (pgs_cons (pg_name (i:=3) sc_house_named.nd rfl lc) pgs_nil))) (pss_one (ps_if (qt_cmp op_eqK (qv 2) (qv 1)) (pss_one (ps_ret (qv 3))) pss_nil)))
   (pss_one (ps_raise rfl raises_fn rfl T.x_NoHouse.1 T.x_NoHouse.2 (pa_cons (pe_fs (pj_cons (qs [110,111,32,104,111,117,115,101,32]) (pj_cons (pe_fmtR (qv 1)) pj_nil))) pa_nil)))),?_⟩
 rename_i p s
 obtain ⟨n,rfl⟩:∃ x,s = st x:=⟨_,(st_eta s).symm⟩
 obtain ⟨N,⟨a,b,c,e,_,⟨vs,e0,pr⟩,_⟩,hc,hn,q1,q2⟩:=h
 simp only [st_cps] at q1 q2 hc hn
 have hl:=pr.length
 walk_at "rd"
 refine ⟨_,_,.inr (SqT.of e),rfl,?_⟩
 walk_at "rd"
 refine .inl ⟨⟨_,SqL.of e0⟩,?_⟩
 refine loop_list (xs:=vs) (fun i σ H'=>∃ u v,σ = [some (.ref p),some (.str (st n)),u,v] /\ Same H H' /\ ∀ x ∈ N.2.1.take i,¬ x.1 = n) ⟨none,none,rfl,Same.refl _,fun x hx=>by simp at hx⟩ (fun i σ H' _ ⟨_,_,_,z,_⟩=>SqL.of (z _ _ e0)) ?_ ?_
 ·rintro i x σ H1 hx ⟨u,v,rfl,s1,h1⟩
  have hi:i < vs.length:=(List.getElem?_eq_some_iff.mp hx).1
  have hil:i < N.2.1.length:=by omega
  obtain ⟨y,hy,t,r,ey,et,hr⟩:=paired_at pr (List.getElem?_eq_getElem hil)
  obtain rfl:x = .ref t:=by rw [hy] at hx; rw [<- Option.some.inj hx,ey]
  refine ⟨t,[_,_],rfl,SqT.of (s1 _ _ et),rfl,_,[_],rfl,_,[],rfl,rfl,?_⟩
  walk_at "rd"
  refine ite2 (fun g=>?_) fun g=>⟨some (tx N.2.1[i].1),some (.ref r),rfl,s1,fun y hy=>?_⟩
  ·refine q1 N.2.1[i].2 ?_ r H1 s1 (hr.same s1)
   unfold houseOf
   rw [show N.2.1.find? (fun g=>decide (g.1 = n)) = some N.2.1[i] from List.find?_eq_some_iff_append.mpr ⟨by simpa using g,N.2.1.take i,N.2.1.drop (i + 1),by simp,fun y hy=>by simpa using h1 y hy⟩]
   rfl
  ·rw [List.take_add_one,List.getElem?_eq_getElem hil] at hy
   rcases List.mem_append.mp hy with hy | hy
   ·exact h1 y hy
   ·have e:y = N.2.1[i]:=by simpa using hy
    rw [e]
    exact g
 ·rintro σ H1 ⟨u,v,rfl,s1,h1⟩
  walk_at "rd"
  have e:houseOf N.2.1 n = none:=by
   unfold houseOf
   rw [List.find?_eq_none.mpr fun y hy=>by simpa using h1 y (by rw [<- hl,List.take_length]; exact hy)]
   rfl
  have hz:(st n).length = n.length:=st_len n
  refine ⟨by rw [st_len]; exact Nat.le_of_lt (sizeBig (by decide)),hc,by omega,fun z hzz=>⟨?_,fun _=>⟨by decide,q2 e H1 s1⟩⟩⟩
  rw [st_len]
  exact Nat.le_of_lt (sizeBig (by simp only [List.length_cons,List.length_nil]; omega))
noncomputable def sp_check_spot (K:Frag):Sp:=fun vs H Q E=>match vs with
 | [.ref t,.str n,.str d]=>∃ N:Net,NetAt H t N /\ (∀ c ∈ n.cps.toList,c < 16 ^ 8) /\ n.cps.toList.length <= 1000 /\ (∀ c ∈ d.cps.toList,c < 16 ^ 8) /\ d.cps.toList.length <= 1000 /\
   (∀ h,houseOf N.2.1 n.cps.toList = some h -> (∀ rs,gateOf h.1 d.cps.toList = some rs -> ∀ H',Same H H' -> Q .non H') /\ (gateOf h.1 d.cps.toList = none -> ∀ H',Same H H' -> E (.ref (xA K "NoDoor")) none H')) /\
   (houseOf N.2.1 n.cps.toList = none -> ∀ H',Same H H' -> E (.ref (xA K "NoHouse")) none H')
 | _=>False
theorem ok_check_spot (T:Top K mg):CalleeX P w K mg base 2 "check_spot" ["net", "house", "door"] (sp_check_spot K):=by
 refine T.f_check_spot.calX sc_check_spot (by intro vs H Q E h; unfold sp_check_spot at h; split at h <;> first | rfl | exact h.elim) (fun _ _ _ _ _ _ us hl=>match us,hl with | [_,_,_],_=>rfl) (fun f cdv A outer s H vs Q E hr h=>?_)
 unfold sp_check_spot at h
 split at h
 case h_2=>exact h.elim
 refine ⟨_,(pss_one (ps_expr (pe_fnX (ok_gate_rules T) hr.m passes_fn rfl (pa_cons (pe_fnX (ok_house_named T) hr.m passes_fn rfl (pa_cons (qv 0) (pa_cons (qv 1) pa_nil))) (pa_cons (qv 2) pa_nil))))),?_⟩
 rename_i t n d
 obtain ⟨N,hN,h1,h2,h3,h4,q1,q2⟩:=h
 walk_at "rd"
 refine ⟨N,hN,h1,h2,fun h eh q H1 s1 hH=>?_,q2⟩
 obtain ⟨q3,q4⟩:=q1 h eh
 walk_at "rd"
 exact ⟨h,hH,h3,h4,fun rs ers p H2 s2 _=>q3 rs ers H2 (s1.trans s2),fun en H2 s2=>q4 en H2 (s1.trans s2)⟩
theorem spot_in {hs:List Named} (nd:(hs.map (·.1)).Nodup) {x:Way} (h:x ∈ spotsOf hs):∃ h' rs,houseOf hs x.1 = some h' /\ gateOf h'.1 x.2 = some rs:=by
 unfold spotsOf at h
 obtain ⟨y,hy,hx⟩:=List.mem_flatMap.mp h
 obtain ⟨g,hg,rfl⟩:=List.mem_map.mp hx
 obtain ⟨i,hi,rfl⟩:=List.getElem_of_mem hy
 refine ⟨hs[i].2,?_⟩
 have e1:houseOf hs hs[i].1 = some hs[i].2:=by
  unfold houseOf
  rw [show hs.find? (fun g=>decide (g.1 = hs[i].1)) = some hs[i] from List.find?_eq_some_iff_append.mpr ⟨by simp,hs.take i,hs.drop (i + 1),by simp,fun z hz=>?_⟩]
  ·rfl
  ·obtain ⟨j,hj,rfl⟩:=List.mem_take_iff_getElem.mp hz
   have:=List.pairwise_iff_getElem.mp nd j i (by simp; omega) (by simp; omega) (by omega)
   rw [List.getElem_map,List.getElem_map] at this
   simpa using this
 cases e:gateOf hs[i].2.1 g.1 with
 | some rs=>exact ⟨rs,e1,rfl⟩
 | none=>
  exfalso
  unfold gateOf at e
  have:=List.find?_eq_none.mp (Option.map_eq_none_iff.mp e) g hg
  simp at this
theorem ends_snoc (ls:List Line) (i:Nat) (h:i < ls.length):endsOf (ls.take (i + 1)) = endsOf (ls.take i) ++ [ls[i].1,ls[i].2]:=by
 unfold endsOf
 rw [List.take_add_one,List.getElem?_eq_getElem h,Option.toList_some,List.flatMap_append]
 simp
theorem ends_len (ls:List Line):(endsOf ls).length = 2 * ls.length:=by
 unfold endsOf
 induction ls with
 | nil=>rfl
 | cons x ls ih=>rw [List.flatMap_cons,List.length_append,ih]; simp; omega
theorem ends_all {ls:List Line} {i:Nat} (h:i < ls.length):endsOf ls = endsOf (ls.take i) ++ ([ls[i].1,ls[i].2] ++ endsOf (ls.drop (i + 1))):=by
 conv=>lhs; rw [<- List.take_append_drop (i + 1) ls]
 rw [show endsOf (ls.take (i + 1) ++ ls.drop (i + 1)) = endsOf (ls.take (i + 1)) ++ endsOf (ls.drop (i + 1)) by unfold endsOf; rw [List.flatMap_append],ends_snoc ls i h,List.append_assoc]
noncomputable def sp_check_lines (K:Frag):Sp:=fun vs H Q _=>match vs with
 | [.ref t]=>∃ N:Net,NetAt H t N /\ NetOk N /\ ∀ H',Same H H' -> Q .non H'
 | _=>False
theorem ok_check_lines (T:Top K mg):CalleeX P w K mg base 3 "check_lines" ["net"] (sp_check_lines K):=by
 refine T.f_check_lines.calX sc_check_lines (by intro vs H Q E h; unfold sp_check_lines at h; split at h <;> first | rfl | exact h.elim) (fun _ _ _ _ _ _ us hl=>match us,hl with | [_],_=>rfl) (fun f cdv A outer s H vs Q E hr h=>?_)
 unfold sp_check_lines at h
 split at h
 case h_2=>exact h.elim
 refine ⟨_,(pss_cons (ps_set (i:=1) sc_check_lines.nd rfl lc (pe_lst pa_nil))
   (pss_one (qs_for PassesOwn.leaving rfl (iterE K rfl (pe_ix (ixE K rfl) (qv 0) pe_int (fun _ _=>rfl))) (pg_name (i:=2) sc_check_lines.nd rfl lc) (pss_one (qs_for PassesOwn.leaving rfl (iterE K rfl (qv 2)) (pg_name (i:=3) sc_check_lines.nd rfl lc) (pss_cons (ps_expr (pe_fnX (ok_check_spot T) hr.m passes_fn rfl (pa_cons (qv 0) (pa_cons (pe_ix (ixE K rfl) (qv 3) pe_int (fun _ _=>rfl)) (pa_cons (pe_ix (ixE K rfl) (qv 3) pe_int (fun _ _=>rfl)) pa_nil)))))
   (pss_cons (ps_expr (pe_fnX (ok_check_new T) hr.m passes_fn rfl (pa_cons (qv 3) (pa_cons (qv 1) pa_nil))))
   (pss_one (ps_expr (qe_append (qv 1) (qv 3))))))))))),?_⟩
 rename_i t
 obtain ⟨N,hN,ok,q⟩:=h
 obtain ⟨a,b,c,e,hL,hH,⟨cv,ec,pc⟩⟩:=id hN
 have hcl:=pc.length
 have h500:=ok.l500
 walk_at "rd"
 refine ⟨Nat.zero_le _,fun g hg0=>?_⟩
 have s1:=same_new hg0 (.lst [])
 refine ⟨_,_,.inr (SqT.of (s1 _ _ e)),rfl,?_⟩
 walk_at "rd"
 refine .inl ⟨⟨_,SqL.of (s1 _ _ ec)⟩,?_⟩
 refine loop_list (xs:=cv) (fun i σ H'=>∃ u2 u3 tv,σ = [some (.ref t),some (.ref g),u2,u3] /\ Same H H' /\ H' g = some (.lst tv) /\ Paired (WayAt H') (endsOf (N.2.2.take i)) tv) ⟨none,none,[],rfl,s1,upd_same,.nil⟩ (fun i σ H' _ ⟨_,_,_,_,z,_⟩=>SqL.of (z _ _ ec)) ?_ ?_
 ·rintro i x σ H1 hx ⟨u2,u3,tv,rfl,s2,e2,p2⟩
  have hi:i < cv.length:=(List.getElem?_eq_some_iff.mp hx).1
  have hil:i < N.2.2.length:=by omega
  obtain ⟨y,hy,t',v1,v2,ey,et,w1,w2⟩:=paired_at pc (List.getElem?_eq_getElem hil)
  obtain rfl:x = .ref t':=by rw [hy] at hx; rw [<- Option.some.inj hx,ey]
  have ea:=ends_all hil
  have end':=ok.ends
  have hin:∀ z ∈ [N.2.2[i].1,N.2.2[i].2],z ∈ spotsOf N.2.1:=fun z hz=>ok.spots z (by rw [ea]; exact List.mem_append_right _ (List.mem_append_left _ hz))
  rw [ea,<- List.append_assoc] at end'
  have end2:=(List.nodup_append.mp end').1
  have el:=ends_len (N.2.2.take i)
  rw [List.length_take] at el
  walk_at "rd"
  refine .inr ⟨⟨_,SqT.of (s2 _ _ et)⟩,?_⟩
  have wl:Paired (WayAt H) [N.2.2[i].1,N.2.2[i].2] [v1,v2]:=.cons w1 (.cons w2 .nil)
  refine loop_tup (xs:=[v1,v2]) (fun j σ H'=>∃ u3 tv,σ = [some (.ref t),some (.ref g),some (.ref t'),u3] /\ Same H H' /\ H' g = some (.lst tv) /\ Paired (WayAt H') (endsOf (N.2.2.take i) ++ [N.2.2[i].1,N.2.2[i].2].take j) tv) ⟨_,tv,rfl,s2,e2,by simpa using p2⟩ (fun j σ H' _ ⟨_,_,_,z,_⟩=>SqT.of (z _ _ et)) ?_ ?_
  ·rintro j v σ H2 hv ⟨u3,tv2,rfl,s3,e3,p3⟩
   have hj2:j < 2:=(List.getElem?_eq_some_iff.mp hv).1
   have hjl:j < [N.2.2[i].1,N.2.2[i].2].length:=hj2
   obtain ⟨y3,hy3,ta,eya,eta⟩:=paired_at wl (List.getElem?_eq_getElem hjl)
   obtain rfl:v = .ref ta:=by rw [hy3] at hv; rw [<- Option.some.inj hv,eya]
   have hsp:=hin _ (List.getElem_mem hjl)
   have hfresh:[N.2.2[i].1,N.2.2[i].2][j] ∉ endsOf (N.2.2.take i) ++ [N.2.2[i].1,N.2.2[i].2].take j:=by
    have hk:(endsOf (N.2.2.take i)).length + j < (endsOf (N.2.2.take i) ++ [N.2.2[i].1,N.2.2[i].2]).length:=by rw [List.length_append]; exact Nat.add_lt_add_left hjl _
    have:=take_new end2 hk
    rw [List.getElem_append_right (by omega)] at this
    simp only [Nat.add_sub_cancel_left,List.take_append,List.take_of_length_le (Nat.le_add_right _ j)] at this
    exact this
   have etk:[N.2.2[i].1,N.2.2[i].2].take (j + 1) = [N.2.2[i].1,N.2.2[i].2].take j ++ [[N.2.2[i].1,N.2.2[i].2][j]]:=by rw [List.take_add_one,List.getElem?_eq_getElem hjl]; rfl
   have l5:([N.2.2[i].1,N.2.2[i].2].take j).length <= 2:=by rw [List.length_take]; exact Nat.min_le_right _ _
   rw [etk]
   generalize [N.2.2[i].1,N.2.2[i].2][j] = z at hsp hfresh eta ⊢
   obtain ⟨h',rs,hh1,hh2⟩:=spot_in ok.nd hsp
   have lowz:Low z.1 /\ z.1.length <= 1000 /\ Low z.2 /\ z.2.length <= 1000:=by
    unfold spotsOf at hsp
    obtain ⟨yy,hyy,hxx⟩:=List.mem_flatMap.mp hsp
    obtain ⟨gg,hgg,rfl⟩:=List.mem_map.mp hxx
    exact ⟨(ok.low yy hyy).1,(ok.low yy hyy).2,(ok.door yy hyy gg hgg).1,(ok.door yy hyy gg hgg).2⟩
   obtain ⟨lz1,lz2,lz3,lz4⟩:=lowz
   walk_at "rd"
   refine ⟨_,_,.inr (SqT.of (s3 _ _ eta)),rfl,_,_,.inr (SqT.of (s3 _ _ eta)),rfl,?_⟩
   refine ⟨N,hN.same s3,fun c hc=>?_,by simp only [st_cps]; exact lz2,fun c hc=>?_,by simp only [st_cps]; exact lz4,fun h2 eh2=>⟨fun rs2 _ H3 s4=>?_,fun en=>?_⟩,fun en=>?_⟩
   ·have:=lz1 c (by simpa using hc)
    omega
   ·have:=lz3 c (by simpa using hc)
    omega
   ·walk_at "rd"
    have e4:=s4 _ _ e3
    have p4:=ways_keep (fun t us q=>s4 _ _ q) p3
    refine .inr ⟨z,_,_,⟨ta,rfl,s4 _ _ (s3 _ _ eta)⟩,e4,p4,hfresh,?_⟩
    walk_at "rd"
    have l4:=p4.length
    rw [List.length_append] at l4
    refine ⟨⟨_,e4⟩,_,e4,sizeBig ?_,_,_,rfl,same_upd (s3.trans s4) hg0,upd_same,?_⟩
    ·omega
    ·rw [<- List.append_assoc]
     exact paired_snoc (ways_keep (keep_lst e4) p4) ⟨ta,rfl,keep_lst e4 _ _ (s4 _ _ (s3 _ _ eta))⟩
   ·simp only [st_cps] at eh2 en
    rw [hh1] at eh2
    cases eh2
    rw [hh2] at en
    cases en
   ·simp only [st_cps] at en
    rw [hh1] at en
    cases en
  ·rintro σ H2 ⟨u3,tv2,rfl,s3,e3,p3⟩
   refine ⟨_,_,tv2,rfl,s3,e3,?_⟩
   rw [ends_snoc _ i hil]
   simpa using p3
 ·rintro σ H1 ⟨u2,u3,tv,rfl,s2,e2,p2⟩
  exact q H1 s2
noncomputable def sp_net_checked (K:Frag):Sp:=fun vs H Q _=>match vs with
 | [.ref t]=>∃ N:Net,NetAt H t N /\ NetOk N /\ ∀ H',Same H H' -> Q (.bl true) H'
 | _=>False
theorem span_mem':∀ (ls:List Fld) (n:List Nat) (a x y:Nat),spanF ls n a = some (x,y) -> n ∈ ls.map (·.1)
 | [],_,_,_,_,h=>by cases h
 | (f,z) :: l,n,a,x,y,h=>by
  rw [spanF] at h
  split at h
  ·rename_i e
   rw [List.map_cons,<- e]
   exact List.mem_cons_self
  ·exact List.mem_cons_of_mem _ (span_mem' l n _ x y h)
theorem ok_net_checked (T:Top K mg):CalleeX P w K mg base 7 "net_checked" ["net"] (sp_net_checked K):=by
 refine T.f_net_checked.calX sc_net_checked (by intro vs H Q E h; unfold sp_net_checked at h; split at h <;> first | rfl | exact h.elim) (fun _ _ _ _ _ _ us hl=>match us,hl with | [_],_=>rfl) (fun f cdv A outer s H vs Q E hr h=>?_)
 unfold sp_net_checked at h
 split at h
 case h_2=>exact h.elim
 refine ⟨_,(pss_cons (ps_expr (pe_fnX (ok_check_layout T) hr.m passes_fn rfl (pa_cons (pe_ix (ixE K rfl) (qv 0) pe_int (fun _ _=>rfl)) pa_nil)))
   (pss_cons (ps_expr (pe_fnX (ok_check_houses T) hr.m passes_fn rfl (pa_cons (pe_ix (ixE K rfl) (qv 0) pe_int (fun _ _=>rfl)) (pa_cons (pe_ix (ixE K rfl) (qv 0) pe_int (fun _ _=>rfl)) pa_nil))))
   (pss_cons (ps_expr (pe_fnX (ok_check_lines T) hr.m passes_fn rfl (pa_cons (qv 0) pa_nil)))
   (pss_one (ps_ret pe_bl))))),?_⟩
 rename_i t
 obtain ⟨N,hN,ok,q⟩:=h
 have l3:=ok.lay.len
 obtain ⟨fa,fb,esp,_,_⟩:=ok.lay.to
 obtain ⟨a,b,c,e,hL,hH,hC⟩:=id hN
 walk_at "rd"
 refine ⟨_,_,.inr (SqT.of e),rfl,?_⟩
 walk_at "rd"
 refine ⟨N.1,hL,by omega,ok.lay.nd,ok.lay.pos,span_mem' _ _ _ _ _ esp,fun H1 s1=>?_⟩
 walk_at "rd"
 refine ⟨_,_,.inr (SqT.of (s1 _ _ e)),rfl,_,_,.inr (SqT.of (s1 _ _ e)),rfl,?_⟩
 walk_at "rd"
 refine ⟨N.1,N.2.1,hL.same s1,ok.lay,hH.same s1,ok.h100,ok.nd,ok.house,ok.door,fun H2 s2=>?_⟩
 walk_at "rd"
 have s12:=s1.trans s2
 refine ⟨N,hN.same s12,ok,fun H3 s3=>?_⟩
 walk_at "rd"
 exact q H3 (s12.trans s3)
def NamedF (D:Addr) (H:Hp) (x:Named) (v:V):Prop:=∃ t q g w,v = .ref t /\ H t = some (.tup [tx x.1,.ref q]) /\ HouseN (fun r=>r ≠ D) H q g w x.2 /\ g ≠ D /\ w ≠ D
theorem namedF_keep {D:Addr} {H H':Hp} {acc:List V} (hd:H D = some (.lst acc)) (k:∀ b o,b ≠ D -> H b = some o -> H' b = some o) {x:Named} {v:V} (h:NamedF D H x v):NamedF D H' x v:=by
 obtain ⟨t,q,g,w,e,et,hN,ng,nw⟩:=h
 have tp:∀ t ts,H t = some (.tup ts) -> H' t = some (.tup ts):=fun t ts z=>k _ _ (fun y=>by rw [y,hd] at z; cases z) z
 obtain ⟨vs,eg,pg⟩:=hN.gates
 obtain ⟨us,ew,pw⟩:=hN.ways
 refine ⟨t,q,g,w,e,tp _ _ et,⟨tp _ _ hN.tup,hN.ne,⟨vs,k _ _ ng eg,L2.Paired.mapP pg ?_⟩,⟨us,k _ _ nw ew,ways_keep tp pw⟩⟩,ng,nw⟩
 rintro y v ⟨t',r,e',n,h1,⟨rv,er,pr⟩⟩
 exact ⟨t',r,e',n,tp _ _ h1,⟨rv,k _ _ n.2.2 er,rules_keep tp pr⟩⟩
theorem namedF_at {D:Addr} {H:Hp} {x:Named} {v:V} (h:NamedF D H x v):NamedAt H x v:=by
 obtain ⟨t,q,g,w,e,et,hN,_,_⟩:=h
 exact ⟨t,q,e,et,hN.at⟩
theorem paired_two {α β:Type} {F:β -> V -> Prop} {P:α -> β -> Prop}:∀ {l:List α} {vs:List V},Paired (fun a v=>∃ b,P a b /\ F b v) l vs -> ∃ bs:List β,Paired F bs vs /\ Paired P l bs
 | _,_,.nil=>⟨[],.nil,.nil⟩
 | _,_,.cons ⟨b,h1,h2⟩ p=>by
  obtain ⟨bs,h3,h4⟩:=paired_two p
  exact ⟨b :: bs,.cons h2 h3,.cons h1 h4⟩
theorem paired_eq {α β γ:Type} {P:α -> β -> Prop} {f:α -> γ} {g:β -> γ} (h:∀ a b,P a b -> g b = f a):∀ {l:List α} {bs:List β},Paired P l bs -> bs.map g = l.map f
 | _,_,.nil=>rfl
 | _,_,.cons r p=>by rw [List.map_cons,List.map_cons,h _ _ r,paired_eq h p]
theorem paired_mem {α β:Type} {P:α -> β -> Prop}:∀ {l:List α} {bs:List β},Paired P l bs -> ∀ b ∈ bs,∃ a,P a b
 | _,_,.nil,b,hb=>by simp at hb
 | _,_,.cons r p,b,hb=>by
  rcases List.mem_cons.mp hb with rfl | hb
  ·exact ⟨_,r⟩
  ·exact paired_mem p b hb
theorem range_getD {α:Type} (d:α) (l:List α):(List.range l.length).map (fun i=>l.getD i d) = l:=by
 apply List.ext_getElem?
 intro i
 by_cases h:i < l.length
 ·rw [List.getElem?_map,List.getElem?_range h,List.getElem?_eq_getElem h]
  simp [List.getD_eq_getElem?_getD,List.getElem?_eq_getElem h]
 ·rw [List.getElem?_eq_none (by simp; omega),List.getElem?_eq_none (by omega)]
theorem spots_nd:∀ {hs:List Named},(hs.map (·.1)).Nodup -> (∀ x ∈ hs,(x.2.1.map (·.1)).Nodup) -> (spotsOf hs).Nodup
 | [],_,_=>by unfold spotsOf; simp
 | x :: hs,nd,hd=>by
  rw [List.map_cons,List.nodup_cons] at nd
  have ih:=spots_nd nd.2 fun y hy=>hd y (List.mem_cons_of_mem _ hy)
  have e:spotsOf (x :: hs) = (x.2.1.map fun g=>(x.1,g.1)) ++ spotsOf hs:=by unfold spotsOf; rw [List.flatMap_cons]
  rw [e,List.nodup_append]
  refine ⟨?_,ih,fun a ha b hb z=>?_⟩
  ·have:=hd x List.mem_cons_self
   have e2:(x.2.1.map fun g=>((x.1,g.1):Way)) = (x.2.1.map (·.1)).map fun n=>(x.1,n):=by rw [List.map_map]; rfl
   rw [e2]
   exact List.pairwise_map.mpr (List.Pairwise.imp (fun {a b} h z=>h (Prod.mk.inj z).2) this)
  ·obtain ⟨g,_,rfl⟩:=List.mem_map.mp ha
   unfold spotsOf at hb
   obtain ⟨y,hy,hb⟩:=List.mem_flatMap.mp hb
   obtain ⟨g2,_,rfl⟩:=List.mem_map.mp hb
   exact nd.1 (List.mem_map.mpr ⟨y,hy,(Prod.mk.inj z).1.symm⟩)
theorem houseOk_own {W S:Nat} {pl:List (List Nat)} {h:House} (k:HouseOk W S pl h):HouseOk5 W S h:=⟨k.nd,Nat.le_trans k.g3 (by decide),k.rules,k.many,k.ways,k.w8⟩
noncomputable def sp__law_net (K:Frag):Sp:=fun vs H Q _=>match vs with
 | [.ref a,.ref t,.int m]=>∃ (ns:List Int) (ps:List Nat) (M:Nat),SqL K H a (ns.map V.int) /\ SqL K H t (ps.map nV) /\ ToldOk (wF ns) ps /\ m = (M:Int) /\ 1 <= M /\ M <= 8 /\
   ∀ (q:Addr) (H':Hp) (N:Net),H q = none -> Same H H' -> NetAt H' q N -> NetOk N -> widthL N.1 = wF ns -> Q (.ref q) H'
 | _=>False
theorem ok__law_net (T:Top K mg):Callee P w K mg base 4 "_law_net" ["_law_script", "_law_told_here", "_law_most"] (sp__law_net K):=by
 refine T.f__law_net.cal sc__law_net (by intro vs H Q E h; unfold sp__law_net at h; split at h <;> first | rfl | exact h.elim) (fun _ _ _ _ _ _ us hl=>match us,hl with | [_,_,_],_=>rfl) (fun f cdv A outer s H vs Q E hr h=>?_)
 unfold sp__law_net at h
 split at h
 case h_2=>exact h.elim
 refine ⟨_,(pss_cons (ps_set (i:=3) sc__law_net.nd rfl lc (pe_fn (ok__law_layout T) hr.m rfl (pa_cons (qv 0) pa_nil)))
   (pss_cons (ps_set (i:=4) sc__law_net.nd rfl lc (pe_fn (ok__law_names T) hr.m rfl (pa_cons (qv 0) (pa_cons pe_int (pa_cons pe_int pa_nil)))))
   (pss_cons (ps_set (i:=5) sc__law_net.nd rfl lc (pe_op op_addK pe_int (pe_fn (ok__law_draw T) hr.m rfl (pa_cons (qv 0) (pa_cons pe_int (pa_cons (qv 2) pa_nil))))))
   (pss_cons (ps_set (i:=6) sc__law_net.nd rfl lc (pe_fn (ok__law_names T) hr.m rfl (pa_cons (qv 0) (pa_cons pe_int (pa_cons (qv 5) pa_nil)))))
   (pss_cons (ps_setC (i:=7) (nt:=1) (fi:=[6,0,1,3,4]) (N':=["_law_h", "_law_names_here", "_law_script", "_law_told_here", "_law_layout_here", "_law_pool"]) sc__law_net.nd rfl lc rfl (cscope rfl (by decide +kernel)) (cnames (N:=["_law_script", "_law_told_here", "_law_most", "_law_layout_here", "_law_pool", "_law_many", "_law_names_here", "_law_houses"]) (sc:=defScope s__law_net) rfl rfl (by decide +kernel)) (gk_name (by decide)) (qi_range1 rfl T.b_range (qv 5)) (fun _ _ _ _ _=>(pg_name (i:=0) (by show (["_law_h", "_law_names_here", "_law_script", "_law_told_here", "_law_layout_here", "_law_pool"]:List Str).Nodup; decide +kernel) rfl lc)) (fun _ _ _ _ _=>pif_nil) (fun _ _ _ _ _=>(pe_tup (pa_cons (pe_ix (ixE K rfl) (qv 1) (qv 0) (fun _ _=>rfl)) (pa_cons (pe_fn (ok__law_house T) hr.m rfl (pa_cons (qv 2) (pa_cons (pe_op op_addK pe_int (pe_op op_mulK pe_int (qv 0))) (pa_cons (qv 3) (pa_cons (qv 4) (pa_cons (qv 5) pa_nil)))))) pa_nil)))))
   (pss_one (ps_ret (pe_tup (pa_cons (qv 3) (pa_cons (qv 7) (pa_cons (pe_fn (ok__law_lines T) hr.m rfl (pa_cons (qv 0) (pa_cons (pe_fn (ok__law_spots T) hr.m rfl (pa_cons (qv 7) pa_nil)) pa_nil))) pa_nil))))))))))),?_⟩
 rename_i a t m
 obtain ⟨ns,ps,M,hS,hT,tok,rfl,hM1,hM8,q⟩:=h
 walk_at "rd"
 refine ⟨ns,hS,fun p H1 ls hp s1 hL ok hwf=>?_⟩
 rw [<- hwf] at tok
 walk_at "rd"
 refine ⟨ns,22,5,s1.seq hS,rfl,by decide,rfl,by decide,fun pn H2 pl hpn s2 e2 N=>?_⟩
 have s12:=s1.trans s2
 walk_at "rd"
 refine draw_to (s12.seq hS) (by decide) (by decide) (by omega) (by omega) fun r1 hr1=>?_
 walk_at "rd"
 refine ⟨ns,18,1 + r1,s12.seq hS,rfl,by decide,by omega,by omega,fun pm H3 nm hpm s3 e3 N2=>?_⟩
 have s13:=s12.trans s3
 have e23:=s3 _ _ e2
 have hL3:=hL.same (s2.trans s3)
 walk_at "rd"
 refine ⟨by omega,by omega,fun D hD=>?_⟩
 rw [show (1 + (r1:Int)).toNat = 1 + r1 by omega]
 have hnl:=N2.len
 refine comp_genD (List.range (1 + r1)) (fun i v H'=>∃ x:Named,(x.1 = nm.getD i [] /\ HouseOk (widthL ls) ((spanG ls).2 - (spanG ls).1) pl x.2) /\ NamedF D H' x v) hD (by simp; omega) (fun i H4 hi s4=>show i < 1 + r1 by simpa using hi) (fun H4 s4=>show 1 + r1 <= _ by simp) ?_ ?_ ?_ ?_
 ·rintro i H4 v H5 _ ⟨rfl,_⟩
  exact Same.refl _
 ·rintro i v H4 H5 acc hd k ⟨x,h1,h2⟩
  exact ⟨x,h1,namedF_keep hd k h2⟩
 ·rintro i x v H4 H5 out non hx s4 nD ⟨rfl,rfl⟩ ho
  obtain ⟨hi,hxe⟩:=List.getElem?_eq_some_iff.mp hx
  rw [List.getElem_range] at hxe
  subst hxe
  rw [List.length_range] at hi
  have s14:=s13.trans s4
  walk_at "rd"
  refine ⟨_,tx nm[i],.inl (SqL.of (s4 _ _ e3)),atI_nat (by rw [List.getElem?_map,List.getElem?_eq_getElem (by omega)]; rfl),?_⟩
  refine ⟨.inl ⟨by decide,by decide⟩,ns,70 + 50 * i,ps,ls,pl,s14.seq hS,by omega,by omega,s14.seq hT,tok,hL3.same s4,ok,SqL.of (s4 _ _ e23),N,fun q' g w H5 hs hq' hg hw s5 hN hok hw4=>⟨by decide,fun t6 ht6=>?_⟩⟩
  have s6:=same_new ht6 (.tup [tx nm[i],.ref q'])
  refine ho _ _ (s5.trans s6) ⟨(nm[i],hs),⟨?_,hok⟩,t6,q',g,w,rfl,upd_same,?_,nD g hg,nD w hw⟩
  ·rw [List.getD_eq_getElem?_getD,List.getElem?_eq_getElem (by omega)]
   rfl
  ·have hN6:=hN.same s6
   obtain ⟨vs6,eg6,pg6⟩:=hN6.gates
   exact ⟨hN6.tup,hN6.ne,⟨vs6,eg6,L2.Paired.mapP pg6 fun _ _ ⟨t',r,e',n,h1,h2⟩=>⟨t',r,e',⟨n.1,n.2.1,nD r n.2.2⟩,h1,h2⟩⟩,hN6.ways⟩
 ·intro H4 vs s4 e4 p4
  obtain ⟨hs,pf,pp⟩:=paired_two p4
  have hnm:hs.map (·.1) = nm:=by
   have:=paired_eq (f:=fun i=>nm.getD i []) (g:=fun x:Named=>x.1) (fun i b h=>h.1) pp
   rw [this,<- hnl,range_getD]
  have hhok:∀ x ∈ hs,HouseOk (widthL ls) ((spanG ls).2 - (spanG ls).1) pl x.2:=fun x hx=>by
   obtain ⟨i,h⟩:=paired_mem pp x hx
   exact h.2
  have hhl:hs.length = 1 + r1:=by have:=congrArg List.length hnm; rw [List.length_map] at this; omega
  have hH4:Houses H4 D hs:=⟨vs,e4,L2.Paired.mapP pf fun _ _ z=>namedF_at z⟩
  have s14:=s13.trans s4
  have snd:=spots_nd (hs:=hs) (by rw [hnm]; exact N2.nd) fun x hx=>(hhok x hx).nd
  have slen:=spots_len (hs:=hs) (c:=3) fun x hx=>(hhok x hx).g3
  walk_at "rd"
  refine ⟨hs,hH4,by omega,fun x hx=>Nat.le_trans (hhok x hx).g3 (by decide),fun sq H5 hsq s5 hWs=>?_⟩
  have s15:=s14.trans s5
  walk_at "rd"
  refine ⟨ns,spotsOf hs,s15.seq hS,hWs,by omega,snd,fun c H6 lns hc s6 hLn en1 en2 en3=>⟨by decide,fun q7 hq7=>?_⟩⟩
  have s7:=same_new hq7 (.tup [V.ref p,V.ref D,V.ref c])
  have s57:=s5.trans (s6.trans s7)
  refine q q7 _ (ls,hs,lns) ((s15.trans s6).free hq7) (s14.trans s57) ⟨p,D,c,upd_same,hL3.same (s4.trans s57),hH4.same s57,hLn.same s7⟩ ⟨ok,by rw [hnm]; exact N2.nd,fun x hx=>?_,fun x hx=>houseOk_own (hhok x hx),fun x hx g hg=>?_,by show hs.length <= 100; omega,en1,en2,en3⟩ hwf
  ·have hm:x.1 ∈ nm:=by rw [<- hnm]; exact List.mem_map.mpr ⟨x,hx,rfl⟩
   exact ⟨N2.low _ hm,Nat.le_trans (N2.short _ hm).2 (by decide)⟩
  ·have hm:=(hhok x hx).door g hg
   exact ⟨N.low _ hm,Nat.le_trans (N.short _ hm).2 (by decide)⟩
def NamedP (F:Addr -> Prop) (H:Hp) (x:Named) (v:V):Prop:=∃ t q g w,v = .ref t /\ H t = some (.tup [tx x.1,.ref q]) /\ HouseN F H q g w x.2 /\ F g /\ F w
theorem namedP_imp {F F':Addr -> Prop} {H H':Hp} (k:∀ b o,F b -> H b = some o -> H' b = some o) (tp:∀ t ts,H t = some (.tup ts) -> H' t = some (.tup ts)) (f:∀ b o,F b -> H b = some o -> F' b) {x:Named} {v:V} (h:NamedP F H x v):NamedP F' H' x v:=by
 obtain ⟨t,q,g,w,e,et,hN,ng,nw⟩:=h
 obtain ⟨vs,eg,pg⟩:=hN.gates
 obtain ⟨us,ew,pw⟩:=hN.ways
 refine ⟨t,q,g,w,e,tp _ _ et,⟨tp _ _ hN.tup,hN.ne,⟨vs,k _ _ ng eg,L2.Paired.mapP pg ?_⟩,⟨us,k _ _ nw ew,ways_keep tp pw⟩⟩,f _ _ ng eg,f _ _ nw ew⟩
 rintro y v ⟨t',r,e',n,h1,⟨rv,er,pr⟩⟩
 exact ⟨t',r,e',⟨n.1,n.2.1,f _ _ n.2.2 er⟩,tp _ _ h1,⟨rv,k _ _ n.2.2 er,rules_keep tp pr⟩⟩
theorem namedP_at {F:Addr -> Prop} {H:Hp} {x:Named} {v:V} (h:NamedP F H x v):NamedAt H x v:=by
 obtain ⟨t,q,g,w,e,et,hN,_,_⟩:=h
 exact ⟨t,q,e,et,hN.at⟩
def Apart (H0:Hp) (hl:Addr) (H:Hp) (hs:List Named) (vs:List V):Prop:=∃ (hs':List Named) (x:Named) (vs':List V) (t q g w:Addr),hs = hs' ++ [x] /\ vs = vs' ++ [.ref t] /\ Paired (NamedP (fun b=>b ≠ hl /\ b ≠ g) H) hs' vs' /\ H t = some (.tup [tx x.1,.ref q]) /\ HouseN (fun b=>b ≠ hl) H q g w x.2 /\ g ≠ hl /\ w ≠ hl /\ H0 g = none
structure LargeOk (W S i d:Nat) (pl:List (List Nat)) (hs:List Named):Prop where
 len:hs.length = i
 name:hs.map (fun x=>x.1.head?) = (List.range i).map fun j=>some (97 + (d + 7 * j) % 26)
 low:∀ x ∈ hs,Low x.1 /\ x.1.length <= 1000
 house:∀ x ∈ hs,HouseOk5 W S x.2
 door:∀ x ∈ hs,∀ g ∈ x.2.1,g.1 ∈ pl
 one:∀ x ∈ hs,∀ g ∈ x.2.1,g.2.length = 1
 some:∀ x ∈ hs,0 < x.2.1.length
noncomputable def sp__law_large (K:Frag):Sp:=fun vs H Q _=>match vs with
 | [.ref a,.ref t]=>∃ (ns:List Int) (ps:List Nat),SqL K H a (ns.map V.int) /\ SqL K H t (ps.map nV) /\ ToldOk (wF ns) ps /\
   ∀ (q:Addr) (H':Hp) (N:Net),H q = none -> Same H H' -> NetAt H' q N -> NetOk N -> widthL N.1 = wF ns -> Q (.ref q) H'
 | _=>False
theorem ok__law_large (T:Top K mg):Callee P w K mg base 4 "_law_large" ["_law_script", "_law_told_here"] (sp__law_large K):=by
 refine T.f__law_large.cal sc__law_large (by intro vs H Q E h; unfold sp__law_large at h; split at h <;> first | rfl | exact h.elim) (fun _ _ _ _ _ _ us hl=>match us,hl with | [_,_],_=>rfl) (fun f cdv A outer s H vs Q E hr h=>?_)
 unfold sp__law_large at h
 split at h
 case h_2=>exact h.elim
 refine ⟨_,(pss_cons (ps_set (i:=2) sc__law_large.nd rfl lc (pe_fn (ok__law_layout T) hr.m rfl (pa_cons (qv 0) pa_nil)))
   (pss_cons (ps_set (i:=3) sc__law_large.nd rfl lc (pe_fn (ok__law_width T) hr.m rfl (pa_cons (qv 2) pa_nil)))
   (pss_cons (ps_set (i:=4) sc__law_large.nd rfl lc (pe_fn (ok__law_names T) hr.m rfl (pa_cons (qv 0) (pa_cons pe_int (pa_cons pe_int pa_nil)))))
   (pss_cons (ps_set (i:=5) sc__law_large.nd rfl lc (pe_fn (ok__law_over_at T) hr.m rfl (pa_cons (qv 0) (pa_cons (qv 1) pa_nil))))
   (pss_cons (ps_set (i:=6) sc__law_large.nd rfl lc (pe_op op_addK pe_int (pe_fn (ok__law_draw T) hr.m rfl (pa_cons (qv 0) (pa_cons pe_int (pa_cons pe_int pa_nil))))))
   (pss_cons (ps_set (i:=7) sc__law_large.nd rfl lc (qs [97,98,99,100,101,102,103,104,105,106,107,108,109,110,111,112,113,114,115,116,117,118,119,120,121,122]))
   (pss_cons (ps_set (i:=8) sc__law_large.nd rfl lc (pe_lst pa_nil))
   (pss_cons (ps_set (i:=9) sc__law_large.nd rfl lc (pe_op op_subK pe_int (qv 6)))
   (pss_cons (qs_for PassesOwn.never rfl (qi_range1 rfl T.b_range (qv 6)) (pg_name (i:=10) sc__law_large.nd rfl lc) (pss_cons (ps_set (i:=11) sc__law_large.nd rfl lc (pe_callB (call_min2K rfl) rfl T.b_min bb_min (pa_cons (qv 9) (pa_cons (pe_fn (ok__law_draw T) hr.m rfl (pa_cons (qv 0) (pa_cons (pe_op op_addK pe_int (qv 10)) (pa_cons pe_int pa_nil)))) pa_nil))))
   (pss_cons (ps_set (i:=9) sc__law_large.nd rfl lc (pe_op op_subK (qv 9) (qv 11)))
   (pss_cons (ps_set (i:=12) sc__law_large.nd rfl lc (pe_op op_addK (pe_ix (ixE K rfl) (qv 7) (pe_op op_modK (pe_op op_addK (pe_fn (ok__law_draw T) hr.m rfl (pa_cons (qv 0) (pa_cons pe_int (pa_cons pe_int pa_nil)))) (pe_op op_mulK pe_int (qv 10))) pe_int) (fun _ _=>rfl)) (pe_op op_mulK (pe_ix (ixE K rfl) (qv 7) (pe_op op_modK (qv 10) pe_int) (fun _ _=>rfl)) (pe_fn (ok__law_draw T) hr.m rfl (pa_cons (qv 0) (pa_cons (pe_op op_addK pe_int (qv 10)) (pa_cons pe_int pa_nil)))))))
   (pss_cons (ps_setC (i:=13) (nt:=1) (fi:=[4,0,1,5,3,10]) (N':=["_law_j", "_law_pool", "_law_script", "_law_told_here", "_law_over_at_here", "_law_width_here", "_law_h"]) sc__law_large.nd rfl lc rfl (cscope rfl (by decide +kernel)) (cnames (N:=["_law_script", "_law_told_here", "_law_layout_here", "_law_width_here", "_law_pool", "_law_over_at_here", "_law_many", "_law_letters", "_law_houses", "_law_left", "_law_h", "_law_more", "_law_name", "_law_gates", "_law_some", "_law_house_here"]) (sc:=defScope s__law_large) rfl rfl (by decide +kernel)) (gk_name (by decide)) (qi_range1 rfl T.b_range (pe_op op_addK pe_int (qv 11))) (fun _ _ _ _ _=>(pg_name (i:=0) (by show (["_law_j", "_law_pool", "_law_script", "_law_told_here", "_law_over_at_here", "_law_width_here", "_law_h"]:List Str).Nodup; decide +kernel) rfl lc)) (fun _ _ _ _ _=>pif_nil) (fun _ _ _ _ _=>(pe_tup (pa_cons (pe_ix (ixE K rfl) (qv 1) (qv 0) (fun _ _=>rfl)) (pa_cons (pe_lst (pa_cons (pe_fn (ok__law_rule T) hr.m rfl (pa_cons (qv 2) (pa_cons (pe_op op_addK (pe_op op_addK pe_int (pe_op op_mulK pe_int (qv 6))) (qv 0)) (pa_cons (qv 3) (pa_cons (qv 4) (pa_cons (qv 5) pa_nil)))))) pa_nil)) pa_nil)))))
   (pss_one (ps_expr (qe_append (qv 8) (pe_tup (pa_cons (qv 12) (pa_cons (pe_tup (pa_cons (qv 13) (pa_cons (pe_fn (ok__law_ways T) hr.m rfl (pa_cons (qv 0) (pa_cons (pe_op op_addK pe_int (pe_op op_mulK pe_int (qv 10))) (pa_cons (qe_comp (nt:=1) (fi:=[]) (N':=["_law_gate"]) rfl (cscope rfl (by decide +kernel)) (cnames (N:=["_law_script", "_law_told_here", "_law_layout_here", "_law_width_here", "_law_pool", "_law_over_at_here", "_law_many", "_law_letters", "_law_houses", "_law_left", "_law_h", "_law_more", "_law_name", "_law_gates", "_law_some", "_law_house_here"]) (sc:=defScope s__law_large) rfl rfl (by decide +kernel)) (gk_name (by decide)) (iterE K rfl (qv 13)) (fun _ _ _ _ _=>(pg_name (i:=0) (by show (["_law_gate"]:List Str).Nodup; decide +kernel) rfl lc)) (fun _ _ _ _ _=>pif_nil) (fun _ _ _ _ _=>(pe_ix (ixE K rfl) (qv 0) pe_int (fun _ _=>rfl)))) (pa_cons pe_int pa_nil))))) pa_nil))) pa_nil)))))))))))
   (pss_cons (ps_setC (i:=14) (nt:=1) (fi:=[0,1,5,3]) (N':=["_law_j", "_law_script", "_law_told_here", "_law_over_at_here", "_law_width_here"]) sc__law_large.nd rfl lc rfl (cscope rfl (by decide +kernel)) (cnames (N:=["_law_script", "_law_told_here", "_law_layout_here", "_law_width_here", "_law_pool", "_law_over_at_here", "_law_many", "_law_letters", "_law_houses", "_law_left", "_law_h", "_law_more", "_law_name", "_law_gates", "_law_some", "_law_house_here"]) (sc:=defScope s__law_large) rfl rfl (by decide +kernel)) (gk_name (by decide)) (qi_range1 rfl T.b_range (pe_fn (ok__law_draw T) hr.m rfl (pa_cons (qv 0) (pa_cons pe_int (pa_cons pe_int pa_nil))))) (fun _ _ _ _ _=>(pg_name (i:=0) (by show (["_law_j", "_law_script", "_law_told_here", "_law_over_at_here", "_law_width_here"]:List Str).Nodup; decide +kernel) rfl lc)) (fun _ _ _ _ _=>pif_nil) (fun _ _ _ _ _=>(pe_fn (ok__law_rule T) hr.m rfl (pa_cons (qv 1) (pa_cons (pe_op op_addK pe_int (pe_op op_mulK pe_int (qv 0))) (pa_cons (qv 2) (pa_cons (qv 3) (pa_cons (qv 4) pa_nil))))))))
   (pss_cons (ps_set (i:=15) sc__law_large.nd rfl lc (pe_ix (ixE K rfl) (pe_ix (ixE K rfl) (qv 8) (pe_op op_subK (qv 6) pe_int) (fun _ _=>rfl)) pe_int (fun _ _=>rfl)))
   (pss_cons (ps_asg (pe_tup (pa_cons (pe_ix (ixE K rfl) (pe_ix (ixE K rfl) (pe_ix (ixE K rfl) (qv 15) pe_int (fun _ _=>rfl)) pe_int (fun _ _=>rfl)) pe_int (fun _ _=>rfl)) (pa_cons (pe_op op_addK (pe_ix (ixE K rfl) (pe_ix (ixE K rfl) (pe_ix (ixE K rfl) (qv 15) pe_int (fun _ _=>rfl)) pe_int (fun _ _=>rfl)) pe_int (fun _ _=>rfl)) (qv 14)) pa_nil))) (pg_sub (pe_ix (ixE K rfl) (qv 15) pe_int (fun _ _=>rfl)) pe_int set_list (fun _=>rfl)))
   (pss_one (ps_ret (pe_tup (pa_cons (qv 2) (pa_cons (qv 8) (pa_cons (pe_fn (ok__law_lines T) hr.m rfl (pa_cons (qv 0) (pa_cons (pe_fn (ok__law_spots T) hr.m rfl (pa_cons (qv 8) pa_nil)) pa_nil))) pa_nil)))))))))))))))))),?_⟩
 rename_i a t
 obtain ⟨ns,ps,hS,hT,tok,q⟩:=h
 walk_at "rd"
 refine ⟨ns,hS,fun p H1 ls hp s1 hL ok hwf=>?_⟩
 rw [<- hwf] at tok
 have w1:=ok.w1
 have w2:=ok.w2
 have hlen:=ok.len
 walk_at "rd"
 refine ⟨ls,hL,by omega,fun H2 s2=>?_⟩
 have s12:=s1.trans s2
 have hL2:=hL.same s2
 walk_at "rd"
 refine ⟨ns,22,5,s12.seq hS,rfl,by decide,rfl,by decide,fun pn H3 pl hpn s3 e3 N=>?_⟩
 have s13:=s12.trans s3
 walk_at "rd"
 refine ⟨ns,ps,s13.seq hS,s13.seq hT,tok.l1,by have:=tok.l5; omega,fun ov H4 os hov s4 e4 hos=>?_⟩
 have s14:=s13.trans s4
 have e34:=s4 _ _ e3
 have hL4:=hL2.same (s3.trans s4)
 have hosW:∀ x ∈ os,x < widthL ls:=fun x hx=>tok.lt x (hos x hx)
 walk_at "rd"
 refine draw_to (s14.seq hS) (by decide) (by decide) (by omega) (by omega) fun r1 hr1=>?_
 walk_at "rd"
 rw [show ([97,98,99,100,101,102,103,104,105,106,107,108,109,110,111,112,113,114,115,116,117,118,119,120,121,122]:List Nat) = abc from rfl]
 have a26:abc.length = 26:=rfl
 refine ⟨Nat.zero_le _,fun hl hhl=>⟨by omega,by omega,?_⟩⟩
 rw [show (2 + (r1:Int)).toNat = 2 + r1 by omega]
 obtain ⟨fa,fb,esp,hab,hb⟩:=ok.to
 have eG:spanG ls = (fa,fb):=by unfold spanG; rw [esp]; rfl
 have hd:=drawN_lt ns 18 (m:=26) (by decide)
 generalize eD:drawN ns 18 26 = d at hd
 generalize eW:widthL ls = W at *
 refine loop_range (lo:=0) (n:=2 + r1) (fun i σ H'=>∃ (hs:List Named) (vs:List V) (left:Nat) (u10 u11 u12 u13:Option V),σ = [some (.ref a),some (.ref t),some (.ref p),some (nV W),some (.ref pn),some (.ref ov),some (.int (2 + r1)),some (.str (st abc)),some (.ref hl),some (nV left),u10,u11,u12,u13,none,none] /\ left <= 24 /\ Same H4 H' /\ H' hl = some (.lst vs) /\ Paired (NamedP (fun b=>b ≠ hl) H') hs vs /\ (0 < i -> Apart H4 hl H' hs vs) /\ LargeOk W (fb - fa) i d pl hs)
  ⟨[],[],22 - r1,none,none,none,none,by rw [show (24 - (2 + (r1:Int))) = ((22 - r1:Nat):Int) by omega],by omega,same_new hhl _,upd_same,.nil,fun h=>absurd h (by decide),⟨rfl,rfl,fun x hx=>by simp at hx,fun x hx=>by simp at hx,fun x hx=>by simp at hx,fun x hx=>by simp at hx,fun x hx=>by simp at hx⟩⟩ ?_ ?_
 ·rintro i σ H5 hi ⟨hs,vs,left,u10,u11,u12,u13,rfl,hleft,s5,eh,ph,_,lok⟩
  have s15:=s14.trans s5
  walk_at "rd"
  refine draw_to (s15.seq hS) (by omega) (by omega) (by decide) (by decide) fun r2 hr2=>?_
  obtain ⟨m,em,hm1,hm2⟩:∃ m:Nat,(if (r2:Int) < (left:Int) then (r2:Int) else (left:Int)) = (m:Int) /\ m <= left /\ m <= 4:=by
   split
   ·exact ⟨r2,rfl,by omega,by omega⟩
   ·exact ⟨left,rfl,by omega,by omega⟩
  walk_at "rd"
  rw [em]
  rw [show (1 + (m:Int)).toNat = 1 + m by omega]
  refine draw_is (k:=18) (m:=26) (s15.seq hS) (by decide) (by decide) (by decide) ?_
  rw [eD]
  walk_at "rd"
  have hm26:=Nat.mod_lt (d + 7 * i) (show 26 > 0 by decide)
  have hm3:=Nat.mod_lt i (show 3 > 0 by decide)
  rw [show ((d:Int) + 7 * (i:Int)) % 26 = (((d + 7 * i) % 26:Nat):Int) by omega,show ((i:Int) % 3) = ((i % 3:Nat):Int) by omega]
  have mul7:CMul 7 (i:Int):=.inl ⟨by decide,by decide⟩
  have mul5:CMul 5 (i:Int):=.inl ⟨by decide,by decide⟩
  have mul20:CMul 20 (i:Int):=.inl ⟨by decide,by decide⟩
  refine ⟨mul7,by omega,_,atI_nat (abc_at hm26),by omega,_,atI_nat (abc_at (by omega)),draw_to (s15.seq hS) (by omega) (by omega) (by decide) (by decide) fun r3 hr3=>?_⟩
  walk_at "rd"
  rw [Int.toNat_natCast]
  refine ⟨by omega,by omega,by rw [List.length_replicate]; omega,by omega,by omega,fun g hg=>?_⟩
  have hplen:=N.len
  refine comp_genD (List.range (1 + m)) (fun j v H'=>∃ x:Gate,(x.1 = pl.getD j [] /\ (∀ r ∈ x.2,RuleOk W r) /\ x.2.length = 1) /\ GateN (fun r=>r ≠ g /\ H5 r = none) H' x v) hg (by simp; omega) (fun j H6 hj s6=>show j < 1 + m by simpa using hj) (fun H6 s6=>show 1 + m <= _ by simp) ?_ ?_ ?_ ?_
  ·rintro j H6 v H7 _ ⟨rfl,_⟩
   exact Same.refl _
  ·rintro j v H6 H7 acc hd k ⟨x,h1,t',r,rfl,nr,et,⟨rv,er,pr⟩⟩
   have tp:∀ t ts,H6 t = some (.tup ts) -> H7 t = some (.tup ts):=fun t ts z=>k _ _ (fun y=>by rw [y,hd] at z; cases z) z
   exact ⟨x,h1,t',r,rfl,nr,tp _ _ et,⟨rv,k _ _ nr.1 er,rules_keep tp pr⟩⟩
  ·rintro j x v H6 H7 out non hx s6 nD ⟨rfl,rfl⟩ ho
   obtain ⟨hj,hxe⟩:=List.getElem?_eq_some_iff.mp hx
   rw [List.getElem_range] at hxe
   subst hxe
   rw [List.length_range] at hj
   have s16:=s15.trans s6
   have hjp:j < pl.length:=by omega
   walk_at "rd"
   refine ⟨_,tx pl[j],.inl (SqL.of (s6 _ _ (s5 _ _ e34))),atI_nat (by rw [List.getElem?_map,List.getElem?_eq_getElem hjp]; rfl),?_⟩
   refine ⟨mul5,ns,420 + 5 * i + j,W,ps,os,s16.seq hS,by omega,by omega,rfl,by omega,s16.seq hT,tok.lt,SqL.of (s6 _ _ (s5 _ _ e4)),hosW,fun t7 H8 r ht7 s8 e8 hrok=>⟨by decide,fun t9 ht9=>⟨by decide,fun t10 ht10=>?_⟩⟩⟩
   have s9:=same_new ht9 (.lst [V.ref t7])
   have s10:=same_new ht10 (.tup [tx pl[j],.ref t9])
   refine ho _ _ (s8.trans (s9.trans s10)) ⟨(pl[j],[r]),⟨?_,fun y hy=>?_,rfl⟩,t10,t9,rfl,⟨nD t9 (s8.free ht9),(s6.trans s8).free ht9⟩,upd_same,⟨_,s10 _ _ upd_same,.cons ⟨t7,rfl,s10 _ _ (s9 _ _ e8)⟩ .nil⟩⟩
   ·rw [List.getD_eq_getElem?_getD,List.getElem?_eq_getElem hjp]
    rfl
   ·rw [List.mem_singleton.mp hy]
    exact hrok
  intro H6 gv s6 e6 p6
  obtain ⟨gs,pg,pp⟩:=paired_two p6
  have hgn:=paired_eq (f:=fun j=>pl.getD j []) (g:=fun x:Gate=>x.1) (fun j b h=>h.1) pp
  have hgl:gs.length = 1 + m:=by have:=congrArg List.length hgn; simpa using this
  have hgk:∀ x ∈ gs,(∀ r ∈ x.2,RuleOk W r) /\ x.2.length = 1:=fun x hx=>by
   obtain ⟨j,h⟩:=paired_mem pp x hx
   exact h.2
  have hgnd:(gs.map (·.1)).Nodup:=by
   rw [hgn]
   refine map_nodup _ fun j k hj hk e=>?_
   have h1:j < pl.length:=by omega
   have h2:k < pl.length:=by omega
   simp only [List.getD_eq_getElem?_getD,List.getElem?_eq_getElem h1,List.getElem?_eq_getElem h2,Option.getD_some] at e
   exact (List.getElem_inj N.nd).mp e
  have hgpl:∀ x ∈ gs,x.1 ∈ pl:=fun x hx=>by
   have hm:x.1 ∈ gs.map (·.1):=List.mem_map.mpr ⟨x,hx,rfl⟩
   rw [hgn] at hm
   obtain ⟨j,hj,ej⟩:=List.mem_map.mp hm
   have h1:j < pl.length:=by have:=List.mem_range.mp hj; omega
   rw [<- ej,List.getD_eq_getElem?_getD,List.getElem?_eq_getElem h1]
   exact List.getElem_mem h1
  have hgvl:=pg.length
  have s16:=s15.trans s6
  obtain ⟨z1,z2⟩:=paired_zip pg
  refine ⟨⟨_,s6 _ _ eh⟩,mul20,.inl ⟨⟨_,SqL.of e6⟩,fun D hD=>?_⟩⟩
  refine comp_list (item:=fun x:Gate × V=>x.2) (xs:=gs.zip gv) (h:=fun x=>[tx x.1.1]) hD (by rw [z1]; exact SqL.of e6) (by rw [List.length_zip]; omega) (fun _=>by simp) ?_ ?_
  ·intro x H7 out non hx s7 ho _
   obtain ⟨t,r,ex,nr,et,hr⟩:=z2 x hx
   rw [ex]
   walk_at "rd"
   refine ⟨_,_,.inr (SqT.of (s7 _ _ et)),rfl,?_⟩
   exact ho _ _ rfl (Same.refl _)
  intro H7 s7 e7
  rw [show (gs.zip gv).flatMap (fun x=>[tx x.1.1]) = (gs.map (·.1)).map tx by
   rw [flat_one' (fun x:Gate × V=>tx x.1.1)]
   conv=>rhs; rw [<- zip_fst (l:=gs) (m:=gv) hgvl,List.map_map,List.map_map]
   rfl] at e7
  have s17:=s16.trans s7
  refine ⟨ns,480 + 20 * i,1,gs.map (·.1),s17.seq hS,by omega,by omega,rfl,by decide,SqL.of e7,by rw [List.length_map]; omega,fun wp H8 ws hwp s8 hw wok hwl=>⟨by decide,fun hp hhp=>⟨by decide,fun np hnp=>?_⟩⟩⟩
  have s9:=same_new hhp (.tup [V.ref g,V.ref wp])
  generalize enm:(97 + (d + 7 * i) % 26) :: List.replicate r3 (97 + i % 3) = nm at *
  have s10:=same_new hnp (.tup [tx nm,V.ref hp])
  have s78:=s7.trans s8
  have s910:=s9.trans s10
  have s810:=s78.trans s910
  have s610:=s6.trans s810
  have eh10:=s610 _ _ eh
  have hvl:=ph.length
  have hll:=lok.len
  have eg8:=s78 _ _ e6
  have ngw:g ≠ wp:=fun z=>by have y:=s7 _ _ e6; rw [z,hwp] at y; cases y
  have ngh:g ≠ hl:=fun z=>by rw [z,eh] at hg; cases hg
  have nwh:wp ≠ hl:=fun z=>by rw [z,s7 _ _ (s6 _ _ eh)] at hwp; cases hwp
  rw [show ((left:Int) - (m:Int)) = ((left - m:Nat):Int) by omega]
  have kk:∀ b o,b ≠ hl -> H5 b = some o -> upd (upd (upd H8 hp (.tup [V.ref g,V.ref wp])) np (.tup [tx nm,V.ref hp])) hl (.lst (vs ++ [.ref np])) b = some o:=fun b o n e=>by rw [upd_ne n]; exact s610 _ _ e
  have kt:∀ t us,upd (upd H8 hp (.tup [V.ref g,V.ref wp])) np (.tup [tx nm,V.ref hp]) t = some (.tup us) -> upd (upd (upd H8 hp (.tup [V.ref g,V.ref wp])) np (.tup [tx nm,V.ref hp])) hl (.lst (vs ++ [.ref np])) t = some (.tup us):=keep_lst eh10
  have pa:Paired (NamedP (fun b=>b ≠ hl /\ b ≠ g) (upd (upd (upd H8 hp (.tup [V.ref g,V.ref wp])) np (.tup [tx nm,V.ref hp])) hl (.lst (vs ++ [.ref np])))) hs vs:=
   L2.Paired.mapP ph fun _ _ z=>namedP_imp kk (fun t us e=>kt _ _ (s610 _ _ e)) (fun b o n e=>⟨n,fun y=>by rw [y,hg] at e; cases e⟩) z
  have hN:HouseN (fun b=>b ≠ hl) (upd (upd (upd H8 hp (.tup [V.ref g,V.ref wp])) np (.tup [tx nm,V.ref hp])) hl (.lst (vs ++ [.ref np]))) hp g wp (gs,ws):=by
   refine ⟨kt _ _ (s10 _ _ upd_same),ngw,⟨gv,by rw [upd_ne ngh]; exact s910 _ _ eg8,L2.Paired.mapP pg ?_⟩,?_⟩
   ·rintro x v ⟨t',r,rfl,nr,et,⟨rv,er,pr⟩⟩
    have nrh:r ≠ hl:=fun z=>by have y:=nr.2; rw [z,eh] at y; cases y
    refine ⟨t',r,rfl,⟨nr.1,fun z=>?_,nrh⟩,kt _ _ (s810 _ _ et),⟨rv,by rw [upd_ne nrh]; exact s810 _ _ er,rules_keep (fun _ _ z=>kt _ _ (s810 _ _ z)) pr⟩⟩
    have y:=s7 _ _ er
    rw [z,hwp] at y
    cases y
   ·obtain ⟨wv,ew,pw⟩:=hw
    exact ⟨wv,by rw [upd_ne nwh]; exact s910 _ _ ew,ways_keep (fun _ _ z=>kt _ _ (s910 _ _ z)) pw⟩
  refine ⟨vs,eh10,sizeBig (by omega),hs ++ [(nm,gs,ws)],vs ++ [.ref np],left - m,_,_,_,_,rfl,by omega,same_upd (s5.trans s610) hhl,upd_same,?_,fun _=>⟨hs,(nm,gs,ws),vs,np,hp,g,wp,rfl,rfl,pa,kt _ _ upd_same,hN,ngh,nwh,s5.free hg⟩,?_⟩
  ·exact paired_snoc (L2.Paired.mapP pa fun _ _ z=>namedP_imp (fun _ _ _ e=>e) (fun _ _ e=>e) (fun b o n e=>n.1) z) ⟨np,hp,g,wp,rfl,kt _ _ upd_same,hN,ngh,nwh⟩
  ·have ml:∀ {P:Named -> Prop},(∀ x ∈ hs,P x) -> P (nm,gs,ws) -> ∀ x ∈ hs ++ [(nm,gs,ws)],P x:=fun h1 h2 x hx=>by
    rcases List.mem_append.mp hx with z | z
    ·exact h1 x z
    ·rw [List.mem_singleton.mp z]; exact h2
   refine ⟨by rw [List.length_append,hll]; rfl,?_,ml lok.low ?_,ml lok.house ⟨hgnd,by show gs.length <= 8; omega,fun x hx=>(hgk x hx).1,fun x hx=>by rw [(hgk x hx).2]; decide,?_,by show ws.length <= 8; omega⟩,ml lok.door hgpl,ml lok.one fun x hx=>(hgk x hx).2,ml lok.some (by show 0 < gs.length; omega)⟩
   ·rw [List.map_append,lok.name,List.range_succ,List.map_append,<- enm]
    rfl
   ·rw [<- enm]
    refine ⟨fun c hc=>?_,by rw [List.length_cons,List.length_replicate]; omega⟩
    rcases List.mem_cons.mp hc with rfl | z
    ·exact ⟨by omega,by omega⟩
    ·rw [List.eq_of_mem_replicate z]
     exact ⟨by omega,by omega⟩
   ·exact ⟨fun x hx=>by have:=wok.n x hx; omega,wok.bits,wok.door,wok.nd⟩
 ·rintro σ H5 ⟨hs,vs,left,u10,u11,u12,u13,rfl,hleft,s5,eh,ph,hap,lok⟩
  have s15:=s14.trans s5
  walk_at "rd"
  refine draw_to (s15.seq hS) (by omega) (by omega) (by decide) (by decide) fun r4 hr4=>⟨by omega,by omega,fun R hR=>?_⟩
  rw [Int.toNat_natCast]
  have mul2:∀ j:Nat,CMul 2 (j:Int):=fun j=>.inl ⟨by decide,by decide⟩
  refine comp_relR (lo:=0) (n:=r4) (fun _ v H'=>∃ r:Rule,RuleOk W r /\ RuleAt H' r v) hR (by omega) ?_ ?_ ?_
  ·rintro x v H7 H8 acc hd k ⟨r,hr,t',rfl,et⟩
   exact ⟨r,hr,t',rfl,k t' _ (fun z=>by rw [z,hd] at et; cases et) et⟩
  ·intro j H7 out non hj s7 ho
   have s17:=s15.trans s7
   walk_at "rd"
   refine ⟨mul2 j,ns,700 + 2 * j,W,ps,os,s17.seq hS,by omega,by omega,rfl,by omega,s17.seq hT,tok.lt,SqL.of (s7 _ _ (s5 _ _ e4)),hosW,fun t7 H8 r ht7 s8 e8 hrok=>?_⟩
   exact ho _ _ s8 ⟨r,hrok,t7,rfl,e8⟩
  intro H6 us s6 e6 p6
  obtain ⟨rs,pr6,hrl,hrok⟩:=paired_choose p6
  rw [List.length_range] at hrl
  obtain ⟨hs',x,vs',tx',qx,g,w,rfl,rfl,pa,etx,hN,ngl,nwl,fg⟩:=hap (by omega)
  have hN6:=hN.same s6
  have hne:0 < x.2.1.length:=lok.some x (by simp)
  obtain ⟨gv,eg,pg⟩:=hN6.gates
  obtain ⟨⟨gn,gr⟩,gs,hxg⟩:∃ y ys,x.2.1 = y :: ys:=by
   cases h:x.2.1 with
   | nil=>rw [h] at hne; simp at hne
   | cons y ys=>exact ⟨y,ys,rfl⟩
  rw [hxg] at pg
  obtain ⟨gv0,gvs,rfl⟩:∃ y ys,gv = y :: ys:=by cases pg; exact ⟨_,_,rfl⟩
  obtain ⟨pg0,pgs⟩:GateN (fun r=>r ≠ g /\ r ≠ w /\ r ≠ hl) H6 (gn,gr) gv0 /\ Paired (GateN (fun r=>r ≠ g /\ r ≠ w /\ r ≠ hl) H6) gs gvs:=by cases pg with | cons a b=>exact ⟨a,b⟩
  obtain ⟨gt,gra,rfl,ngr,egt,hRg⟩:=pg0
  have hll:=lok.len
  have hvl:=pa.length
  rw [List.length_append,List.length_singleton] at hll
  obtain ⟨gru,egr,pgr⟩:=hRg
  have hgrl:=lok.one x (by simp) (gn,gr) (by rw [hxg]; exact List.mem_cons_self)
  have s16:=s15.trans s6
  refine ⟨_,.ref tx',.inl (SqL.of (s6 _ _ eh)),?_,_,_,.inr (SqT.of (s6 _ _ etx)),rfl,?_⟩
  ·rw [show (2 + (r1:Int) - 1) = ((1 + r1:Nat):Int) by omega]
   exact atI_nat (by rw [List.getElem?_append_right (by omega),show 1 + r1 - vs'.length = 0 by omega]; rfl)
  walk_at "rd"
  have etq:=hN6.tup
  have at0:atI (V.ref gt :: gvs) 0 = some (V.ref gt):=atI_nat (j:=0) rfl
  refine ⟨_,_,.inr (SqT.of etq),rfl,_,.ref gt,.inl (SqL.of eg),at0,_,_,.inr (SqT.of egt),rfl,_,_,.inr (SqT.of etq),rfl,_,.ref gt,.inl (SqL.of eg),at0,_,_,.inr (SqT.of egt),rfl,?_⟩
  walk_at "rd"
  refine ⟨gru,us,egr,e6,?_,fun R2 hR2=>⟨by decide,fun t2 ht2=>?_⟩⟩
  ·have:=pgr.length
   have:=pr6.length
   exact Nat.le_of_lt (sizeBig (by omega))
  have s7:=same_new hR2 (.lst (gru ++ us))
  have s8:=same_new ht2 (.tup [tx gn,V.ref R2])
  have s68:=s7.trans s8
  have eg8:=s68 _ _ eg
  refine ⟨_,_,.inr (SqT.of (s68 _ _ etq)),rfl,?_⟩
  walk_at "rd"
  refine ⟨_,0,eg8,by unfold ixN; rw [if_pos (by decide),if_pos (by rw [List.length_cons]; omega)]; rfl,?_⟩
  have s48:=s5.trans (s6.trans s68)
  have s49:Same H4 (upd (upd (upd H6 R2 (.lst (gru ++ us))) t2 (.tup [tx gn,V.ref R2])) g (.lst ((V.ref gt :: gvs).set 0 (V.ref t2)))):=same_upd s48 fg
  have kt:∀ t ts,upd (upd H6 R2 (.lst (gru ++ us))) t2 (.tup [tx gn,V.ref R2]) t = some (.tup ts) -> upd (upd (upd H6 R2 (.lst (gru ++ us))) t2 (.tup [tx gn,V.ref R2])) g (.lst ((V.ref gt :: gvs).set 0 (V.ref t2))) t = some (.tup ts):=keep_lst eg8
  have kn:∀ b o,b ≠ g -> H6 b = some o -> upd (upd (upd H6 R2 (.lst (gru ++ us))) t2 (.tup [tx gn,V.ref R2])) g (.lst ((V.ref gt :: gvs).set 0 (V.ref t2))) b = some o:=fun b o n e=>by rw [upd_ne n]; exact s68 _ _ e
  have kt6:∀ t ts,H6 t = some (.tup ts) -> upd (upd (upd H6 R2 (.lst (gru ++ us))) t2 (.tup [tx gn,V.ref R2])) g (.lst ((V.ref gt :: gvs).set 0 (V.ref t2))) t = some (.tup ts):=fun t ts e=>kt _ _ (s68 _ _ e)
  have nRg:R2 ≠ g:=fun z=>by rw [z,eg] at hR2; cases hR2
  have er2:upd (upd (upd H6 R2 (.lst (gru ++ us))) t2 (.tup [tx gn,V.ref R2])) g (.lst ((V.ref gt :: gvs).set 0 (V.ref t2))) R2 = some (.lst (gru ++ us)):=by rw [upd_ne nRg]; exact s8 _ _ upd_same
  have et2:=kt t2 _ upd_same
  have eg9:upd (upd (upd H6 R2 (.lst (gru ++ us))) t2 (.tup [tx gn,V.ref R2])) g (.lst ((V.ref gt :: gvs).set 0 (V.ref t2))) g = some (.lst (V.ref t2 :: gvs)):=upd_same
  have eh9:=kn _ _ (Ne.symm ngl) (s6 _ _ eh)
  generalize upd (upd (upd H6 R2 (.lst (gru ++ us))) t2 (.tup [tx gn,V.ref R2])) g (.lst ((V.ref gt :: gvs).set 0 (V.ref t2))) = H9 at *
  have pair_app:∀ {l1 l2:List Rule} {v1 v2:List V},Paired (RuleAt H6) l1 v1 -> Paired (RuleAt H6) l2 v2 -> Paired (RuleAt H6) (l1 ++ l2) (v1 ++ v2):=fun p1 p2=>by
   induction p1 with
   | nil=>exact p2
   | cons r _ ih=>exact .cons r ih
  have hH9:Houses H9 hl (hs' ++ [(x.1,((gn,gr ++ rs) :: gs,x.2.2))]):=by
   refine ⟨_,eh9,paired_snoc (L2.Paired.mapP pa fun _ _ z=>namedP_at (namedP_imp (F':=fun _=>True) (fun b o n e=>kn _ _ n.2 (s6 _ _ e)) (fun t ts e=>kt6 _ _ (s6 _ _ e)) (fun _ _ _ _=>trivial) z)) ⟨tx',qx,rfl,kt6 _ _ (s6 _ _ etx),⟨g,w,kt6 _ _ etq,⟨_,eg9,.cons ⟨t2,R2,rfl,et2,⟨_,er2,rules_keep kt6 (pair_app pgr pr6)⟩⟩ (L2.Paired.mapP pgs ?_)⟩,?_⟩⟩⟩
   ·rintro y v ⟨t',r,rfl,n,h1,⟨rv,er,pr⟩⟩
    exact ⟨t',r,rfl,kt6 _ _ h1,⟨rv,kn _ _ n.1 er,rules_keep kt6 pr⟩⟩
   ·obtain ⟨wv,ew,pw⟩:=hN6.ways
    exact ⟨wv,kn _ _ (Ne.symm hN6.ne) ew,ways_keep kt6 pw⟩
  have s19:=s14.trans s49
  have hlx:(x.1,((gn,gr ++ rs) :: gs,x.2.2)).1 = x.1:=rfl
  have hnames:((hs' ++ [(x.1,((gn,gr ++ rs) :: gs,x.2.2))]).map (·.1)).Nodup:=by
   have h1:((hs' ++ [x]).map (fun x=>x.1.head?)).Nodup:=by
    rw [lok.name]
    refine List.pairwise_map.mpr (List.Pairwise.imp_of_mem ?_ List.nodup_range)
    intro a b ha hb hab e
    have ha:=List.mem_range.mp ha
    have hb:=List.mem_range.mp hb
    have e':=Option.some.inj e
    omega
   have h2:((hs' ++ [(x.1,((gn,gr ++ rs) :: gs,x.2.2))]).map (·.1)) = (hs' ++ [x]).map (·.1):=by rw [List.map_append,List.map_append]; rfl
   rw [h2]
   have h3:(((hs' ++ [x]).map (·.1)).map List.head?).Nodup:=by rw [List.map_map]; exact h1
   exact List.Pairwise.imp (fun {a b} h z=>h (by rw [z])) (List.pairwise_map.mp h3)
  have ml:∀ {P:Named -> Prop},(∀ y ∈ hs' ++ [x],P y) -> (P x -> P (x.1,((gn,gr ++ rs) :: gs,x.2.2))) -> ∀ y ∈ hs' ++ [(x.1,((gn,gr ++ rs) :: gs,x.2.2))],P y:=fun h1 h2 y hy=>by
   rcases List.mem_append.mp hy with z | z
   ·exact h1 y (List.mem_append.mpr (.inl z))
   ·rw [List.mem_singleton.mp z]; exact h2 (h1 x (by simp))
  have hdn:((gn,gr ++ rs) :: gs).map (·.1) = x.2.1.map (·.1):=by rw [hxg]; rfl
  have hhouse:=ml (P:=fun y=>HouseOk5 W (fb - fa) y.2) lok.house fun z=>by
   refine ⟨?_,?_,fun y hy=>?_,fun y hy=>?_,?_,z.w8⟩
   ·show (((gn,gr ++ rs) :: gs).map (·.1)).Nodup
    rw [hdn]
    exact z.nd
   ·have:=z.g3
    rw [hxg] at this
    exact this
   ·rcases List.mem_cons.mp hy with rfl | hy
    ·intro r hr
     rcases List.mem_append.mp hr with h | h
     ·exact z.rules (gn,gr) (by rw [hxg]; exact List.mem_cons_self) r h
     ·exact hrok r h
    ·exact z.rules y (by rw [hxg]; exact List.mem_cons_of_mem _ hy)
   ·rcases List.mem_cons.mp hy with rfl | hy
    ·show (gr ++ rs).length <= 300
     rw [List.length_append]
     have:gr.length = 1:=hgrl
     omega
    ·exact z.many y (by rw [hxg]; exact List.mem_cons_of_mem _ hy)
   ·show WaysOk _ (((gn,gr ++ rs) :: gs).map (·.1)) _
    rw [hdn]
    exact z.ways
  have hdoor:=ml (P:=fun y=>∀ g ∈ y.2.1,g.1 ∈ pl) lok.door fun z y hy=>by
   rcases List.mem_cons.mp hy with rfl | hy
   ·exact z (gn,gr) (by rw [hxg]; exact List.mem_cons_self)
   ·exact z y (by rw [hxg]; exact List.mem_cons_of_mem _ hy)
  have hlow:=ml (P:=fun y=>Low y.1 /\ y.1.length <= 1000) lok.low fun z=>z
  have hhl9:(hs' ++ [(x.1,((gn,gr ++ rs) :: gs,x.2.2))]).length = 2 + r1:=by rw [List.length_append,List.length_singleton]; exact hll
  generalize hs' ++ [(x.1,((gn,gr ++ rs) :: gs,x.2.2))] = hF at *
  have snd:=spots_nd (hs:=hF) hnames fun y hy=>(hhouse y hy).nd
  have slen:=spots_len (hs:=hF) (c:=8) fun y hy=>(hhouse y hy).g3
  refine ⟨hF,hH9,by omega,fun y hy=>Nat.le_trans (hhouse y hy).g3 (by decide),fun sq H10 hsq s10 hWs=>?_⟩
  have s1A:=s19.trans s10
  refine ⟨ns,spotsOf hF,s1A.seq hS,hWs,by omega,snd,fun c H11 lns hc s11 hLn en1 en2 en3=>⟨by decide,fun q7 hq7=>?_⟩⟩
  have s12':=same_new hq7 (.tup [V.ref p,V.ref hl,V.ref c])
  have s912:=s10.trans (s11.trans s12')
  refine q q7 _ (ls,hF,lns) ((s1A.trans s11).free hq7) (s19.trans s912) ⟨p,hl,c,upd_same,hL4.same (s49.trans s912),hH9.same s912,hLn.same s12'⟩ ⟨ok,hnames,hlow,fun y hy=>?_,fun y hy g hg=>?_,by show hF.length <= 100; omega,en1,en2,en3⟩ ?_
  ·show HouseOk5 (widthL ls) ((spanG ls).2 - (spanG ls).1) y.2
   rw [eG,eW]
   exact hhouse y hy
  ·have hm:=hdoor y hy g hg
   exact ⟨N.low _ hm,Nat.le_trans (N.short _ hm).2 (by decide)⟩
  ·show widthL ls = _
   rw [eW]
   exact hwf
noncomputable def namedD (x:Named):D:=.t [.f (tx x.1),houseD x.2]
noncomputable def lineD (x:Line):D:=.t [wayD x.1,wayD x.2]
noncomputable def netD (N:Net):D:=.t [layD N.1,.l (N.2.1.map namedD),.l (N.2.2.map lineD)]
theorem line_th {H:Hp} {x:Line} {v:V} (n:Nat) (h:LineAt H x v):Th H (n + 2) v (lineD x):=by
 obtain ⟨t,u1,u2,rfl,e,h1,h2⟩:=h
 exact mk_t e (by simp) (.cons (way_th n h1) (.cons (way_th n h2) .nil))
theorem line_back {H:Hp} {x:Line} {v:V} {n:Nat} (h:Th H (n + 2) v (lineD x)):LineAt H x v:=by
 obtain ⟨a,vs,rfl,e,p⟩:=th_t h
 cases p with
 | cons r p=>cases p with
  | cons r2 p=>
   cases p
   exact ⟨a,_,_,rfl,e,way_back r,way_back r2⟩
theorem named_back {H:Hp} {x:Named} {v:V} {n:Nat} (h:Th H (n + 6) v (namedD x)):NamedAt H x v:=by
 obtain ⟨a,vs,rfl,e,p⟩:=th_t h
 cases p with
 | cons r p=>cases p with
  | cons r2 p=>
   cases p
   obtain ⟨q,rfl,hq⟩:=house_back r2
   rw [th_of r] at e
   exact ⟨a,q,rfl,e,hq⟩
theorem houses_th {H:Hp} {p:Addr} {hs:List Named} (h:Houses H p hs) (hl:hs.length <= 1000) (h1:∀ x ∈ hs,x.2.1.length <= 1000 /\ x.2.2.length <= 1000 /\ ∀ g ∈ x.2.1,g.2.length <= 1000):Th H 7 (.ref p) (.l (hs.map namedD)):=by
 obtain ⟨vs,e,pr⟩:=h
 refine mk_l e (by rw [<- pr.length]; exact hl) ?_
 clear e hl
 induction pr with
 | nil=>exact .nil
 | cons r p ih=>
  refine .cons ?_ (ih fun x hx=>h1 x (List.mem_cons_of_mem _ hx))
  obtain ⟨t',q,rfl,e,hq⟩:=r
  have:=h1 _ List.mem_cons_self
  exact mk_t e (by simp) (.cons (th_flat 5 rfl) (.cons (house_th 0 hq this.1 this.2.1 this.2.2) .nil))
theorem lines_th {H:Hp} {p:Addr} {ls:List Line} (h:Lines H p ls) (hl:ls.length <= 1000):Th H 7 (.ref p) (.l (ls.map lineD)):=by
 obtain ⟨vs,e,pr⟩:=h
 exact mk_l e (by rw [<- pr.length]; exact hl) (paired_flip (fun x v z=>line_th 4 z) pr)
theorem net_th {H:Hp} {q:Addr} {N:Net} (h:NetAt H q N) (ok:NetOk N):Th H 8 (.ref q) (netD N):=by
 obtain ⟨a,b,c,e,h1,h2,h3⟩:=h
 have:=ok.lay.len
 have:=ok.h100
 have:=ok.l500
 refine mk_t e (by simp) (.cons (lay_th 5 h1 (by omega)) (.cons (houses_th h2 (by omega) fun x hx=>?_) (.cons (lines_th h3 (by omega)) .nil)))
 have k:=ok.house x hx
 exact ⟨Nat.le_trans k.g3 (by decide),Nat.le_trans k.w8 (by decide),fun g hg=>Nat.le_trans (k.many g hg) (by decide)⟩
theorem net_back {H:Hp} {v:V} {N:Net} (h:Th H 8 v (netD N)):∃ q,v = .ref q /\ NetAt H q N:=by
 obtain ⟨a,vs,rfl,e,p⟩:=th_t h
 cases p with
 | cons r p=>cases p with
  | cons r2 p=>cases p with
   | cons r3 p=>
    cases p
    obtain ⟨p1,rfl,k1⟩:=lay_back r
    obtain ⟨p2,v2,rfl,e2,k2⟩:=th_l r2
    obtain ⟨p3,v3,rfl,e3,k3⟩:=th_l r3
    exact ⟨a,rfl,p1,p2,p3,e,k1,⟨v2,e2,paired_back (F:=NamedAt H) (fun x v z=>named_back z) k2⟩,⟨v3,e3,paired_back (F:=LineAt H) (fun x v z=>line_back z) k3⟩⟩
noncomputable def sp_law (K:Frag):Sp:=fun vs H Q _=>match vs with
 | [.ref a]=>∃ ns:List Int,SqL K H a (ns.map V.int) /\ ns.length <= 63 /\ ∀ H',Q (.bl true) H'
 | _=>False
theorem ok_law (T:Top K mg) {f:Addr} {fd:FuncData} (F:Fun K "law" "law" s_law f fd):FnOk P w K mg base CX0 12 f fd ["_law_script"] (sp_law K):=by
 refine F.ok sc_law (by intro vs H Q E h; unfold sp_law at h; split at h <;> first | rfl | exact h.elim) (fun cdv A outer s H vs Q E hr h=>?_)
 unfold sp_law at h
 split at h
 case h_2=>exact h.elim
 refine ⟨_,(pss_cons (ps_set (i:=1) sc_law.nd rfl lc (pe_fn (ok__law_told T) hr.m rfl (pa_cons (qv 0) (pa_cons (pe_fn (ok__law_layout T) hr.m rfl (pa_cons (qv 0) pa_nil)) pa_nil))))
   (pss_cons (ps_set (i:=2) sc_law.nd rfl lc (pe_fn (ok__law_draw T) hr.m rfl (pa_cons (qv 0) (pa_cons pe_int (pa_cons pe_int pa_nil)))))
   (pss_cons (ps_set (i:=3) sc_law.nd rfl lc (pe_fn (ok__law_net T) hr.m rfl (pa_cons (qv 0) (pa_cons (qv 1) (pa_cons pe_int pa_nil)))))
   (pss_join (ps_if (qt_cmp op_ltK (qv 2) pe_int) (pss_one (ps_set (i:=3) sc_law.nd rfl lc (pe_fn (ok__law_large T) hr.m rfl (pa_cons (qv 0) (pa_cons (qv 1) pa_nil))))) pss_nil)
   (pss_join (ps_if (qt_cmp op_eqK (qv 2) pe_int) (pss_one (ps_set (i:=3) sc_law.nd rfl lc (pe_tup (pa_cons (pe_ix (ixE K rfl) (qv 3) pe_int (fun _ _=>rfl)) (pa_cons (pe_lst pa_nil) (pa_cons (pe_lst pa_nil) pa_nil)))))) pss_nil)
   (pss_cons (ps_set (i:=4) sc_law.nd rfl lc (pe_fn (ok__law_copy T) hr.m rfl (pa_cons (qv 3) pa_nil)))
   (pss_cons (ps_set (i:=5) sc_law.nd rfl lc (pe_lst pa_nil))
   (pss_cons (qs_for PassesOwn.never rfl (qi_range1 rfl T.b_range pe_int) (pg_name (i:=6) sc_law.nd rfl lc) (pss_cons (ps_set (i:=7) sc_law.nd rfl lc pe_non)
   (pss_join (ps_tryN (pss_one (ps_set (i:=7) sc_law.nd rfl lc (pe_fn (ok_net_checked T).calm hr.m rfl (pa_cons (qv 4) pa_nil)))))
   (pss_one (ps_expr (qe_append (qv 5) (qv 7)))))))
   (pss_one (ps_ret (qe_and (pe_fn (ok__law_same T) hr.m rfl (pa_cons (qv 5) (pa_cons (pe_lst (pa_cons pe_bl (pa_cons pe_bl pa_nil))) pa_nil))) (pe_one (pe_fn (ok__law_same T) hr.m rfl (pa_cons (qv 4) (pa_cons (qv 3) pa_nil))))))))))))))),?_⟩
 rename_i a
 obtain ⟨ns,hS,_,q⟩:=h
 walk_at "rd"
 refine ⟨ns,hS,fun p H1 ls hp s1 hL ok hwf=>?_⟩
 walk_at "rd"
 refine ⟨ns,ls,s1.seq hS,hL,ok,fun td H2 ps htd s2 e2 tok=>?_⟩
 have s12:=s1.trans s2
 rw [hwf] at tok
 walk_at "rd"
 refine draw_to (s12.seq hS) (by decide) (by decide) (by decide) (by decide) fun r1 hr1=>?_
 walk_at "rd"
 refine ⟨ns,ps,4,s12.seq hS,SqL.of e2,tok,rfl,by decide,by decide,fun n0 H3 N hn0 s3 hN nok hNw=>?_⟩
 have s13:=s12.trans s3
 walk_at "rd"
 refine ⟨fun σ' H'=>∃ (q1:Addr) (N:Net),σ' = [some (.ref a),some (.ref td),some (nV r1),some (.ref q1),none,none,none,none] /\ Same H2 H' /\ NetAt H' q1 N /\ NetOk N,?_,?_⟩
 ·refine ite2 (fun _=>?_) fun _=>⟨n0,N,rfl,s3,hN,nok⟩
  refine ⟨ns,ps,s13.seq hS,SqL.of (s3 _ _ e2),tok,fun q1 H4 N4 hq1 s4 hN4 nok4 _=>⟨q1,N4,rfl,s3.trans s4,hN4,nok4⟩⟩
 rintro σ' H4 ⟨q1,N1,rfl,s4,hN1,nok1⟩
 walk_at "rd"
 refine ⟨fun σ' H'=>∃ (q1:Addr) (N:Net),σ' = [some (.ref a),some (.ref td),some (nV r1),some (.ref q1),none,none,none,none] /\ NetAt H' q1 N /\ NetOk N,?_,?_⟩
 ·refine ite2 (fun _=>?_) fun _=>⟨q1,N1,rfl,hN1,nok1⟩
  obtain ⟨pa,pb,pc,e,k1,k2,k3⟩:=hN1
  refine ⟨_,_,.inr (SqT.of e),rfl,?_⟩
  walk_at "rd"
  refine ⟨Nat.zero_le _,fun p1 hp1=>⟨Nat.zero_le _,fun p2 hp2=>⟨by decide,fun p3 hp3=>⟨p3,(N1.1,[],[]),rfl,?_,?_⟩⟩⟩⟩
  ·have t1:=same_new hp1 (.lst [])
   have t2:=same_new hp2 (.lst [])
   have t3:=same_new hp3 (.tup [V.ref pa,V.ref p1,V.ref p2])
   exact ⟨pa,p1,p2,upd_same,k1.same (t1.trans (t2.trans t3)),⟨[],t3 _ _ (t2 _ _ upd_same),.nil⟩,⟨[],t3 _ _ upd_same,.nil⟩⟩
  ·exact ⟨nok1.lay,.nil,fun x hx=>by simp at hx,fun x hx=>by simp at hx,fun x hx=>by simp at hx,Nat.zero_le _,.nil,fun x hx=>by simp [endsOf] at hx,Nat.zero_le _⟩
 rintro σ' H5 ⟨q5,N5,rfl,hN5,nok5⟩
 walk_at "rd"
 have th5:=net_th hN5 nok5
 refine ⟨8,netD N5,by decide,th5,fun hd H6 s6 thd=>⟨Nat.zero_le _,fun fl hfl=>?_⟩⟩
 have thd':=thN_th 8 thd
 obtain ⟨hq,rfl,hN6⟩:=net_back thd'
 refine loop_range (lo:=0) (n:=2) (fun i σ H'=>∃ (u6 u7:Option V),σ = [some (.ref a),some (.ref td),some (nV r1),some (.ref q5),some (.ref hq),some (.ref fl),u6,u7] /\ Same H6 H' /\ H' fl = some (.lst (List.replicate i (V.bl true)))) ⟨none,none,rfl,same_new hfl _,upd_same⟩ ?_ ?_
 ·rintro i σ H7 hi ⟨u6,u7,rfl,s7,ef⟩
  walk_at "rd"
  refine ⟨fun σ' H'=>σ' = [some (.ref a),some (.ref td),some (nV r1),some (.ref q5),some (.ref hq),some (.ref fl),some (nV i),some (V.bl true)] /\ Same H7 H',?_,?_⟩
  ·exact ⟨N5,hN6.same s7,nok5,fun H8 s8=>⟨rfl,s8⟩⟩
  ·rintro σ' H8 ⟨rfl,s8⟩
   walk_at "rd"
   refine ⟨⟨_,s8 _ _ ef⟩,_,s8 _ _ ef,sizeBig (by rw [List.length_replicate]; omega),_,_,rfl,same_upd (s7.trans s8) hfl,?_⟩
   rw [upd_same,<- List.replicate_succ',List.replicate_succ]
 ·rintro σ H7 ⟨u6,u7,rfl,s7,ef⟩
  walk_at "rd"
  refine ⟨by decide,fun p1 hp1=>?_⟩
  have s8:=same_new hp1 (.lst [V.bl true,V.bl true])
  have tb:∀ {H:Hp} {v:Addr},H v = some (.lst [V.bl true,V.bl true]) -> Th H 1 (.ref v) (.l [.f (.bl true),.f (.bl true)]):=fun e=>mk_l e (by simp) (.cons (th_flat 0 rfl) (.cons (th_flat 0 rfl) .nil))
  refine ⟨1,_,by decide,tb (s8 _ _ ef),tb upd_same,fun H8 s9=>?_⟩
  walk_at "rd"
  have sA:=s7.trans (s8.trans s9)
  exact ⟨8,netD N5,by decide,th_same sA 8 thd',th_same (s6.trans sA) 8 th5,fun H10 _=>q H10⟩
end
theorem all_mk {K:Frag} {h:Heap} {mg:Str -> Option Value} (X:K.In h) (G:h.Ns mainGlobals mg)
  {f0:Addr} {od0 an0:Option Addr} {sl0:Array (Option Value)} {oc0 kV0 dc0 pm0 cd0 ct0:Value}
  {f1:Addr} {od1 an1:Option Addr} {sl1:Array (Option Value)} {oc1 kV1 dc1 pm1 cd1 ct1:Value}
  {f2:Addr} {od2 an2:Option Addr} {sl2:Array (Option Value)} {oc2 kV2 dc2 pm2 cd2 ct2:Value}
  {f3:Addr} {od3 an3:Option Addr} {sl3:Array (Option Value)} {oc3 kV3 dc3 pm3 cd3 ct3:Value}
  {f4:Addr} {od4 an4:Option Addr} {sl4:Array (Option Value)} {oc4 kV4 dc4 pm4 cd4 ct4:Value}
  {f5:Addr} {od5 an5:Option Addr} {sl5:Array (Option Value)} {oc5 kV5 dc5 pm5 cd5 ct5:Value}
  {f6:Addr} {od6 an6:Option Addr} {sl6:Array (Option Value)} {oc6 kV6 dc6 pm6 cd6 ct6:Value}
  {f7:Addr} {od7 an7:Option Addr} {sl7:Array (Option Value)} {oc7 kV7 dc7 pm7 cd7 ct7:Value}
  {f8:Addr} {od8 an8:Option Addr} {sl8:Array (Option Value)} {oc8 kV8 dc8 pm8 cd8 ct8:Value}
  {f9:Addr} {od9 an9:Option Addr} {sl9:Array (Option Value)} {oc9 kV9 dc9 pm9 cd9 ct9:Value}
  {f10:Addr} {od10 an10:Option Addr} {sl10:Array (Option Value)} {oc10 kV10 dc10 pm10 cd10 ct10:Value}
  {f11:Addr} {od11 an11:Option Addr} {sl11:Array (Option Value)} {oc11 kV11 dc11 pm11 cd11 ct11:Value}
  {f12:Addr} {od12 an12:Option Addr} {sl12:Array (Option Value)} {oc12 kV12 dc12 pm12 cd12 ct12:Value}
  {f13:Addr} {od13 an13:Option Addr} {sl13:Array (Option Value)} {oc13 kV13 dc13 pm13 cd13 ct13:Value}
  {f14:Addr} {od14 an14:Option Addr} {sl14:Array (Option Value)} {oc14 kV14 dc14 pm14 cd14 ct14:Value}
  {f15:Addr} {od15 an15:Option Addr} {sl15:Array (Option Value)} {oc15 kV15 dc15 pm15 cd15 ct15:Value}
  {f16:Addr} {od16 an16:Option Addr} {sl16:Array (Option Value)} {oc16 kV16 dc16 pm16 cd16 ct16:Value}
  {f17:Addr} {od17 an17:Option Addr} {sl17:Array (Option Value)} {oc17 kV17 dc17 pm17 cd17 ct17:Value}
  {f18:Addr} {od18 an18:Option Addr} {sl18:Array (Option Value)} {oc18 kV18 dc18 pm18 cd18 ct18:Value}
  {f19:Addr} {od19 an19:Option Addr} {sl19:Array (Option Value)} {oc19 kV19 dc19 pm19 cd19 ct19:Value}
  {f20:Addr} {od20 an20:Option Addr} {sl20:Array (Option Value)} {oc20 kV20 dc20 pm20 cd20 ct20:Value}
  {f21:Addr} {od21 an21:Option Addr} {sl21:Array (Option Value)} {oc21 kV21 dc21 pm21 cd21 ct21:Value}
  {f22:Addr} {od22 an22:Option Addr} {sl22:Array (Option Value)} {oc22 kV22 dc22 pm22 cd22 ct22:Value}
  {f23:Addr} {od23 an23:Option Addr} {sl23:Array (Option Value)} {oc23 kV23 dc23 pm23 cd23 ct23:Value}
  {f24:Addr} {od24 an24:Option Addr} {sl24:Array (Option Value)} {oc24 kV24 dc24 pm24 cd24 ct24:Value}
  {f25:Addr} {od25 an25:Option Addr} {sl25:Array (Option Value)} {oc25 kV25 dc25 pm25 cd25 ct25:Value}
  {f26:Addr} {od26 an26:Option Addr} {sl26:Array (Option Value)} {oc26 kV26 dc26 pm26 cd26 ct26:Value}
  {f27:Addr} {od27 an27:Option Addr} {sl27:Array (Option Value)} {oc27 kV27 dc27 pm27 cd27 ct27:Value}
  {f28:Addr} {od28 an28:Option Addr} {sl28:Array (Option Value)} {oc28 kV28 dc28 pm28 cd28 ct28:Value}
  {f29:Addr} {od29 an29:Option Addr} {sl29:Array (Option Value)} {oc29 kV29 dc29 pm29 cd29 ct29:Value}
  {f30:Addr} {od30 an30:Option Addr} {sl30:Array (Option Value)} {oc30 kV30 dc30 pm30 cd30 ct30:Value}
  {f31:Addr} {od31 an31:Option Addr} {sl31:Array (Option Value)} {oc31 kV31 dc31 pm31 cd31 ct31:Value}
  {f32:Addr} {od32 an32:Option Addr} {sl32:Array (Option Value)} {oc32 kV32 dc32 pm32 cd32 ct32:Value}
  {f33:Addr} {od33 an33:Option Addr} {sl33:Array (Option Value)} {oc33 kV33 dc33 pm33 cd33 ct33:Value}
  {f34:Addr} {od34 an34:Option Addr} {sl34:Array (Option Value)} {oc34 kV34 dc34 pm34 cd34 ct34:Value}
  {f35:Addr} {od35 an35:Option Addr} {sl35:Array (Option Value)} {oc35 kV35 dc35 pm35 cd35 ct35:Value}
  (a0:nsIn K mainGlobals "is_row" = some (some (.ref f0))) (l0:K.lookup f0 = some ⟨oc0,od0,.func (fnOf "is_row" "is_row" (defArgs s_is_row) (defBody s_is_row) (defScope s_is_row) .none kV0 dc0 pm0 an0 cd0 ct0),sl0⟩) (c0:codeIn K cd0 "is_row" = true) (k0:keepIn K (.ref f0) = true)
  (a1:nsIn K mainGlobals "is_letter" = some (some (.ref f1))) (l1:K.lookup f1 = some ⟨oc1,od1,.func (fnOf "is_letter" "is_letter" (defArgs s_is_letter) (defBody s_is_letter) (defScope s_is_letter) .none kV1 dc1 pm1 an1 cd1 ct1),sl1⟩) (c1:codeIn K cd1 "is_letter" = true) (k1:keepIn K (.ref f1) = true)
  (a2:nsIn K mainGlobals "is_text_of" = some (some (.ref f2))) (l2:K.lookup f2 = some ⟨oc2,od2,.func (fnOf "is_text_of" "is_text_of" (defArgs s_is_text_of) (defBody s_is_text_of) (defScope s_is_text_of) .none kV2 dc2 pm2 an2 cd2 ct2),sl2⟩) (c2:codeIn K cd2 "is_text_of" = true) (k2:keepIn K (.ref f2) = true)
  (a3:nsIn K mainGlobals "layout_width" = some (some (.ref f3))) (l3:K.lookup f3 = some ⟨oc3,od3,.func (fnOf "layout_width" "layout_width" (defArgs s_layout_width) (defBody s_layout_width) (defScope s_layout_width) .none kV3 dc3 pm3 an3 cd3 ct3),sl3⟩) (c3:codeIn K cd3 "layout_width" = true) (k3:keepIn K (.ref f3) = true)
  (a4:nsIn K mainGlobals "field_span" = some (some (.ref f4))) (l4:K.lookup f4 = some ⟨oc4,od4,.func (fnOf "field_span" "field_span" (defArgs s_field_span) (defBody s_field_span) (defScope s_field_span) .none kV4 dc4 pm4 an4 cd4 ct4),sl4⟩) (c4:codeIn K cd4 "field_span" = true) (k4:keepIn K (.ref f4) = true)
  (a5:nsIn K mainGlobals "is_beginning" = some (some (.ref f5))) (l5:K.lookup f5 = some ⟨oc5,od5,.func (fnOf "is_beginning" "is_beginning" (defArgs s_is_beginning) (defBody s_is_beginning) (defScope s_is_beginning) .none kV5 dc5 pm5 an5 cd5 ct5),sl5⟩) (c5:codeIn K cd5 "is_beginning" = true) (k5:keepIn K (.ref f5) = true)
  (a6:nsIn K mainGlobals "gate_rules" = some (some (.ref f6))) (l6:K.lookup f6 = some ⟨oc6,od6,.func (fnOf "gate_rules" "gate_rules" (defArgs s_gate_rules) (defBody s_gate_rules) (defScope s_gate_rules) .none kV6 dc6 pm6 an6 cd6 ct6),sl6⟩) (c6:codeIn K cd6 "gate_rules" = true) (k6:keepIn K (.ref f6) = true)
  (a7:nsIn K mainGlobals "net_checked" = some (some (.ref f7))) (l7:K.lookup f7 = some ⟨oc7,od7,.func (fnOf "net_checked" "net_checked" (defArgs s_net_checked) (defBody s_net_checked) (defScope s_net_checked) .none kV7 dc7 pm7 an7 cd7 ct7),sl7⟩) (c7:codeIn K cd7 "net_checked" = true) (k7:keepIn K (.ref f7) = true)
  (a8:nsIn K mainGlobals "check_new" = some (some (.ref f8))) (l8:K.lookup f8 = some ⟨oc8,od8,.func (fnOf "check_new" "check_new" (defArgs s_check_new) (defBody s_check_new) (defScope s_check_new) .none kV8 dc8 pm8 an8 cd8 ct8),sl8⟩) (c8:codeIn K cd8 "check_new" = true) (k8:keepIn K (.ref f8) = true)
  (a9:nsIn K mainGlobals "check_layout" = some (some (.ref f9))) (l9:K.lookup f9 = some ⟨oc9,od9,.func (fnOf "check_layout" "check_layout" (defArgs s_check_layout) (defBody s_check_layout) (defScope s_check_layout) .none kV9 dc9 pm9 an9 cd9 ct9),sl9⟩) (c9:codeIn K cd9 "check_layout" = true) (k9:keepIn K (.ref f9) = true)
  (a10:nsIn K mainGlobals "check_houses" = some (some (.ref f10))) (l10:K.lookup f10 = some ⟨oc10,od10,.func (fnOf "check_houses" "check_houses" (defArgs s_check_houses) (defBody s_check_houses) (defScope s_check_houses) .none kV10 dc10 pm10 an10 cd10 ct10),sl10⟩) (c10:codeIn K cd10 "check_houses" = true) (k10:keepIn K (.ref f10) = true)
  (a11:nsIn K mainGlobals "check_gates" = some (some (.ref f11))) (l11:K.lookup f11 = some ⟨oc11,od11,.func (fnOf "check_gates" "check_gates" (defArgs s_check_gates) (defBody s_check_gates) (defScope s_check_gates) .none kV11 dc11 pm11 an11 cd11 ct11),sl11⟩) (c11:codeIn K cd11 "check_gates" = true) (k11:keepIn K (.ref f11) = true)
  (a12:nsIn K mainGlobals "check_rule" = some (some (.ref f12))) (l12:K.lookup f12 = some ⟨oc12,od12,.func (fnOf "check_rule" "check_rule" (defArgs s_check_rule) (defBody s_check_rule) (defScope s_check_rule) .none kV12 dc12 pm12 an12 cd12 ct12),sl12⟩) (c12:codeIn K cd12 "check_rule" = true) (k12:keepIn K (.ref f12) = true)
  (a13:nsIn K mainGlobals "check_ways" = some (some (.ref f13))) (l13:K.lookup f13 = some ⟨oc13,od13,.func (fnOf "check_ways" "check_ways" (defArgs s_check_ways) (defBody s_check_ways) (defScope s_check_ways) .none kV13 dc13 pm13 an13 cd13 ct13),sl13⟩) (c13:codeIn K cd13 "check_ways" = true) (k13:keepIn K (.ref f13) = true)
  (a14:nsIn K mainGlobals "check_way" = some (some (.ref f14))) (l14:K.lookup f14 = some ⟨oc14,od14,.func (fnOf "check_way" "check_way" (defArgs s_check_way) (defBody s_check_way) (defScope s_check_way) .none kV14 dc14 pm14 an14 cd14 ct14),sl14⟩) (c14:codeIn K cd14 "check_way" = true) (k14:keepIn K (.ref f14) = true)
  (a15:nsIn K mainGlobals "check_lines" = some (some (.ref f15))) (l15:K.lookup f15 = some ⟨oc15,od15,.func (fnOf "check_lines" "check_lines" (defArgs s_check_lines) (defBody s_check_lines) (defScope s_check_lines) .none kV15 dc15 pm15 an15 cd15 ct15),sl15⟩) (c15:codeIn K cd15 "check_lines" = true) (k15:keepIn K (.ref f15) = true)
  (a16:nsIn K mainGlobals "check_spot" = some (some (.ref f16))) (l16:K.lookup f16 = some ⟨oc16,od16,.func (fnOf "check_spot" "check_spot" (defArgs s_check_spot) (defBody s_check_spot) (defScope s_check_spot) .none kV16 dc16 pm16 an16 cd16 ct16),sl16⟩) (c16:codeIn K cd16 "check_spot" = true) (k16:keepIn K (.ref f16) = true)
  (a17:nsIn K mainGlobals "house_named" = some (some (.ref f17))) (l17:K.lookup f17 = some ⟨oc17,od17,.func (fnOf "house_named" "house_named" (defArgs s_house_named) (defBody s_house_named) (defScope s_house_named) .none kV17 dc17 pm17 an17 cd17 ct17),sl17⟩) (c17:codeIn K cd17 "house_named" = true) (k17:keepIn K (.ref f17) = true)
  (a18:nsIn K mainGlobals "_law_draw" = some (some (.ref f18))) (l18:K.lookup f18 = some ⟨oc18,od18,.func (fnOf "_law_draw" "_law_draw" (defArgs s__law_draw) (defBody s__law_draw) (defScope s__law_draw) .none kV18 dc18 pm18 an18 cd18 ct18),sl18⟩) (c18:codeIn K cd18 "_law_draw" = true) (k18:keepIn K (.ref f18) = true)
  (a19:nsIn K mainGlobals "_law_names" = some (some (.ref f19))) (l19:K.lookup f19 = some ⟨oc19,od19,.func (fnOf "_law_names" "_law_names" (defArgs s__law_names) (defBody s__law_names) (defScope s__law_names) .none kV19 dc19 pm19 an19 cd19 ct19),sl19⟩) (c19:codeIn K cd19 "_law_names" = true) (k19:keepIn K (.ref f19) = true)
  (a20:nsIn K mainGlobals "_law_layout" = some (some (.ref f20))) (l20:K.lookup f20 = some ⟨oc20,od20,.func (fnOf "_law_layout" "_law_layout" (defArgs s__law_layout) (defBody s__law_layout) (defScope s__law_layout) .none kV20 dc20 pm20 an20 cd20 ct20),sl20⟩) (c20:codeIn K cd20 "_law_layout" = true) (k20:keepIn K (.ref f20) = true)
  (a21:nsIn K mainGlobals "_law_width" = some (some (.ref f21))) (l21:K.lookup f21 = some ⟨oc21,od21,.func (fnOf "_law_width" "_law_width" (defArgs s__law_width) (defBody s__law_width) (defScope s__law_width) .none kV21 dc21 pm21 an21 cd21 ct21),sl21⟩) (c21:codeIn K cd21 "_law_width" = true) (k21:keepIn K (.ref f21) = true)
  (a22:nsIn K mainGlobals "_law_span" = some (some (.ref f22))) (l22:K.lookup f22 = some ⟨oc22,od22,.func (fnOf "_law_span" "_law_span" (defArgs s__law_span) (defBody s__law_span) (defScope s__law_span) .none kV22 dc22 pm22 an22 cd22 ct22),sl22⟩) (c22:codeIn K cd22 "_law_span" = true) (k22:keepIn K (.ref f22) = true)
  (a23:nsIn K mainGlobals "_law_told" = some (some (.ref f23))) (l23:K.lookup f23 = some ⟨oc23,od23,.func (fnOf "_law_told" "_law_told" (defArgs s__law_told) (defBody s__law_told) (defScope s__law_told) .none kV23 dc23 pm23 an23 cd23 ct23),sl23⟩) (c23:codeIn K cd23 "_law_told" = true) (k23:keepIn K (.ref f23) = true)
  (a24:nsIn K mainGlobals "_law_over_at" = some (some (.ref f24))) (l24:K.lookup f24 = some ⟨oc24,od24,.func (fnOf "_law_over_at" "_law_over_at" (defArgs s__law_over_at) (defBody s__law_over_at) (defScope s__law_over_at) .none kV24 dc24 pm24 an24 cd24 ct24),sl24⟩) (c24:codeIn K cd24 "_law_over_at" = true) (k24:keepIn K (.ref f24) = true)
  (a25:nsIn K mainGlobals "_law_signs" = some (some (.ref f25))) (l25:K.lookup f25 = some ⟨oc25,od25,.func (fnOf "_law_signs" "_law_signs" (defArgs s__law_signs) (defBody s__law_signs) (defScope s__law_signs) .none kV25 dc25 pm25 an25 cd25 ct25),sl25⟩) (c25:codeIn K cd25 "_law_signs" = true) (k25:keepIn K (.ref f25) = true)
  (a26:nsIn K mainGlobals "_law_rule" = some (some (.ref f26))) (l26:K.lookup f26 = some ⟨oc26,od26,.func (fnOf "_law_rule" "_law_rule" (defArgs s__law_rule) (defBody s__law_rule) (defScope s__law_rule) .none kV26 dc26 pm26 an26 cd26 ct26),sl26⟩) (c26:codeIn K cd26 "_law_rule" = true) (k26:keepIn K (.ref f26) = true)
  (a27:nsIn K mainGlobals "_law_ways" = some (some (.ref f27))) (l27:K.lookup f27 = some ⟨oc27,od27,.func (fnOf "_law_ways" "_law_ways" (defArgs s__law_ways) (defBody s__law_ways) (defScope s__law_ways) .none kV27 dc27 pm27 an27 cd27 ct27),sl27⟩) (c27:codeIn K cd27 "_law_ways" = true) (k27:keepIn K (.ref f27) = true)
  (a28:nsIn K mainGlobals "_law_house" = some (some (.ref f28))) (l28:K.lookup f28 = some ⟨oc28,od28,.func (fnOf "_law_house" "_law_house" (defArgs s__law_house) (defBody s__law_house) (defScope s__law_house) .none kV28 dc28 pm28 an28 cd28 ct28),sl28⟩) (c28:codeIn K cd28 "_law_house" = true) (k28:keepIn K (.ref f28) = true)
  (a29:nsIn K mainGlobals "_law_spots" = some (some (.ref f29))) (l29:K.lookup f29 = some ⟨oc29,od29,.func (fnOf "_law_spots" "_law_spots" (defArgs s__law_spots) (defBody s__law_spots) (defScope s__law_spots) .none kV29 dc29 pm29 an29 cd29 ct29),sl29⟩) (c29:codeIn K cd29 "_law_spots" = true) (k29:keepIn K (.ref f29) = true)
  (a30:nsIn K mainGlobals "_law_lines" = some (some (.ref f30))) (l30:K.lookup f30 = some ⟨oc30,od30,.func (fnOf "_law_lines" "_law_lines" (defArgs s__law_lines) (defBody s__law_lines) (defScope s__law_lines) .none kV30 dc30 pm30 an30 cd30 ct30),sl30⟩) (c30:codeIn K cd30 "_law_lines" = true) (k30:keepIn K (.ref f30) = true)
  (a31:nsIn K mainGlobals "_law_net" = some (some (.ref f31))) (l31:K.lookup f31 = some ⟨oc31,od31,.func (fnOf "_law_net" "_law_net" (defArgs s__law_net) (defBody s__law_net) (defScope s__law_net) .none kV31 dc31 pm31 an31 cd31 ct31),sl31⟩) (c31:codeIn K cd31 "_law_net" = true) (k31:keepIn K (.ref f31) = true)
  (a32:nsIn K mainGlobals "_law_same" = some (some (.ref f32))) (l32:K.lookup f32 = some ⟨oc32,od32,.func (fnOf "_law_same" "_law_same" (defArgs s__law_same) (defBody s__law_same) (defScope s__law_same) .none kV32 dc32 pm32 an32 cd32 ct32),sl32⟩) (c32:codeIn K cd32 "_law_same" = true) (k32:keepIn K (.ref f32) = true)
  (a33:nsIn K mainGlobals "_law_copy" = some (some (.ref f33))) (l33:K.lookup f33 = some ⟨oc33,od33,.func (fnOf "_law_copy" "_law_copy" (defArgs s__law_copy) (defBody s__law_copy) (defScope s__law_copy) .none kV33 dc33 pm33 an33 cd33 ct33),sl33⟩) (c33:codeIn K cd33 "_law_copy" = true) (k33:keepIn K (.ref f33) = true)
  (a34:nsIn K mainGlobals "_law_large" = some (some (.ref f34))) (l34:K.lookup f34 = some ⟨oc34,od34,.func (fnOf "_law_large" "_law_large" (defArgs s__law_large) (defBody s__law_large) (defScope s__law_large) .none kV34 dc34 pm34 an34 cd34 ct34),sl34⟩) (c34:codeIn K cd34 "_law_large" = true) (k34:keepIn K (.ref f34) = true)
  (a35:nsIn K mainGlobals "law" = some (some (.ref f35))) (l35:K.lookup f35 = some ⟨oc35,od35,.func (fnOf "law" "law" (defArgs s_law) (defBody s_law) (defScope s_law) .none kV35 dc35 pm35 an35 cd35 ct35),sl35⟩) (c35:codeIn K cd35 "law" = true) (k35:keepIn K (.ref f35) = true)
  (z_isinstance:nsIn K mainGlobals "isinstance" = some none)
  (z_str:nsIn K mainGlobals "str" = some none)
  (z_len:nsIn K mainGlobals "len" = some none)
  (z_sum:nsIn K mainGlobals "sum" = some none)
  (z_range:nsIn K mainGlobals "range" = some none)
  (z_list:nsIn K mainGlobals "list" = some none)
  (z_sorted:nsIn K mainGlobals "sorted" = some none)
  (z_set:nsIn K mainGlobals "set" = some none)
  (z_min:nsIn K mainGlobals "min" = some none)
  (z_max:nsIn K mainGlobals "max" = some none)
  (z_int:nsIn K mainGlobals "int" = some none)
  (z_tuple:nsIn K mainGlobals "tuple" = some none)
  (z_all:nsIn K mainGlobals "all" = some none)
  (z_bool:nsIn K mainGlobals "bool" = some none)
  (z_zip:nsIn K mainGlobals "zip" = some none)
  {U_WORDS:Addr} (n_WORDS:nsIn K mainGlobals "WORDS" = some (some (.ref U_WORDS))) (l_WORDS:txtsLook K ["pass", "drop"] U_WORDS = true)
  {C_NoField:Addr} (n_NoField:nsIn K mainGlobals "NoField" = some (some (.ref C_NoField))) (q_NoField:PySem.W.excIn K C_NoField bmV "ValueError.__new__" = true) (t_NoField:PySem.W.typeIn K (.ref C_NoField) = some (.type "type")) (b_NoField:PySem.W.mroIn K C_NoField (.type "BaseException") = some true) (g_NoField:findIn K (.ref C_NoField) "__getattribute__" = some (some (.builtin "BaseException.__getattribute__"))) (h_NoField:findIn K (.ref C_NoField) "__getattr__" = some none) (a_NoField:findIn K (.ref C_NoField) "__class__" = some (some (.builtin "object.__class__"))) (o_NoField:PySem.W.mroIn K C_NoField (.type "object") = some true)
  {C_NoDoor:Addr} (n_NoDoor:nsIn K mainGlobals "NoDoor" = some (some (.ref C_NoDoor))) (q_NoDoor:PySem.W.excIn K C_NoDoor bmV "ValueError.__new__" = true) (t_NoDoor:PySem.W.typeIn K (.ref C_NoDoor) = some (.type "type")) (b_NoDoor:PySem.W.mroIn K C_NoDoor (.type "BaseException") = some true) (g_NoDoor:findIn K (.ref C_NoDoor) "__getattribute__" = some (some (.builtin "BaseException.__getattribute__"))) (h_NoDoor:findIn K (.ref C_NoDoor) "__getattr__" = some none) (a_NoDoor:findIn K (.ref C_NoDoor) "__class__" = some (some (.builtin "object.__class__"))) (o_NoDoor:PySem.W.mroIn K C_NoDoor (.type "object") = some true)
  {C_NoHouse:Addr} (n_NoHouse:nsIn K mainGlobals "NoHouse" = some (some (.ref C_NoHouse))) (q_NoHouse:PySem.W.excIn K C_NoHouse bmV "ValueError.__new__" = true) (t_NoHouse:PySem.W.typeIn K (.ref C_NoHouse) = some (.type "type")) (b_NoHouse:PySem.W.mroIn K C_NoHouse (.type "BaseException") = some true) (g_NoHouse:findIn K (.ref C_NoHouse) "__getattribute__" = some (some (.builtin "BaseException.__getattribute__"))) (h_NoHouse:findIn K (.ref C_NoHouse) "__getattr__" = some none) (a_NoHouse:findIn K (.ref C_NoHouse) "__class__" = some (some (.builtin "object.__class__"))) (o_NoHouse:PySem.W.mroIn K C_NoHouse (.type "object") = some true)
  {C_Twice:Addr} (n_Twice:nsIn K mainGlobals "Twice" = some (some (.ref C_Twice))) (q_Twice:PySem.W.excIn K C_Twice bmV "ValueError.__new__" = true) (t_Twice:PySem.W.typeIn K (.ref C_Twice) = some (.type "type")) (b_Twice:PySem.W.mroIn K C_Twice (.type "BaseException") = some true) (g_Twice:findIn K (.ref C_Twice) "__getattribute__" = some (some (.builtin "BaseException.__getattribute__"))) (h_Twice:findIn K (.ref C_Twice) "__getattr__" = some none) (a_Twice:findIn K (.ref C_Twice) "__class__" = some (some (.builtin "object.__class__"))) (o_Twice:PySem.W.mroIn K C_Twice (.type "object") = some true)
  {C_Misfit:Addr} (n_Misfit:nsIn K mainGlobals "Misfit" = some (some (.ref C_Misfit))) (q_Misfit:PySem.W.excIn K C_Misfit bmV "ValueError.__new__" = true) (t_Misfit:PySem.W.typeIn K (.ref C_Misfit) = some (.type "type")) (b_Misfit:PySem.W.mroIn K C_Misfit (.type "BaseException") = some true) (g_Misfit:findIn K (.ref C_Misfit) "__getattribute__" = some (some (.builtin "BaseException.__getattribute__"))) (h_Misfit:findIn K (.ref C_Misfit) "__getattr__" = some none) (a_Misfit:findIn K (.ref C_Misfit) "__class__" = some (some (.builtin "object.__class__"))) (o_Misfit:PySem.W.mroIn K C_Misfit (.type "object") = some true)
  {C_BadWord:Addr} (n_BadWord:nsIn K mainGlobals "BadWord" = some (some (.ref C_BadWord))) (q_BadWord:PySem.W.excIn K C_BadWord bmV "ValueError.__new__" = true) (t_BadWord:PySem.W.typeIn K (.ref C_BadWord) = some (.type "type")) (b_BadWord:PySem.W.mroIn K C_BadWord (.type "BaseException") = some true) (g_BadWord:findIn K (.ref C_BadWord) "__getattribute__" = some (some (.builtin "BaseException.__getattribute__"))) (h_BadWord:findIn K (.ref C_BadWord) "__getattr__" = some none) (a_BadWord:findIn K (.ref C_BadWord) "__class__" = some (some (.builtin "object.__class__"))) (o_BadWord:PySem.W.mroIn K C_BadWord (.type "object") = some true)
  {C_ThrongError:Addr} (n_ThrongError:nsIn K mainGlobals "ThrongError" = some (some (.ref C_ThrongError))) (q_ThrongError:PySem.W.excIn K C_ThrongError bmV "ValueError.__new__" = true) (t_ThrongError:PySem.W.typeIn K (.ref C_ThrongError) = some (.type "type")) (b_ThrongError:PySem.W.mroIn K C_ThrongError (.type "BaseException") = some true) (g_ThrongError:findIn K (.ref C_ThrongError) "__getattribute__" = some (some (.builtin "BaseException.__getattribute__"))) (h_ThrongError:findIn K (.ref C_ThrongError) "__getattr__" = some none) (a_ThrongError:findIn K (.ref C_ThrongError) "__class__" = some (some (.builtin "object.__class__"))) (o_ThrongError:PySem.W.mroIn K C_ThrongError (.type "object") = some true)
  (sgt:PySem.W.specialIn K (.builtin "object.__class__") "__get__" = some (some (.builtin "getset_descriptor.__get__"))) (stk:PySem.W.takesIn K (.builtin "object.__class__") = some true)
  (v_NoField:PySem.W.mroIn K C_NoField (.type "ValueError") = some true)
  (m_NoField_ThrongError:PySem.W.mroIn K C_NoField (.ref C_ThrongError) = some true)
  (v_NoDoor:PySem.W.mroIn K C_NoDoor (.type "ValueError") = some true)
  (m_NoDoor_ThrongError:PySem.W.mroIn K C_NoDoor (.ref C_ThrongError) = some true)
  (v_NoHouse:PySem.W.mroIn K C_NoHouse (.type "ValueError") = some true)
  (m_NoHouse_ThrongError:PySem.W.mroIn K C_NoHouse (.ref C_ThrongError) = some true)
  (v_Twice:PySem.W.mroIn K C_Twice (.type "ValueError") = some true)
  (m_Twice_ThrongError:PySem.W.mroIn K C_Twice (.ref C_ThrongError) = some true)
  (v_Misfit:PySem.W.mroIn K C_Misfit (.type "ValueError") = some true)
  (m_Misfit_ThrongError:PySem.W.mroIn K C_Misfit (.ref C_ThrongError) = some true)
  (v_BadWord:PySem.W.mroIn K C_BadWord (.type "ValueError") = some true)
  (m_BadWord_ThrongError:PySem.W.mroIn K C_BadWord (.ref C_ThrongError) = some true)
  : Top K mg where
 f_is_row:=⟨_,_,fun_mk (st:=s_is_row) l0 c0 k0,mg_of X G a0⟩
 f_is_letter:=⟨_,_,fun_mk (st:=s_is_letter) l1 c1 k1,mg_of X G a1⟩
 f_is_text_of:=⟨_,_,fun_mk (st:=s_is_text_of) l2 c2 k2,mg_of X G a2⟩
 f_layout_width:=⟨_,_,fun_mk (st:=s_layout_width) l3 c3 k3,mg_of X G a3⟩
 f_field_span:=⟨_,_,fun_mk (st:=s_field_span) l4 c4 k4,mg_of X G a4⟩
 f_is_beginning:=⟨_,_,fun_mk (st:=s_is_beginning) l5 c5 k5,mg_of X G a5⟩
 f_gate_rules:=⟨_,_,fun_mk (st:=s_gate_rules) l6 c6 k6,mg_of X G a6⟩
 f_net_checked:=⟨_,_,fun_mk (st:=s_net_checked) l7 c7 k7,mg_of X G a7⟩
 f_check_new:=⟨_,_,fun_mk (st:=s_check_new) l8 c8 k8,mg_of X G a8⟩
 f_check_layout:=⟨_,_,fun_mk (st:=s_check_layout) l9 c9 k9,mg_of X G a9⟩
 f_check_houses:=⟨_,_,fun_mk (st:=s_check_houses) l10 c10 k10,mg_of X G a10⟩
 f_check_gates:=⟨_,_,fun_mk (st:=s_check_gates) l11 c11 k11,mg_of X G a11⟩
 f_check_rule:=⟨_,_,fun_mk (st:=s_check_rule) l12 c12 k12,mg_of X G a12⟩
 f_check_ways:=⟨_,_,fun_mk (st:=s_check_ways) l13 c13 k13,mg_of X G a13⟩
 f_check_way:=⟨_,_,fun_mk (st:=s_check_way) l14 c14 k14,mg_of X G a14⟩
 f_check_lines:=⟨_,_,fun_mk (st:=s_check_lines) l15 c15 k15,mg_of X G a15⟩
 f_check_spot:=⟨_,_,fun_mk (st:=s_check_spot) l16 c16 k16,mg_of X G a16⟩
 f_house_named:=⟨_,_,fun_mk (st:=s_house_named) l17 c17 k17,mg_of X G a17⟩
 f__law_draw:=⟨_,_,fun_mk (st:=s__law_draw) l18 c18 k18,mg_of X G a18⟩
 f__law_names:=⟨_,_,fun_mk (st:=s__law_names) l19 c19 k19,mg_of X G a19⟩
 f__law_layout:=⟨_,_,fun_mk (st:=s__law_layout) l20 c20 k20,mg_of X G a20⟩
 f__law_width:=⟨_,_,fun_mk (st:=s__law_width) l21 c21 k21,mg_of X G a21⟩
 f__law_span:=⟨_,_,fun_mk (st:=s__law_span) l22 c22 k22,mg_of X G a22⟩
 f__law_told:=⟨_,_,fun_mk (st:=s__law_told) l23 c23 k23,mg_of X G a23⟩
 f__law_over_at:=⟨_,_,fun_mk (st:=s__law_over_at) l24 c24 k24,mg_of X G a24⟩
 f__law_signs:=⟨_,_,fun_mk (st:=s__law_signs) l25 c25 k25,mg_of X G a25⟩
 f__law_rule:=⟨_,_,fun_mk (st:=s__law_rule) l26 c26 k26,mg_of X G a26⟩
 f__law_ways:=⟨_,_,fun_mk (st:=s__law_ways) l27 c27 k27,mg_of X G a27⟩
 f__law_house:=⟨_,_,fun_mk (st:=s__law_house) l28 c28 k28,mg_of X G a28⟩
 f__law_spots:=⟨_,_,fun_mk (st:=s__law_spots) l29 c29 k29,mg_of X G a29⟩
 f__law_lines:=⟨_,_,fun_mk (st:=s__law_lines) l30 c30 k30,mg_of X G a30⟩
 f__law_net:=⟨_,_,fun_mk (st:=s__law_net) l31 c31 k31,mg_of X G a31⟩
 f__law_same:=⟨_,_,fun_mk (st:=s__law_same) l32 c32 k32,mg_of X G a32⟩
 f__law_copy:=⟨_,_,fun_mk (st:=s__law_copy) l33 c33 k33,mg_of X G a33⟩
 f__law_large:=⟨_,_,fun_mk (st:=s__law_large) l34 c34 k34,mg_of X G a34⟩
 f_law:=⟨_,_,fun_mk (st:=s_law) l35 c35 k35,mg_of X G a35⟩
 b_isinstance:=PySem.W.mg_none_of X G z_isinstance
 b_str:=PySem.W.mg_none_of X G z_str
 b_len:=PySem.W.mg_none_of X G z_len
 b_sum:=PySem.W.mg_none_of X G z_sum
 b_range:=PySem.W.mg_none_of X G z_range
 b_list:=PySem.W.mg_none_of X G z_list
 b_sorted:=PySem.W.mg_none_of X G z_sorted
 b_set:=PySem.W.mg_none_of X G z_set
 b_min:=PySem.W.mg_none_of X G z_min
 b_max:=PySem.W.mg_none_of X G z_max
 b_int:=PySem.W.mg_none_of X G z_int
 b_tuple:=PySem.W.mg_none_of X G z_tuple
 b_all:=PySem.W.mg_none_of X G z_all
 b_bool:=PySem.W.mg_none_of X G z_bool
 b_zip:=PySem.W.mg_none_of X G z_zip
 u_WORDS:=⟨_,mg_of X G n_WORDS,l_WORDS⟩
 x_NoField:=xn_mk X G n_NoField q_NoField t_NoField b_NoField g_NoField h_NoField a_NoField o_NoField sgt stk
 x_NoDoor:=xn_mk X G n_NoDoor q_NoDoor t_NoDoor b_NoDoor g_NoDoor h_NoDoor a_NoDoor o_NoDoor sgt stk
 x_NoHouse:=xn_mk X G n_NoHouse q_NoHouse t_NoHouse b_NoHouse g_NoHouse h_NoHouse a_NoHouse o_NoHouse sgt stk
 x_Twice:=xn_mk X G n_Twice q_Twice t_Twice b_Twice g_Twice h_Twice a_Twice o_Twice sgt stk
 x_Misfit:=xn_mk X G n_Misfit q_Misfit t_Misfit b_Misfit g_Misfit h_Misfit a_Misfit o_Misfit sgt stk
 x_BadWord:=xn_mk X G n_BadWord q_BadWord t_BadWord b_BadWord g_BadWord h_BadWord a_BadWord o_BadWord sgt stk
 x_ThrongError:=xn_mk X G n_ThrongError q_ThrongError t_ThrongError b_ThrongError g_ThrongError h_ThrongError a_ThrongError o_ThrongError sgt stk
 v_NoField:=xv_mk n_NoField v_NoField
 m_NoField_ThrongError:=xm_mk n_NoField n_ThrongError m_NoField_ThrongError (fun z=>nomatch z)
 v_NoDoor:=xv_mk n_NoDoor v_NoDoor
 m_NoDoor_ThrongError:=xm_mk n_NoDoor n_ThrongError m_NoDoor_ThrongError (fun z=>nomatch z)
 v_NoHouse:=xv_mk n_NoHouse v_NoHouse
 m_NoHouse_ThrongError:=xm_mk n_NoHouse n_ThrongError m_NoHouse_ThrongError (fun z=>nomatch z)
 v_Twice:=xv_mk n_Twice v_Twice
 m_Twice_ThrongError:=xm_mk n_Twice n_ThrongError m_Twice_ThrongError (fun z=>nomatch z)
 v_Misfit:=xv_mk n_Misfit v_Misfit
 m_Misfit_ThrongError:=xm_mk n_Misfit n_ThrongError m_Misfit_ThrongError (fun z=>nomatch z)
 v_BadWord:=xv_mk n_BadWord v_BadWord
 m_BadWord_ThrongError:=xm_mk n_BadWord n_ThrongError m_BadWord_ThrongError (fun z=>nomatch z)
theorem law_bind {P:Program} {w:World} {K:Frag} {mg:Str -> Option Value} (T:Top K mg):∃ f fd,(∀ base:Heap,FnOk P w K mg base CX0 12 f fd ["_law_script"] (sp_law K)) /\ (∀ (s:Shared) (u:Value),BindsTo s fd ⟨[u],[]⟩ [("_law_script",u)]) /\ mg "law" = some (.ref f):=by
 obtain ⟨f,fd,F,m⟩:=T.f_law
 refine ⟨f,fd,fun base=>ok_law T F,?_,m⟩
 obtain ⟨oc,od,kV,doc,pm,an,cdv,ct,osl,rfl,lk,hcd⟩:=F.ex
 exact fun s u=>.of_eq rfl
theorem walk {l:PySem.W.OpenLaw} {q:Program} {loose:List Str} {XP:(Str -> Option Value) -> Heap -> Prop} {α:Type} {Yf:Shared -> α} {Ya:World -> α} {d:DefRec} {K:Params -> Frag} (hn:l.most = some 63) (hdf:d.params.defaults = [])
  (hY:∀ (w:World) (s:Shared),Yf s = Ya w -> (K w.params).In s.heap /\ 0 < s.toks)
  (F:∀ (w:World) (mg:Str -> Option Value) (fa:Addr) (h:Heap),(K w.params).In h -> h.Ns mainGlobals mg -> mg d.name = some (.ref fa) ->
   ∃ fd:FuncData,(∀ (s:Shared) (u:Value),BindsTo s fd ⟨[u],[]⟩ [("_law_script",u)]) /\ ∀ base:Heap,(K w.params).In base -> base.Ns mainGlobals mg -> FnOk l.prog w (K w.params) mg base CX0 12 fa fd ["_law_script"] (sp_law (K w.params))):
  PySem.W.WalkX q loose XP Yf Ya l.row.toRowW d [] (fun f vs=>PySem.call f vs):=
 L2.walk_ofX (n:=63) (k:=12) (x := "_law_script") (CX:=fun _=>CX0) (sp:=fun w=>sp_law (K w.params)) hn (by decide) hdf ⟨rfl,by decide,by decide,rfl⟩ hY F (fun _ _ a ns hl _ hS=>⟨ns,hS,hl,fun _=>rfl⟩) fun _ _ _ _ _ z=>z
end Law
open PySem PySem.W PyProof.Rows
set_option maxRecDepth 100000 in
set_option maxHeartbeats 0 in
theorem PySem.Challenge.cw_throng_k35_nets_let_by_holds : PySem.Challenge.rw_throng_k35_nets_let_by.Holds := by
 w_on; o_law; z_head; (case hw=>w_witness2)
 k_fill
 refine Law.walk (l:=PySem.Challenge.rw_throng_k35_nets_let_by) rfl rfl (fun w s Y=>L2.z_pos Y (fun _=>rfl) (by decide)) ?F
 case F=>
  intro w mg fa h KX G hmg
  have T:Law.Top (L2.KOf KX) mg:=by
   dsimp only [L2.KOf]
   refine' Law.all_mk KX G ?a0 ?l0 ?c0 ?k0 ?a1 ?l1 ?c1 ?k1 ?a2 ?l2 ?c2 ?k2 ?a3 ?l3 ?c3 ?k3 ?a4 ?l4 ?c4 ?k4 ?a5 ?l5 ?c5 ?k5 ?a6 ?l6 ?c6 ?k6 ?a7 ?l7 ?c7 ?k7 ?a8 ?l8 ?c8 ?k8 ?a9 ?l9 ?c9 ?k9 ?a10 ?l10 ?c10 ?k10 ?a11 ?l11 ?c11 ?k11 ?a12 ?l12 ?c12 ?k12 ?a13 ?l13 ?c13 ?k13 ?a14 ?l14 ?c14 ?k14 ?a15 ?l15 ?c15 ?k15 ?a16 ?l16 ?c16 ?k16 ?a17 ?l17 ?c17 ?k17 ?a18 ?l18 ?c18 ?k18 ?a19 ?l19 ?c19 ?k19 ?a20 ?l20 ?c20 ?k20 ?a21 ?l21 ?c21 ?k21 ?a22 ?l22 ?c22 ?k22 ?a23 ?l23 ?c23 ?k23 ?a24 ?l24 ?c24 ?k24 ?a25 ?l25 ?c25 ?k25 ?a26 ?l26 ?c26 ?k26 ?a27 ?l27 ?c27 ?k27 ?a28 ?l28 ?c28 ?k28 ?a29 ?l29 ?c29 ?k29 ?a30 ?l30 ?c30 ?k30 ?a31 ?l31 ?c31 ?k31 ?a32 ?l32 ?c32 ?k32 ?a33 ?l33 ?c33 ?k33 ?a34 ?l34 ?c34 ?k34 ?a35 ?l35 ?c35 ?k35 ?z_isinstance ?z_str ?z_len ?z_sum ?z_range ?z_list ?z_sorted ?z_set ?z_min ?z_max ?z_int ?z_tuple ?z_all ?z_bool ?z_zip ?n_WORDS ?l_WORDS ?n_NoField ?q_NoField ?t_NoField ?b_NoField ?g_NoField ?h_NoField ?a_NoField ?o_NoField ?n_NoDoor ?q_NoDoor ?t_NoDoor ?b_NoDoor ?g_NoDoor ?h_NoDoor ?a_NoDoor ?o_NoDoor ?n_NoHouse ?q_NoHouse ?t_NoHouse ?b_NoHouse ?g_NoHouse ?h_NoHouse ?a_NoHouse ?o_NoHouse ?n_Twice ?q_Twice ?t_Twice ?b_Twice ?g_Twice ?h_Twice ?a_Twice ?o_Twice ?n_Misfit ?q_Misfit ?t_Misfit ?b_Misfit ?g_Misfit ?h_Misfit ?a_Misfit ?o_Misfit ?n_BadWord ?q_BadWord ?t_BadWord ?b_BadWord ?g_BadWord ?h_BadWord ?a_BadWord ?o_BadWord ?n_ThrongError ?q_ThrongError ?t_ThrongError ?b_ThrongError ?g_ThrongError ?h_ThrongError ?a_ThrongError ?o_ThrongError ?sgt ?stk ?v_NoField ?m_NoField_ThrongError ?v_NoDoor ?m_NoDoor_ThrongError ?v_NoHouse ?m_NoHouse_ThrongError ?v_Twice ?m_Twice_ThrongError ?v_Misfit ?m_Misfit_ThrongError ?v_BadWord ?m_BadWord_ThrongError
   (case a0=>k_is); (case l0=>k_is); (case c0=>k_is); (case k0=>k_is)
   (case a1=>k_is); (case l1=>k_is); (case c1=>k_is); (case k1=>k_is)
   (case a2=>k_is); (case l2=>k_is); (case c2=>k_is); (case k2=>k_is)
   (case a3=>k_is); (case l3=>k_is); (case c3=>k_is); (case k3=>k_is)
   (case a4=>k_is); (case l4=>k_is); (case c4=>k_is); (case k4=>k_is)
   (case a5=>k_is); (case l5=>k_is); (case c5=>k_is); (case k5=>k_is)
   (case a6=>k_is); (case l6=>k_is); (case c6=>k_is); (case k6=>k_is)
   (case a7=>k_is); (case l7=>k_is); (case c7=>k_is); (case k7=>k_is)
   (case a8=>k_is); (case l8=>k_is); (case c8=>k_is); (case k8=>k_is)
   (case a9=>k_is); (case l9=>k_is); (case c9=>k_is); (case k9=>k_is)
   (case a10=>k_is); (case l10=>k_is); (case c10=>k_is); (case k10=>k_is)
   (case a11=>k_is); (case l11=>k_is); (case c11=>k_is); (case k11=>k_is)
   (case a12=>k_is); (case l12=>k_is); (case c12=>k_is); (case k12=>k_is)
   (case a13=>k_is); (case l13=>k_is); (case c13=>k_is); (case k13=>k_is)
   (case a14=>k_is); (case l14=>k_is); (case c14=>k_is); (case k14=>k_is)
   (case a15=>k_is); (case l15=>k_is); (case c15=>k_is); (case k15=>k_is)
   (case a16=>k_is); (case l16=>k_is); (case c16=>k_is); (case k16=>k_is)
   (case a17=>k_is); (case l17=>k_is); (case c17=>k_is); (case k17=>k_is)
   (case a18=>k_is); (case l18=>k_is); (case c18=>k_is); (case k18=>k_is)
   (case a19=>k_is); (case l19=>k_is); (case c19=>k_is); (case k19=>k_is)
   (case a20=>k_is); (case l20=>k_is); (case c20=>k_is); (case k20=>k_is)
   (case a21=>k_is); (case l21=>k_is); (case c21=>k_is); (case k21=>k_is)
   (case a22=>k_is); (case l22=>k_is); (case c22=>k_is); (case k22=>k_is)
   (case a23=>k_is); (case l23=>k_is); (case c23=>k_is); (case k23=>k_is)
   (case a24=>k_is); (case l24=>k_is); (case c24=>k_is); (case k24=>k_is)
   (case a25=>k_is); (case l25=>k_is); (case c25=>k_is); (case k25=>k_is)
   (case a26=>k_is); (case l26=>k_is); (case c26=>k_is); (case k26=>k_is)
   (case a27=>k_is); (case l27=>k_is); (case c27=>k_is); (case k27=>k_is)
   (case a28=>k_is); (case l28=>k_is); (case c28=>k_is); (case k28=>k_is)
   (case a29=>k_is); (case l29=>k_is); (case c29=>k_is); (case k29=>k_is)
   (case a30=>k_is); (case l30=>k_is); (case c30=>k_is); (case k30=>k_is)
   (case a31=>k_is); (case l31=>k_is); (case c31=>k_is); (case k31=>k_is)
   (case a32=>k_is); (case l32=>k_is); (case c32=>k_is); (case k32=>k_is)
   (case a33=>k_is); (case l33=>k_is); (case c33=>k_is); (case k33=>k_is)
   (case a34=>k_is); (case l34=>k_is); (case c34=>k_is); (case k34=>k_is)
   (case a35=>k_is); (case l35=>k_is); (case c35=>k_is); (case k35=>k_is)
   (case z_isinstance=>k_is)
   (case z_str=>k_is)
   (case z_len=>k_is)
   (case z_sum=>k_is)
   (case z_range=>k_is)
   (case z_list=>k_is)
   (case z_sorted=>k_is)
   (case z_set=>k_is)
   (case z_min=>k_is)
   (case z_max=>k_is)
   (case z_int=>k_is)
   (case z_tuple=>k_is)
   (case z_all=>k_is)
   (case z_bool=>k_is)
   (case z_zip=>k_is)
   (case n_WORDS=>k_is); (case l_WORDS=>kernel_rfl)
   (case n_NoField=>k_is); (case q_NoField=>k_exc); (case t_NoField=>k_is); (case b_NoField=>k_is); (case g_NoField=>k_is); (case h_NoField=>k_is); (case a_NoField=>k_is); (case o_NoField=>k_is)
   (case n_NoDoor=>k_is); (case q_NoDoor=>k_exc); (case t_NoDoor=>k_is); (case b_NoDoor=>k_is); (case g_NoDoor=>k_is); (case h_NoDoor=>k_is); (case a_NoDoor=>k_is); (case o_NoDoor=>k_is)
   (case n_NoHouse=>k_is); (case q_NoHouse=>k_exc); (case t_NoHouse=>k_is); (case b_NoHouse=>k_is); (case g_NoHouse=>k_is); (case h_NoHouse=>k_is); (case a_NoHouse=>k_is); (case o_NoHouse=>k_is)
   (case n_Twice=>k_is); (case q_Twice=>k_exc); (case t_Twice=>k_is); (case b_Twice=>k_is); (case g_Twice=>k_is); (case h_Twice=>k_is); (case a_Twice=>k_is); (case o_Twice=>k_is)
   (case n_Misfit=>k_is); (case q_Misfit=>k_exc); (case t_Misfit=>k_is); (case b_Misfit=>k_is); (case g_Misfit=>k_is); (case h_Misfit=>k_is); (case a_Misfit=>k_is); (case o_Misfit=>k_is)
   (case n_BadWord=>k_is); (case q_BadWord=>k_exc); (case t_BadWord=>k_is); (case b_BadWord=>k_is); (case g_BadWord=>k_is); (case h_BadWord=>k_is); (case a_BadWord=>k_is); (case o_BadWord=>k_is)
   (case n_ThrongError=>k_is); (case q_ThrongError=>k_exc); (case t_ThrongError=>k_is); (case b_ThrongError=>k_is); (case g_ThrongError=>k_is); (case h_ThrongError=>k_is); (case a_ThrongError=>k_is); (case o_ThrongError=>k_is)
   (case sgt=>k_is); (case stk=>k_is)
   (case v_NoField=>k_is)
   (case m_NoField_ThrongError=>k_is)
   (case v_NoDoor=>k_is)
   (case m_NoDoor_ThrongError=>k_is)
   (case v_NoHouse=>k_is)
   (case m_NoHouse_ThrongError=>k_is)
   (case v_Twice=>k_is)
   (case m_Twice_ThrongError=>k_is)
   (case v_Misfit=>k_is)
   (case m_Misfit_ThrongError=>k_is)
   (case v_BadWord=>k_is)
   (case m_BadWord_ThrongError=>k_is)
  obtain ⟨f,fd,F,b,m⟩:=Law.law_bind (P:=PySem.Challenge.pw_throng_k35_nets_let_by) (w:=w) T
  have e0:=hmg.symm.trans m
  cases e0
  exact ⟨fd,b,fun base _ _=>F base⟩
#print axioms PySem.Challenge.cw_throng_k35_nets_let_by_holds
