import PyProof.Rows.All
import Wide.All
import OpenK.AllK
import Wide.FinOn
import Lean
import PyProof.EqAt
import PyProof.EqKinds
import PyProof.TupleCall
import KE.KLam
import KE.KSortKey
import KE.KSorted
import KE.KTabLook
import KE.KItemsList
import KE.KDictSum
import KE.KSortTup
import KE.KDictList
import KE.KDictOf
import PySem.Challenge.RW_throng_k74_turns_refused
namespace PySem.W.Fast
def tw642657224618752:=0
def tw6933053239012271106:=0
def tw15534842020427026562:=0
def tw6763531879934951746:=0
def tw9802037132638732002:=0
def tw15899865957004787171:=0
def tw15249106479803363139:=0
def tw10213212431088328579:=0
def tw8905479363723102340:=0
def tw12645626988948985348:=0
def tw4536027434635396868:=0
def tw3478917873476191558:=0
def tw3353507530089757895:=0
def tw17611737990574316424:=0
def tw5036188097594458473:=0
def tw3605100580839337034:=0
def tw1790769929024631787:=0
def tw2212090132820756748:=0
def tw16568614590058600300:=0
def tw14210978804131886029:=0
def tw13997772766177597647:=0
def tw13785569621020335407:=0
def tw11181906601824682384:=0
def tw5715025127421509616:=0
def tw5112085847479986962:=0
def tw8162810845799181075:=0
def tw13143215825570657908:=0
def tw18350787030564413236:=0
def tw13977002511567447509:=0
def tw7405577810235542455:=0
def tw10238761452488386776:=0
def tw10520916495408986488:=0
def tw13611342689270608312:=0
def tw17620399132739028440:=0
def tw10088690570556902968:=0
def tw13425559121568627513:=0
def tw16568944400128524442:=0
def tw1189061418379726202:=0
def tw18388753475365319355:=0
def tw15479158671486910363:=0
def tw273840980803252155:=0
def tw7862452192380373660:=0
def tw6893679443889740829:=0
def tw10988121659804577053:=0
def tw10850607291493203453:=0
def tw11487701328729229438:=0
def tw14175752997645571390:=0
def tw17774116462050873599:=0
def tw676832955229881599:=0
def tw11285308222633681311:=0
def tw9565033609310964191:=0
def tw17008966654768168607:=0
def tw1376795198593492634:=0
def tw10376018657915883036:=0
def tw11015645911986435802:=0
def tw3293139902443672902:=0
def tw3036092310107275964:=0
def tw8377353598073169134:=0
def tw18148605322329122174:=0
def tw3572062045106454344:=0
def tw16301957039477937863:=0
def tw17114641321759509728:=0
def tw13824849938566293545:=0
def tw3181369460963596254:=0
def tw11070977773194492177:=0
def tw1572995838832724066:=0
def tw9763154695308586511:=0
def tw15382591594921305877:=0
def tw14607661971428322786:=0
def tw3669739937989126134:=0
def tw16275281009002335829:=0
def tw4035260912575518857:=0
def tw4777138803717549223:=0
def tw11435152656278613698:=0
def tw17076978784451717348:=0
def tw10863475508607763117:=0
def tw8051538324516034330:=0
def tw591960035491511602:=0
def tw1329989429240943723:=0
def tw14688837079116466385:=0
def tw14302686886222915020:=0
def tw10456589060361224860:=0
def tw9862606841165962825:=0
def tw10130192279894457252:=0
def tw676066792550404944:=0
def tw3952954771305090325:=0
def tw4605544922879180238:=0
def tw2110449804399269536:=0
def tw9288612181223729788:=0
def tw1499646630108915802:=0
def tw5277526512312339399:=0
def tw6298166646337551699:=0
def tw1713853478870072711:=0
def tw3945956686806865943:=0
def tw8291354855379297235:=0
def tw9139689933062803544:=0
def tw15147772597449974120:=0
def tw11496231199227569233:=0
def tw9565436706137547370:=0
def tw17282181649504041348:=0
def tw637324496868450192:=0
def tw14759290358527908603:=0
def tw17644919272500215107:=0
def tw5186252388281221980:=0
def tw16582840961300338627:=0
def tw12288013296990594638:=0
def tw12170930805629496368:=0
def tw12829026459557083734:=0
def tw15511068815094931285:=0
def tw6724531970423326450:=0
def tw18090904619401887413:=0
def tw7032334528869611511:=0
def tw9418114470618956670:=0
def tw5790981540344242534:=0
def tw10630480345843455163:=0
def tw7867351369705534325:=0
def tw10234915163107670371:=0
def tw2813814848533029221:=0
def tw13610611703892751834:=0
def tw10462988138781258994:=0
def tw2666467765526508150:=0
def tw4477996354397093799:=0
def tw17349618507772404435:=0
def tw963505623634932717:=0
def tw882061942731527015:=0
def tw6616237530539012092:=0
def tw16360544958702547466:=0
def tw5158533486759786516:=0
def tw4614372943591798172:=0
def tw2123615912630386296:=0
def tw7179152801880839037:=0
def tw3562122244646327418:=0
def tw8132693316235369195:=0
def tw12737458400443443849:=0
def tw4131805584384910135:=0
def tw10359321985362407039:=0
def tw4320805973284251345:=0
def tw2884340153503453779:=0
def tw6147216047948904174:=0
def tw8468898187321029232:=0
def tw12711202665507901746:=0
def tw4361872718335764519:=0
def tw12609604827234294076:=0
def tw6926679590553356899:=0
def tw14417344717370019291:=0
def tw15606591939862125662:=0
def tw14327061274559380045:=0
def tw16816669954841975100:=0
def tw3454357345487111202:=0
def tw4304082583827147818:=0
def tw7820069262618286983:=0
def tw13006137714952298323:=0
def tw1280252913600677987:=0
def tw14361284118935466505:=0
def tw6339141832251159710:=0
def tw8102737421332311632:=0
def tw17529722414880173363:=0
def tw10503217564667551362:=0
def tw7113029884199251835:=0
def tw5938192620733603601:=0
def tw8999104075434762757:=0
def tw1050046355926069001:=0
def tw15120730927135811619:=0
def tw5821203785630787948:=0
def tw14177835237167791754:=0
def tw8036631973471189527:=0
def tw7327269311052169074:=0
def tw16679685036009109428:=0
def tw3458227227453718066:=0
def tw515211181828417778:=0
def tw10059678273864217896:=0
def tw14488230357530025812:=0
def tw14249435233012705044:=0
def tw3690023848199218819:=0
def tw7999203079186798235:=0
def tw3611597291081457339:=0
def tw2719166726279200456:=0
def tw452772004251825179:=0
def tw11246258300389680206:=0
def tw9906200417523499643:=0
def tw17783718432148948783:=0
def tw12053467752387144470:=0
def tw10485892113530858401:=0
def tw14369948962201485599:=0
def tw16128257176045892614:=0
def tw17205421064070413420:=0
def tw3940966730090195118:=0
def tw12467974679310156598:=0
def tw6112162237191909912:=0
def tw15214439923264552908:=0
def tw4357979573366906635:=0
def tw14340446179510810946:=0
def tw14735781468279697131:=0
def tw8210603456394917420:=0
def tw9362733288482221350:=0
def tw17263220898783954513:=0
def tw3703021719148933242:=0
def tw17914610802920582743:=0
def tw17815494090928034840:=0
def tw8481031795445963805:=0
def tw7343955692742779846:=0
def tw12606607270706741655:=0
def tw7768697203383913199:=0
def tw9627409039986327316:=0
def tw7738392247053865777:=0
def tw4144126158131541640:=0
def tw7517211689872097458:=0
def tw9540451952434766295:=0
def tw10583820557810532420:=0
def tw12932266419784471477:=0
def tw17699340267297575728:=0
def tw702415645855505024:=0
def tw8322689983841102768:=0
def tw15329157842717831229:=0
def tw1938257085207524341:=0
def tw8080103770395514359:=0
def tw7643334652524528439:=0
def tw11999844289246180454:=0
def tw17541069263084779851:=0
def tw6238697939111506744:=0
def tw7892430011703919555:=0
def tw3644706763824028321:=0
def tw15163479183551721771:=0
def tw6702459133521652951:=0
def tw5888969693400877753:=0
def tw8738520738513504182:=0
def tw948919394416919577:=0
def tw9782144117074108739:=0
def tw11004174801484154286:=0
def tw5521894335491479215:=0
def tw5081691971816861899:=0
def tw2762997948766034770:=0
def tw17295826674911540839:=0
def tw16801680179342463982:=0
def tw1408540947789734975:=0
def tw6255684935846229660:=0
def tw15875369602206199273:=0
def tw14196606441913315566:=0
def tw3115345023750582694:=0
def tw8525625119500199298:=0
def tw7023898751200616197:=0
def tw7276298810410146443:=0
def tw7004283712022207912:=0
def tw17663308422917464846:=0
def tw1028075904843315700:=0
def tw7269457246658512537:=0
def tw4172950748066529883:=0
def tw7806974998399178885:=0
def tw17383808685283828207:=0
def tw13566720245552477052:=0
def tw6797981935325307667:=0
def tw13555603120464407780:=0
def tw9621358010265549198:=0
def tw5498659855551050209:=0
end PySem.W.Fast
open PySem.W (Frag nsIn keepIn fnOf codeIn mg_of findIn)
set_option compiler.extract_closed false
set_option Elab.async false
set_option linter.all false
set_option maxRecDepth 100000
namespace L2
open PySem PySem.Spec PyProof.Rows
noncomputable abbrev Key:=Sum Int Str
noncomputable def keyIs:Key->Value->Bool
 | .inl k,v=>Value.isInt k v
 | .inr x,v=>Value.isStrOf x v
noncomputable def keyH (w:World):Key->Int
 | .inl k=>hashInt k
 | .inr x=>hashStr w x
theorem bH:∀ {k:Key} {v:Value},keyIs k v=true->(∃ i t,k=Sum.inl i/\v=Value.int i t)\/(∃ x t,k=Sum.inr x/\v=Value.str x t)
 | .inl i,v,h=>by
  obtain ⟨t,e⟩:=Value.isInt_shape (k:=i) (v:=v) h;exact .inl ⟨i,t,rfl,e⟩
 | .inr x,v,h=>by
  obtain ⟨t,e⟩:=Value.isStrOf_shape (x:=x) (v:=v) h;exact .inr ⟨x,t,rfl,e⟩
theorem uS (i:Int) (t:Tok):keyIs (.inl i) (.int i t)=true:=by simp [keyIs,Value.isInt]
theorem vN (x:Str) (t:Tok):keyIs (.inr x) (.str x t)=true:=by simp [keyIs,Value.isStrOf]
theorem Bp (a b:Int):decide ((Sum.inl a:Key)=Sum.inl b)=(a == b):=by
 by_cases e:a=b
 ·subst e; simp
 ·have h:¬ (Sum.inl a:Key)=Sum.inl b:=fun q=>e (Sum.inl.inj q)
  rw [decide_eq_false h];exact (beq_eq_false_iff_ne.mpr e).symm
theorem By (a b:Str):decide ((Sum.inr a:Key)=Sum.inr b)=decide (a=b):=by
 by_cases e:a=b
 ·subst e; simp
 ·have h:¬ (Sum.inr a:Key)=Sum.inr b:=fun q=>e (Sum.inr.inj q)
  rw [decide_eq_false h,decide_eq_false e]
theorem AB (a:Int) (b:Str):decide ((Sum.inl a:Key)=Sum.inr b)=false:=decide_eq_false (fun q=>nomatch q)
theorem AF (a:Str) (b:Int):decide ((Sum.inr a:Key)=Sum.inl b)=false:=decide_eq_false (fun q=>nomatch q)
noncomputable def mixKind (prog:Program) (w:World):PySem.KeyKind prog w Key where
 is:=keyIs
 hash:=keyH w
 inj:=fun v a b ha hb=>by
  rcases bH ha with ⟨i,t,rfl,rfl⟩ | ⟨x,t,rfl,rfl⟩
  ·rcases bH hb with ⟨j,u,rfl,e⟩ | ⟨y,u,rfl,e⟩
   ·injection e with e1 _; rw [e1]
   ·exact nomatch e
  ·rcases bH hb with ⟨j,u,rfl,e⟩ | ⟨y,u,rfl,e⟩
   ·exact nomatch e
   ·injection e with e1 _; rw [e1]
 byValue:=fun k v h=>by
  rcases bH h with ⟨i,t,rfl,rfl⟩ | ⟨x,t,rfl,rfl⟩ <;> rfl
 pyHash:=fun hv h=>by
  rcases bH hv with ⟨i,t,rfl,rfl⟩ | ⟨x,t,rfl,rfl⟩
  ·exact wpAny_pyHash_int h
  ·exact wpAny_pyHash_str h
 eqBool:=fun hu hv h=>by
  rcases bH hu with ⟨i,t,rfl,rfl⟩ | ⟨x,t,rfl,rfl⟩
  ·rcases bH hv with ⟨j,u,rfl,rfl⟩ | ⟨y,u,rfl,rfl⟩
   ·rw [Bp] at h; exact wpAny_eqBool_int h
   ·rw [AB] at h; exact SeqAt.EqAt.int_str i t y u _ _ _ _ h
  ·rcases bH hv with ⟨j,u,rfl,rfl⟩ | ⟨y,u,rfl,rfl⟩
   ·rw [AF] at h; exact SeqAt.EqAt.str_int x t j u _ _ _ _ h
   ·rw [By] at h; exact wpAny_eqBool_str h
 «strs»:=fun k x t v h=>by
  rcases bH h with ⟨i,u,rfl,e⟩ | ⟨y,u,rfl,e⟩
  ·exact nomatch e
  ·injection e with e1 _
   subst e1;cases v <;> rfl
theorem qU (prog:Program) (w:World) (i:Int) (t:Tok):(mixKind prog w).is (.inl i) (.int i t)=true:=uS i t
theorem rk (prog:Program) (w:World) (x:Str) (t:Tok):(mixKind prog w).is (.inr x) (.str x t)=true:=vN x t
inductive V where
 | non | bl (b:Bool) | int (i:Int) | str (x:Str) | byt (b:Array UInt8) | flt (b:UInt64) | ref (a:Addr) | ty (n:String)
 deriving DecidableEq
noncomputable def RelV:V->Value->Prop
 | .non,u=>u=Value.none
 | .bl b,u=>u=Value.bool b
 | .int i,u=>∃ t,u=Value.int i t
 | .str x,u=>∃ t,u=Value.str x t
 | .byt b,u=>∃ t,u=Value.bytes b t
 | .flt b,u=>∃ t,u=Value.float b t
 | .ref a,u=>u=Value.ref a
 | .ty n,u=>u=Value.type n
noncomputable abbrev Vals:List V->List Value->Prop:=Paired RelV
theorem Vals.length {xs:List V} {us:List Value} (r:Vals xs us):xs.length=us.length:=Paired.length r
theorem Vals.get:∀ {xs:List V} {us:List Value} {i:Nat} {x:V},Vals xs us->xs[i]? = some x->∃ u,us[i]? = some u/\RelV x u
 | _,_,_,_,.nil,e=>by simp at e
 | _,_,0,_,.cons r _,e=>by simp at e; subst e; exact ⟨_,rfl,r⟩
 | _,_,i+1,x,.cons _ t,e=>by
  obtain ⟨u,h1,h2⟩:=Vals.get (i:=i) (x:=x) t (by simpa using e);exact ⟨u,by simpa using h1,h2⟩
theorem Vals.append:∀ {xs ys:List V} {us ws:List Value},Vals xs us->Vals ys ws->Vals (xs++ys) (us++ws)
 | _,_,_,_,.nil,s=>s
 | _,_,_,_,.cons r t,s=>.cons r (Vals.append t s)
theorem Vals.take:∀ {xs:List V} {us:List Value} (n:Nat),Vals xs us->Vals (xs.take n) (us.take n)
 | _,_,0,_=>.nil
 | _,_,_+1,.nil=>.nil
 | _,_,n+1,.cons r t=>.cons r (Vals.take n t)
theorem Vals.drop:∀ {xs:List V} {us:List Value} (n:Nat),Vals xs us->Vals (xs.drop n) (us.drop n)
 | _,_,0,r=>r
 | _,_,_+1,.nil=>.nil
 | _,_,n+1,.cons _ t=>Vals.drop n t
noncomputable def RelO:Option V->Option Value->Prop
 | some v,some u=>RelV v u
 | none,none=>True
 | _,_=>False
noncomputable def KV {κ:Type}:List (κ × V)->List (κ × Value)->Prop:=Paired fun (p:κ × V) (q:κ × Value)=>p.1=q.1/\RelV p.2 q.2
noncomputable def kV:Key->V
 | .inl i=>.int i
 | .inr x=>.str x
inductive HO where
 | lst (xs:List V)
 | tup (xs:List V)
 | dK (kvs:List (Key × V)) | dT (kvs:List (List Key × V))
 | set (S:Int->Bool) (n:Nat)
 | ins (C dx:Addr) (fs:List (Str × V))
 | own (x:Addr)
 | xd (fs:List (Str × V))
 | met (f x:Addr)
 | rng (lo hi:Int)
 | frz (o:Obj) (u:HO)
 | tbl (ps:Array Value)
 | ext (φ:Heap->Prop)
noncomputable abbrev Hp:=Addr->Option HO
noncomputable def upd (H:Hp) (a:Addr) (o:HO):Hp:=fun b=>if b=a then some o else H b
theorem upd_same {H:Hp} {a:Addr} {o:HO}:upd H a o a=some o:=by unfold upd; rw [if_pos rfl]
theorem ao {H:Hp} {a b:Addr} {o:HO} (h:b≠a):upd H a o b=H b:=by unfold upd; rw [if_neg h]
theorem BG {H:Hp} {a b:Addr} {o u:HO} (h:H a=some o) (h':H b=some u) (d:o≠u):a≠b:=by
 intro e; subst e; rw [h] at h'; exact d (Option.some.inj h')
theorem aX {H:Hp} {a b:Addr} {o:HO} (h:H a=some o) (h':H b=none):a≠b:=by
 intro e; subst e; rw [h] at h'; cases h'
noncomputable def lamQ:Str:=Str.ofString "longest_first.<locals>.<lambda>"
def TabOk (H:Hp) (h:Heap) (a:Addr) (ps:Array Value):Prop:=TriplesOk ps.toList/\∀ pos cv,codeAmong pos ps.toList=some cv->∃ c,cv=.ref c/\H c=some (.own a)/\h.CodeRec (.ref c) lamQ
section
variable (P:Program) (w:World)
noncomputable def ObjOk (H:Hp) (h:Heap) (a:Addr):HO->Prop
 | .lst xs=>xs.length<=sizeLine/\∃ (its:List Value) (n:Nat),Vals xs its/\h.get? a=some { cls:=.type "list",data:=.seq its.toArray n }
 | .tup xs=>xs.length<=sizeLine/\∃ its:List Value,Vals xs its/\IsTup h a its.toArray
 | .dK kvs=>kvs.length<=sizeLine/\(a == sysModules)=false/\∃ vs,KV kvs vs/\h.DictOf (mixKind P w) a vs
 | .dT kvs=>kvs.length<=sizeLine/\(a == sysModules)=false/\∃ xs:List (List Key × Addr × Value),
   Paired (fun (p:List Key × V) (q:List Key × Addr × Value)=>p.1=q.1/\H q.2.1=some (.tup (p.1.map kV))/\RelV p.2 q.2.2) kvs xs /\
   ∃ o es ep,h.get? a=some o/\o.ExactDict/\o.data=.dict es ep/\es.toList=xs.map (entryOfKey (tupleKind (mixKind P w)))/\(xs.map (·.1)).Nodup
 | .set S n=>h.SetOf (intKind P w) a S n
 | .ins C dx fs=>H dx=some (.own a)/\fs.length<=1000/\dx≠a/\h.get? a=some (PySem.W.instObj C dx) /\
   ∃ mA,h.Ns1 dx mA/\(∀ f,RelO (fs.lookup f) (mA f))/\PySem.Within mA (fs.map (·.1))
 | .own _=>∃ o,h.get? a=some o
 | .xd fs=>∃ mA,h.Ns1 a mA/\∀ f,RelO (fs.lookup f) (mA f)
 | .rng lo hi=>∃ t u v,h.get? a=some { cls:=.type "range",data:=.fields #[.int lo t,.int hi u,.int 1 v] }
 | .frz o u=>h.get? a=some o/\ObjOk H h a u
 | .tbl ps=>∃ more:Array Value,h.get? a=some { cls:=.none,data:=.fields (ps++more) }/\TabOk H h a (ps++more)
 | .met f x=>h.get? a=some (PySem.W.methodObj (.ref f) (.ref x))
 | .ext φ=>φ h/\(∃ o,h.get? a=some o)/\∀ h1 h2:Heap,φ h1->(∀ o,h1.get? a=some o->h2.get? a=some o)->φ h2
def HOk (H:Hp) (h:Heap):Prop:=∀ a o,H a=some o->ObjOk P w H h a o
end
section
variable {P:Program} {w:World} {H H':Hp} {h h':Heap} {a:Addr} {o:HO}
theorem ObjOk.lt (x:ObjOk P w H h a o):a < h.objs.size:=by
 cases o with
 | lst xs=>obtain ⟨_,_,_,_,e⟩:=x; exact Heap.lt_size e
 | tup xs=>obtain ⟨_,_,_,p⟩:=x; exact p.lt
 | dK kvs=>obtain ⟨_,_,_,_,o,_,_,e,_⟩:=x; exact Heap.lt_size e
 | dT kvs=>obtain ⟨_,_,_,_,o,_,_,e,_⟩:=x; exact Heap.lt_size e
 | set S n=>obtain ⟨o,_,_,_,e,_⟩:=x; exact Heap.lt_size e
 | ins C dx fs=>obtain ⟨_,_,_,e,_⟩:=x; exact Heap.lt_size e
 | own y=>obtain ⟨_,e⟩:=x; exact Heap.lt_size e
 | xd fs=>obtain ⟨_,⟨_,_,_,e,_⟩,_⟩:=x; exact Heap.lt_size e
 | rng lo hi=>obtain ⟨_,_,_,e⟩:=x; exact Heap.lt_size e
 | frz ob u=>obtain ⟨e,_⟩:=x; exact Heap.lt_size e
 | tbl ps=>obtain ⟨_,e,_⟩:=x; exact Heap.lt_size e
 | met f y=>exact Heap.lt_size (show h.get? a=some _ from x)
 | ext φ=>obtain ⟨_,⟨_,e⟩,_⟩:=x; exact Heap.lt_size e
theorem Paired.mapP {α β:Type} {F G:α -> β -> Prop}:∀ {l₁:List α} {l₂:List β},Paired F l₁ l₂ -> (∀ a b,F a b->G a b)->Paired G l₁ l₂
 | _,_,.nil,_=>.nil
 | _,_,.cons r t,f=>.cons (f _ _ r) (Paired.mapP t f)
theorem ObjOk.stay (x:ObjOk P w H h a o) (k:∀ b u,(b=a\/H b=some (.own a))->h.get? b=some u->h'.get? b=some u)
  (ho:∀ b,H b=some (.own a)->H' b=some (.own a)) (ht:∀ b xs,H b=some (.tup xs)->H' b=some (.tup xs)):ObjOk P w H' h' a o:=by
 induction o with
 | lst xs=>obtain ⟨z,its,n,r,e⟩:=x; exact ⟨z,its,n,r,k _ _ (.inl rfl) e⟩
 | tup xs=>obtain ⟨z,its,r,ob,e,c⟩:=x; exact ⟨z,its,r,ob,k _ _ (.inl rfl) e,c⟩
 | dK kvs=>obtain ⟨z,y,vs,r,ob,es,ep,e,c⟩:=x; exact ⟨z,y,vs,r,ob,es,ep,k _ _ (.inl rfl) e,c⟩
 | dT kvs=>
  obtain ⟨z,y,xs,r,ob,es,ep,e,c⟩:=x;exact ⟨z,y,xs,Paired.mapP r fun p q z=>⟨z.1,ht _ _ z.2.1,z.2.2⟩,ob,es,ep,k _ _ (.inl rfl) e,c⟩
 | set S n=>obtain ⟨ob,es,ep,t,e,c⟩:=x; exact ⟨ob,es,ep,t,k _ _ (.inl rfl) e,c⟩
 | ins C dx fs=>
  obtain ⟨d,z,ne,e,mA,⟨od,es,ep,e2,c⟩,r⟩:=x;exact ⟨ho _ d,z,ne,k _ _ (.inl rfl) e,mA,⟨od,es,ep,k _ _ (.inr d) e2,c⟩,r⟩
 | own y=>obtain ⟨ob,e⟩:=x; exact ⟨ob,k _ _ (.inl rfl) e⟩
 | xd fs=>obtain ⟨mA,⟨od,es,ep,e,c⟩,r⟩:=x; exact ⟨mA,⟨od,es,ep,k _ _ (.inl rfl) e,c⟩,r⟩
 | rng lo hi=>obtain ⟨t,u,v,e⟩:=x; exact ⟨t,u,v,k _ _ (.inl rfl) e⟩
 | frz ob u ih=>obtain ⟨e,q⟩:=x; exact ⟨k _ _ (.inl rfl) e,ih q⟩
 | tbl ps=>
  obtain ⟨more,e,t1,t2⟩:=x;refine ⟨more,k a _ (.inl rfl) e,t1,fun pos cv q=>?_⟩;obtain ⟨c,e1,e2,c2,o,vs,t,e3,e4,e5⟩:=t2 pos cv q;cases e3;exact ⟨c,e1,ho _ e2,c,o,vs,t,rfl,k _ _ (.inr e2) e4,e5⟩
 | met f y=>
  have e:h.get? a=some (PySem.W.methodObj (.ref f) (.ref y)):=x;show h'.get? a=some (PySem.W.methodObj (.ref f) (.ref y));exact k a _ (.inl rfl) e
 | ext φ=>obtain ⟨p,⟨o,e⟩,st⟩:=x; exact ⟨st _ _ p fun o q=>k _ _ (.inl rfl) q,⟨o,k _ _ (.inl rfl) e⟩,st⟩
theorem HOk.lt (x:HOk P w H h) (e:H a=some o):a < h.objs.size:=(x a o e).lt
theorem HOk.fresh (x:HOk P w H h) (e:h.objs.size<=a):H a=none:=by
 cases q:H a with
 | none=>rfl
 | some u=>exact absurd (Nat.lt_of_lt_of_le (x.lt q) e) (Nat.lt_irrefl _)
theorem HOk.kept (x:HOk P w H h) (k:∀ b u,h.get? b=some u->h'.get? b=some u):HOk P w H h':=fun a o e=>
 (x a o e).stay (fun b u _ q=>k b u q) (fun _ q=>q) fun _ _ q=>q
theorem HOk.laid (x:HOk P w H h) (k:∀ b u,h.get? b=some u->h'.get? b=some u) (hp:h.objs.size<=a) (new:ObjOk P w (upd H a o) h' a o):HOk P w (upd H a o) h':=fun b u e=>by
 have hn:=x.fresh hp;by_cases hb:b=a
 ·subst hb; rw [upd_same] at e; cases e; exact new
 ·rw [ao hb] at e;exact (x b u e).stay (fun c v _ q=>k c v q) (fun c q=>by rw [ao (aX q hn)]; exact q) fun c xs q=>by rw [ao (aX q hn)]; exact q
end
def Rd (H:Hp) (a:Addr) (u:HO):Prop:=H a=some u\/∃ o,H a=some (.frz o u)
theorem Rd.ok {P:Program} {w:World} {H:Hp} {h:Heap} {a:Addr} {u:HO} (r:Rd H a u) (x:HOk P w H h):ObjOk P w H h a u:=by
 rcases r with r | ⟨o,r⟩
 ·exact x a u r
 ·obtain ⟨_,q⟩:=x a _ r;exact q
noncomputable def Mut:Option HO->Prop
 | some (.lst _)=>True
 | some (.dK _)=>True
 | some (.dT _)=>True
 | some (.set _ _)=>True
 | some (.ins _ _ _)=>True
 | some (.ext _)=>True
 | _=>False
section
variable {P:Program} {w:World} {H:Hp} {h h':Heap} {x e:Addr} {o':HO}
theorem HOk.write (ok:HOk P w H h) (mu:Mut (H x)) (he:e=x\/H e=some (.own x)) (k:∀ b u,b≠e->h.get? b=some u->h'.get? b=some u) (heo:∃ u,h'.get? e=some u)
  (new:ObjOk P w (upd H x o') h' x o'):HOk P w (upd H x o') h':=fun b u q=>by
 have nown:∀ c y,H c=some (.own y)->c≠x:=fun c y r z=>by subst z; rw [r] at mu; exact mu
 have ntup:∀ c xs,H c=some (.tup xs)->c≠x:=fun c xs r z=>by subst z; rw [r] at mu; exact mu
 by_cases hb:b=x
 ·subst hb; rw [upd_same] at q; cases q; exact new
 ·rw [ao hb] at q;by_cases hbe:b=e
  ·have q':H b=some (.own x):=by
    rcases he with z | z
    ·exact absurd (hbe.trans z) hb
    ·rw [hbe]; exact z
   rw [q] at q'; cases q';obtain ⟨v,hv⟩:=heo;exact ⟨v,by rw [hbe]; exact hv⟩
  ·refine (ok b u q).stay (fun c v hc r=>k c v ?_ r) (fun c r=>by rw [ao (nown c b r)]; exact r) fun c xs r=>by rw [ao (ntup c xs r)]; exact r
   rcases hc with rfl | hc
   ·exact hbe
   ·rintro rfl;rcases he with z | z
    ·exact nown c b hc z
    ·rw [hc] at z; cases z; exact hb rfl
end
structure Un (fs ex:List Addr) (H H':Hp) (h h':Heap):Prop where
 keep:∀ b o,h.get? b=some o->H b=none->b ∉ fs->b ∉ ex->h'.get? b=some o
 slot:∀ b o,h.get? b=some o->H b=none->b ∈ fs->b ∉ ex->∃ sl,h'.get? b=some { o with slots:=sl }
 free:∀ b o,h.get? b=some o->H b=none->b ∉ ex->H' b=none
 there:∀ b o,h.get? b=some o->b ∉ ex->∃ o',h'.get? b=some o'
 tups:∀ b xs,H b=some (.tup xs)->H' b=some (.tup xs)
 frzs:∀ b o xs,H b=some (.frz o (.lst xs))->H' b=some (.frz o (.lst xs))
 tbls:∀ b ps,H b=some (.tbl ps)->∃ more,H' b=some (.tbl (ps++more))
section
variable {fs fs' ex ex':List Addr} {H H1 H2:Hp} {h h1 h2 h':Heap} {a x e:Addr} {o:HO}
theorem Un.any (u:Un fs ex H H1 h h1) {b:Addr} {ob:Obj} (q:h.get? b=some ob) (n:H b=none) (hx:b ∉ ex):∃ sl,h1.get? b=some { ob with slots:=sl }:=by
 by_cases hb:b ∈ fs
 ·exact u.slot b ob q n hb hx
 ·exact ⟨ob.slots,u.keep b ob q n hb hx⟩
theorem Un.kept (k:∀ b u,h.get? b=some u->h'.get? b=some u):Un fs ex H H h h':=
 ⟨fun b ob q _ _ _=>k b ob q,fun b ob q _ _ _=>⟨ob.slots,k b ob q⟩,fun _ _ _ n _=>n,fun b ob q _=>⟨ob,k b ob q⟩,fun _ _ q=>q,fun _ _ _ q=>q,fun _ ps q=>⟨#[],by rw [q]; simp⟩⟩
theorem Un.refl:Un fs ex H H h h:=Un.kept fun _ _ q=>q
theorem Un.laid (k:∀ b u,h.get? b=some u->h'.get? b=some u) (hp:h.objs.size<=a) (hn:H a=none):Un fs ex H (upd H a o) h h' where
 keep:=fun b u q _ _ _=>k b u q
 slot:=fun b u q _ _ _=>⟨u.slots,k b u q⟩
 free:=fun b u q n _=>by rw [ao (Nat.ne_of_lt (Nat.lt_of_lt_of_le (Heap.lt_size q) hp))]; exact n
 there:=fun b u q _=>⟨u,k b u q⟩
 tups:=fun b xs q=>by rw [ao (aX q hn)]; exact q
 frzs:=fun b u xs q=>by rw [ao (aX q hn)]; exact q
 tbls:=fun b ps q=>⟨#[],by rw [ao (aX q hn),q]; simp⟩
theorem Un.write (mu:Mut (H x)) (he:e=x\/H e=some (.own x)) (k:∀ b u,b≠e->h.get? b=some u->h'.get? b=some u) (heo:∃ u,h'.get? e=some u):Un fs ex H (upd H x o) h h':=by
 have hx:∀ b,H b=none->b≠x:=fun b n z=>by subst z; rw [n] at mu; exact mu
 have hb:∀ b,H b=none->b≠e:=fun b n z=>by
  subst z;rcases he with r | r
  ·exact hx b n r
  ·rw [n] at r; cases r
 have hm:∀ b u,H b=some u->¬ Mut (some u)->b≠x:=fun b u q nm z=>by subst z; rw [q] at mu; exact nm mu
 refine ⟨fun b u q n _ _=>k b u (hb b n) q,fun b u q n _ _=>⟨u.slots,k b u (hb b n) q⟩,fun b u q n _=>by rw [ao (hx b n)]; exact n,fun b u q _=>?_,
  fun b xs q=>by rw [ao (hm b _ q fun z=>z)]; exact q,fun b u xs q=>by rw [ao (hm b _ q fun z=>z)]; exact q,fun b ps q=>⟨#[],by rw [ao (hm b _ q fun z=>z),q]; simp⟩⟩
 by_cases hbe:b=e
 ·subst hbe; exact heo
 ·exact ⟨u,k b u hbe q⟩
end
noncomputable def trk (h:Heap) (H:Hp):List Addr:=(List.range h.objs.size).filter fun a=>(H a).isSome
noncomputable def hidT (h:Heap) (H:Hp):Heap:=PySem.W.hideAll h (trk h H)
theorem uI (h:Heap) (H:Hp):(hidT h H).objs.size=h.objs.size:=PySem.W.hideAll_size _ _
theorem w6 {h:Heap} {H:Hp} {b:Addr} {o:Obj} (e:h.get? b=some o) (n:H b=none):(hidT h H).get? b=some o:=
 PySem.W.hideAll_get _ e fun hm=>by
  have q:(H b).isSome=true:=(List.mem_filter.mp hm).2;rw [n] at q; simp at q
theorem z8 {h:Heap} {H:Hp} {b:Addr} {o:Obj} (e:(hidT h H).get? b=some o):h.get? b=some o/\H b=none:=by
 have e':h.get? b=some o:=PySem.W.of_hideAll (trk h H) e;refine ⟨e',?_⟩;cases q:H b with
 | none=>rfl
 | some x=>
  have hm:b ∈ trk h H:=List.mem_filter.mpr ⟨List.mem_range.mpr (Heap.lt_size e'),by simp [q]⟩;have z:(hidT h H).get? b=none:=PySem.W.hideAll_none (trk h H) hm;rw [z] at e; cases e
noncomputable def allNews (g h:Heap) (L:Addr):List (Addr × Obj):=(List.range h.objs.size).filterMap fun a=>if a=L\/(g.get? a).isSome=true then none else (h.get? a).map fun o=>(a,o)
theorem lh {g h:Heap} {L a:Addr} {o:Obj} (h1:a≠L) (h2:g.get? a=none) (h3:h.get? a=some o):(a,o) ∈ allNews g h L:=
 List.mem_filterMap.mpr ⟨a,List.mem_range.mpr (Heap.lt_size h3),by simp [h1,h2,h3]⟩
theorem mB {g h:Heap} {L:Addr} {p:Addr × Obj} (hp:p ∈ allNews g h L):p.1≠L/\g.get? p.1=none/\h.get? p.1=some p.2:=by
 obtain ⟨b,_,e⟩:=List.mem_filterMap.mp hp;split at e
 ·cases e
 ·rename_i hn;cases q:h.get? b with
  | none=>rw [q] at e; simp at e
  | some u=>
   rw [q] at e;simp only [Option.map_some,Option.some.injEq] at e;subst e;refine ⟨fun z=>hn (.inl z),?_,q⟩;show g.get? b=none;cases r:g.get? b with
   | none=>rfl
   | some v=>exact (hn (.inr (by simp [r]))).elim
noncomputable def rest (g h:Heap) (L d:Addr):List (Addr × Obj):=(allNews g h L).filter fun p=>decide (p.1≠d)
theorem xk {g h:Heap} {L:Addr}:News g L h (allNews g h L):=fun p hp=>let ⟨a,b,c⟩:=mB hp; ⟨c,a,b⟩
structure Mod (K:Frag) (mg:Str->Option Value) (base:Heap):Prop where
 kin:K.In base
 glob:base.Ns mainGlobals mg
 blt:∃ mb,base.Ns builtinsNs mb/\∀ x:Str,x ≠ "__name__" -> mb x=bootBuiltins x
 nolimit:base.NoLimit
structure Cx where
 prog:Program
 w:World
 K:Frag
 mg:Str->Option Value
 base:Heap
 A:Around
 N:List Str
 s₀:Shared
 H₀:Hp
 env:Env
 outer:List Env
 stack:List Env
 ex:List Addr
 fn:Str->Bool
 calm:Bool
 pn:List (Addr × Obj)
 xe:Value->Shared->Prop
noncomputable def frs (l:List Env):List Addr:=l.filterMap (·.frame)
noncomputable abbrev Cx.fs (X:Cx):List Addr:=frs X.outer
def Vis (sc:Scope) (x:Str):Prop:=sc.names.lookup x=some .local\/sc.names.lookup x=some .cell\/sc.names.lookup x=some .free
def Loc (sc:Scope) (x:Str):Prop:=sc.names.lookup x=some .local\/sc.names.lookup x=some .cell
def Look (env:Env) (h:Heap) (m:Str->Option Value) (x:Str) (u:Value):Prop:=
 (env.kindOf x=some .local/\m x=some u)\/((env.kindOf x=some .cell\/env.kindOf x=some .free)/\∃ c,env.cells.lookup x=some c/\h.IsCell c (some u))
structure Cx.Ok (X:Cx):Prop where
 mod:Mod X.K X.mg X.base
 kind:X.env.scope.kind=.function
 glob:X.env.globals=mainGlobals
 blt:X.env.builtins=builtinsNs
 above:X.s₀.heap.objs.size<=X.env.locals
 inj:∀ x y c,X.env.cells.lookup x=some c->X.env.cells.lookup y=some c->x=y
 has:∀ x,(X.env.kindOf x=some .cell\/X.env.kindOf x=some .free)->∃ c,X.env.cells.lookup x=some c
 cab:∀ x c,X.fn x=true->X.env.cells.lookup x=some c->X.s₀.heap.objs.size<=c
 hd:X.calm=true->X.A.handled=none
 frames:X.A.frames=some X.stack
 stk:X.stack=X.outer\/(X.stack=X.env::X.outer/\X.env.frame=some X.env.locals)
 exf:∀ b ∈ X.ex,b≠X.env.locals/\∀ x c,X.env.cells.lookup x=some c->c≠b
 bs:∀ b o,X.base.get? b=some o->X.s₀.heap.get? b=some o/\X.H₀ b=none
 bsz:X.base.objs.size<=X.s₀.heap.objs.size
 noex:∀ b o,X.base.get? b=some o->b ∉ X.ex
 exfs:∀ b ∈ X.ex,b ∉ X.fs
 funs:X.s₀.heap.FunFrames X.base X.outer
 frf:∀ b ∈ X.fs,X.H₀ b=none
structure Inv (X:Cx) (pins:List (Addr × Obj)) (σ:List (Option V)) (H:Hp) (s:Shared):Prop where
 ok:X.Ok
 os:s.os=X.s₀.os
 bare:AllBare s.gens
 base:Un X.fs X.ex X.H₀ H X.s₀.heap s.heap
 loc:∃ m,s.heap.Ns X.env.locals m/\∀ (i:Nat) (x:Str) (v:V),X.N[i]? = some x->σ[i]? = some (some v)->Vis X.env.scope x->∃ u,RelV v u/\Look X.env s.heap m x u
 cell:∀ x c,X.env.cells.lookup x=some c->∃ v,s.heap.IsCell c v
 free:H X.env.locals=none
 freeC:∀ x c,X.env.cells.lookup x=some c->H c=none
 pin:∀ p ∈ X.pn++pins,s.heap.get? p.1=some p.2/\H p.1=none/\p.1≠X.env.locals/\p.1 ∉ X.fs/\∀ v,p.2.data≠.cell v
 hok:HOk X.prog X.w H s.heap
 len:σ.length=X.N.length
 tk:0 < s.toks
section
variable {X:Cx} {pins:List (Addr × Obj)} {σ:List (Option V)} {H H':Hp} {s:Shared} {h':Heap}
theorem Cx.Ok.nofr (ok:X.Ok) {b:Addr} {o:Obj} (e:X.base.get? b=some o):b ∉ X.fs:=fun hb=>by
 have:=(ok.funs.mem hb).1;rw [e] at this; cases this
theorem Inv.bs (I:Inv X pins σ H s):∀ b o,X.base.get? b=some o->s.heap.get? b=some o/\H b=none:=fun b o e=>
 ⟨I.base.keep b o (I.ok.bs b o e).1 (I.ok.bs b o e).2 (I.ok.nofr e) (I.ok.noex b o e),I.base.free b o (I.ok.bs b o e).1 (I.ok.bs b o e).2 (I.ok.noex b o e)⟩
theorem Inv.bk (I:Inv X pins σ H s):∀ b o,X.base.get? b=some o->s.heap.get? b=some o:=fun b o e=>(I.bs b o e).1
theorem Inv.mod (I:Inv X pins σ H s):Mod X.K X.mg X.base:=I.ok.mod
theorem Inv.kIn (I:Inv X pins σ H s):X.K.In s.heap:=I.ok.mod.kin.keeps I.bk
theorem Inv.fr (I:Inv X pins σ H s):∃ m,Fr X.base X.env.locals s.heap m:=
 let ⟨m,hn,_⟩:=I.loc
 ⟨m,hn,I.bk,Nat.le_trans I.ok.bsz I.ok.above⟩
theorem Inv.lt (I:Inv X pins σ H s):X.env.locals < s.heap.objs.size:=let ⟨_,hn,_⟩:=I.loc; hn.lt
theorem Inv.sz (I:Inv X pins σ H s):X.s₀.heap.objs.size<=s.heap.objs.size:=Nat.le_trans I.ok.above (Nat.le_of_lt I.lt)
theorem Inv.nofs (I:Inv X pins σ H s) {a:Addr} (h:s.heap.objs.size<=a):a ∉ X.fs:=fun hb=>by
 obtain ⟨_,o,ho,_⟩:=I.ok.funs.mem hb;exact absurd (Nat.lt_of_lt_of_le (Heap.lt_size ho) (Nat.le_trans I.sz h)) (Nat.lt_irrefl _)
theorem Inv.cne (I:Inv X pins σ H s):∀ x c,X.env.cells.lookup x=some c->c≠X.env.locals:=fun x c e z=>by
 obtain ⟨v,o,ho,hd⟩:=I.cell x c e;obtain ⟨m,⟨o',es,ep,ho',hd',_⟩,_⟩:=I.loc;rw [z,ho'] at ho; cases ho; rw [hd'] at hd; cases hd
theorem Inv.funs (I:Inv X pins σ H s):s.heap.FunFrames X.base X.outer:=by
 have all:∀ (l:List Env),(∀ b ∈ frs l,b ∈ X.fs)->X.s₀.heap.FunFrames X.base l->s.heap.FunFrames X.base l:=by
  intro l
  induction l with
  | nil=>intro _ _; trivial
  | cons env r ih=>
   intro hs hl;obtain ⟨hk,⟨L,o,hf,hn,ho,hd⟩,hr⟩:=hl;have hL:L ∈ X.fs:=hs L (by unfold frs; rw [List.filterMap_cons,hf]; exact List.mem_cons_self);obtain ⟨sl,e⟩:=I.base.slot L o ho (I.ok.frf L hL) hL fun z=>I.ok.exfs L z hL
   exact ⟨hk,⟨L,_,hf,hn,e,hd⟩,ih (fun b hb=>hs b (by unfold frs; rw [List.filterMap_cons,hf]; exact List.mem_cons_of_mem _ hb)) hr⟩
 exact all X.outer (fun _ hb=>hb) I.ok.funs
theorem Inv.stack (I:Inv X pins σ H s):s.heap.FunFrames X.base X.stack:=by
 rcases I.ok.stk with e | ⟨e,hf⟩
 ·rw [e]; exact I.funs
 ·rw [e];obtain ⟨m,hn,_⟩:=I.loc;refine .cons (by rw [I.ok.kind]; decide) hf hn ?_ I.funs;exact Heap.get?_none_of_le (Nat.le_trans I.ok.bsz I.ok.above)
theorem Inv.stkSub (I:Inv X pins σ H s):∀ b ∈ frs X.stack,b ∈ X.env.locals::X.fs:=fun b hb=>by
 rcases I.ok.stk with e | ⟨e,hf⟩
 ·rw [e] at hb; exact List.mem_cons_of_mem _ hb
 ·rw [e] at hb;unfold frs at hb;rw [List.filterMap_cons,hf] at hb;exact hb
theorem Inv.stkFree (I:Inv X pins σ H s):∀ b ∈ frs X.stack,H b=none:=fun b hb=>by
 rcases List.mem_cons.mp (I.stkSub b hb) with e | hb
 ·rw [e]; exact I.free
 ·obtain ⟨_,o,ho,_⟩:=I.ok.funs.mem hb;exact I.base.free b o ho (I.ok.frf b hb) fun z=>I.ok.exfs b z hb
theorem Inv.step {g':Array GenState} {t':Nat} {d':Drawn} {ch:List Addr} (I:Inv X pins σ H s)
  (hch:∀ b ∈ ch,(b ∈ X.ex\/X.s₀.heap.objs.size<=b)/\b≠X.env.locals/\(∀ x c,X.env.cells.lookup x=some c->c≠b)/\∀ p ∈ X.pn++pins,p.1≠b)
  (keep:∀ b o,b≠X.env.locals->b ∉ X.fs->b ∉ ch->s.heap.get? b=some o->H b=none->h'.get? b=some o)
  (slot:∀ b o,b≠X.env.locals->b ∈ X.fs->b ∉ ch->s.heap.get? b=some o->H b=none->∃ sl,h'.get? b=some { o with slots:=sl }) (free:∀ b o,b ∉ ch->s.heap.get? b=some o->H b=none->H' b=none)
  (there:∀ b o,b ∉ ch->s.heap.get? b=some o->∃ o',h'.get? b=some o')
  (tups:∀ b xs,H b=some (.tup xs)->H' b=some (.tup xs)) (frzs:∀ b o xs,H b=some (.frz o (.lst xs))->H' b=some (.frz o (.lst xs))) (tbls:∀ b ps,H b=some (.tbl ps)->∃ more,H' b=some (.tbl (ps++more)))
  (ns:∀ m,s.heap.Ns X.env.locals m->h'.Ns X.env.locals m) (hok:HOk X.prog X.w H' h') (hg:AllBare g') (ht:0 < t':=by first | assumption | exact Nat.succ_pos _ | (apply Inv.tk; assumption) | lia):
  Inv X pins σ H' { s with heap:=h',gens:=g',drawn:=d',toks:=t' }:=by
 have neL:∀ b o,X.s₀.heap.get? b=some o->b≠X.env.locals:=fun b o e=>Nat.ne_of_lt (Nat.lt_of_lt_of_le (Heap.lt_size e) I.ok.above)
 have neC:∀ b o,X.s₀.heap.get? b=some o->b ∉ X.ex->b ∉ ch:=fun b o e hx hb=>by
  rcases (hch b hb).1 with z | z
  ·exact hx z
  ·exact absurd (Nat.lt_of_lt_of_le (Heap.lt_size e) z) (Nat.lt_irrefl _)
 have cellK:∀ x c,X.env.cells.lookup x=some c->∀ v,s.heap.IsCell c v->h'.IsCell c v:=fun x c e v ⟨o,ho,hd⟩=>by
  have nch:c ∉ ch:=fun z=>(hch c z).2.2.1 x c e rfl
  by_cases hc:c ∈ X.fs
  ·obtain ⟨sl,q⟩:=slot c o (I.cne x c e) hc nch ho (I.freeC x c e);exact ⟨_,q,hd⟩
  ·exact ⟨o,keep c o (I.cne x c e) hc nch ho (I.freeC x c e),hd⟩
 refine ⟨I.ok,I.os,hg,⟨fun b o e n hb hx=>?_,fun b o e n hb hx=>?_,fun b o e n hx=>?_,fun b o e hx=>?_,fun b xs e=>tups b xs (I.base.tups b xs e),fun b o xs e=>frzs b o xs (I.base.frzs b o xs e),fun b ps e=>?_⟩,?_,fun x c e=>?_,?_,fun x c e=>?_,fun p hp=>?_,hok,I.len,ht⟩
 ·exact keep b o (neL b o e) hb (neC b o e hx) (I.base.keep b o e n hb hx) (I.base.free b o e n hx)
 ·obtain ⟨sl,e1⟩:=I.base.slot b o e n hb hx;obtain ⟨sl',e2⟩:=slot b _ (neL b o e) hb (neC b o e hx) e1 (I.base.free b o e n hx);exact ⟨sl',e2⟩
 ·obtain ⟨o',e1⟩:=I.base.there b o e hx;exact free b o' (neC b o e hx) e1 (I.base.free b o e n hx)
 ·obtain ⟨o',e1⟩:=I.base.there b o e hx;exact there b o' (neC b o e hx) e1
 ·obtain ⟨m1,e1⟩:=I.base.tbls b ps e;obtain ⟨m2,e2⟩:=tbls b _ e1;exact ⟨m1++m2,by rw [e2,Array.append_assoc]⟩
 ·obtain ⟨m,hn,hl⟩:=I.loc;refine ⟨m,ns m hn,fun i x v e1 e2 e3=>?_⟩;obtain ⟨u,r,l⟩:=hl i x v e1 e2 e3;refine ⟨u,r,?_⟩;rcases l with l | ⟨k,c,e,z⟩
  ·exact .inl l
  ·exact .inr ⟨k,c,e,cellK x c e _ z⟩
 ·obtain ⟨v,z⟩:=I.cell x c e;exact ⟨v,cellK x c e v z⟩
 ·obtain ⟨m,⟨o,_,_,ho,_⟩,_⟩:=I.loc;exact free _ o (fun z=>(hch _ z).2.1 rfl) ho I.free
 ·obtain ⟨v,o,ho,hd⟩:=I.cell x c e;exact free c o (fun z=>(hch c z).2.2.1 x c e rfl) ho (I.freeC x c e)
 ·obtain ⟨e,n,ne,nf,d⟩:=I.pin p hp;have nch:p.1 ∉ ch:=fun z=>(hch p.1 z).2.2.2 p hp rfl
  exact ⟨keep p.1 p.2 ne nf nch e n,free p.1 p.2 nch e n,ne,nf,d⟩
theorem Inv.un {t':Nat} (I:Inv X pins σ H s) (u:Un X.fs [] H H' s.heap h') (hok:HOk X.prog X.w H' h') (ht:0 < t':=by first | assumption | exact Nat.succ_pos _ | (apply Inv.tk; assumption) | lia):Inv X pins σ H' { s with heap:=h',toks:=t' }:=by
 obtain ⟨m,⟨o,es,ep,ho,r⟩,_⟩:=id I.loc;obtain ⟨sl,hL⟩:=u.any ho I.free (by simp);exact I.step (g':=s.gens) (d':=s.drawn) (ch:=[]) (fun _ z=>nomatch z) (fun b o _ hb _ e n=>u.keep b o e n hb (by simp)) (fun b o _ hb _ e n=>u.slot b o e n hb (by simp)) (fun b o _ e n=>u.free b o e n (by simp)) (fun b o _ e=>u.there b o e (by simp)) u.tups u.frzs u.tbls (fun m' hm=>by
  obtain ⟨o',es',ep',ho',r'⟩:=hm;rw [ho] at ho'; cases ho';exact ⟨_,es',ep',hL,r'⟩) hok I.bare ht
theorem Inv.call {g':Array GenState} {t':Nat} {d':Drawn} {ch:List Addr} (I:Inv X pins σ H s) (u:Un (frs X.stack) ch H H' s.heap h') (hok:HOk X.prog X.w H' h') (hg:AllBare g')
  (hch:∀ b ∈ ch,(b ∈ X.ex\/X.s₀.heap.objs.size<=b)/\b≠X.env.locals/\(∀ x c,X.env.cells.lookup x=some c->c≠b)/\∀ p ∈ X.pn++pins,p.1≠b) (ht:0 < t':=by first | assumption | exact Nat.succ_pos _ | (apply Inv.tk; assumption) | lia):
  Inv X pins σ H' { s with heap:=h',gens:=g',drawn:=d',toks:=t' }:=by
 obtain ⟨m,⟨o,es,ep,ho,r⟩,_⟩:=id I.loc;obtain ⟨sl,hL⟩:=u.any ho I.free fun z=>(hch _ z).2.1 rfl
 exact I.step (ch:=ch) hch (fun b o hL hb hc e n=>u.keep b o e n (fun z=>(List.mem_cons.mp (I.stkSub b z)).elim hL hb) hc) (fun b o _ _ hc e n=>u.any e n hc) (fun b o hc e n=>u.free b o e n hc) (fun b o hc e=>u.there b o e hc) u.tups u.frzs u.tbls (fun m' hm=>by
  obtain ⟨o',es',ep',ho',r'⟩:=hm;rw [ho] at ho'; cases ho';exact ⟨_,es',ep',hL,r'⟩) hok hg ht
theorem Inv.turned {t':Nat} {it:Addr} (I:Inv X pins σ H s) (k:∀ b o,b≠it->s.heap.get? b=some o->h'.get? b=some o) (hn:H it=none) (hL:it≠X.env.locals)
  (h1:it ∈ X.ex\/X.s₀.heap.objs.size<=it) (h2:∀ x c,X.env.cells.lookup x=some c->c≠it) (h3:∀ p ∈ X.pn++pins,p.1≠it) (ht:0 < t':=by first | assumption | exact Nat.succ_pos _ | (apply Inv.tk; assumption) | lia):Inv X pins σ H { s with heap:=h',toks:=t' }:=by
 have nit:∀ b u,H b=some u->b≠it:=fun b u e z=>by rw [z,hn] at e; cases e
 refine I.step (g':=s.gens) (d':=s.drawn) (ch:=[it]) (fun b hb=>?_) (fun b o _ _ hc e _=>k b o (fun z=>hc (by simp [z])) e) (fun b o _ _ hc e _=>⟨o.slots,k b o (fun z=>hc (by simp [z])) e⟩) (fun _ _ _ _ n=>n)
  (fun b o hc e=>⟨o,k b o (fun z=>hc (by simp [z])) e⟩) (fun _ _ e=>e) (fun _ _ _ e=>e) (fun b ps e=>⟨#[],by rw [e]; simp⟩) (fun m hm=>?_) (fun b u e=>?_) I.bare
 ·have e:b=it:=by simpa using hb
  subst e;exact ⟨h1,hL,h2,h3⟩
 ·obtain ⟨o,es,ep,ho,r⟩:=hm;exact ⟨o,es,ep,k _ o (Ne.symm hL) ho,r⟩
 ·refine (I.hok b u e).stay (fun c v hc q=>k c v ?_ q) (fun _ q=>q) fun _ _ q=>q
  rcases hc with z | z
  ·rw [z]; exact nit b u e
  ·exact nit c _ z
theorem Inv.tok (I:Inv X pins σ H s) (t:Nat) (ht:0 < t:=by first | assumption | exact Nat.succ_pos _ | (apply Inv.tk; assumption) | lia):Inv X pins σ H { s with toks:=t }:=I.un (h':=s.heap) (t':=t) Un.refl I.hok ht
theorem Inv.kept {t':Nat} (I:Inv X pins σ H s) (k:∀ b u,s.heap.get? b=some u->h'.get? b=some u) (ht:0 < t':=by first | assumption | exact Nat.succ_pos _ | (apply Inv.tk; assumption) | lia):Inv X pins σ H { s with heap:=h',toks:=t' }:=I.un (Un.kept k) (I.hok.kept k) ht
theorem Inv.laid {a:Addr} {o:HO} {t':Nat} (I:Inv X pins σ H s) (k:∀ b u,s.heap.get? b=some u->h'.get? b=some u) (hp:s.heap.objs.size<=a) (new:ObjOk X.prog X.w (upd H a o) h' a o) (ht:0 < t':=by first | assumption | exact Nat.succ_pos _ | (apply Inv.tk; assumption) | lia):
  Inv X pins σ (upd H a o) { s with heap:=h',toks:=t' }:=I.un (Un.laid k hp (I.hok.fresh hp)) (I.hok.laid k hp new) ht
theorem Inv.write {x e:Addr} {o:HO} {t':Nat} (I:Inv X pins σ H s) (mu:Mut (H x)) (he:e=x\/H e=some (.own x)) (k:∀ b u,b≠e->s.heap.get? b=some u->h'.get? b=some u) (heo:∃ u,h'.get? e=some u)
  (new:ObjOk X.prog X.w (upd H x o) h' x o) (ht:0 < t':=by first | assumption | exact Nat.succ_pos _ | (apply Inv.tk; assumption) | lia):Inv X pins σ (upd H x o) { s with heap:=h',toks:=t' }:=I.un (Un.write mu he k heo) (I.hok.write mu he k heo new) ht
theorem Inv.weak {σ':List (Option V)} (I:Inv X pins σ H s) (hl:σ'.length=σ.length) (w:∀ (i:Nat) v,σ'[i]? = some (some v)->σ[i]? = some (some v)):Inv X pins σ' H s:=
 ⟨I.ok,I.os,I.bare,I.base,let ⟨m,hn,hl'⟩:=I.loc; ⟨m,hn,fun i x v e1 e2 e3=>hl' i x v e1 (w i v e2) e3⟩,I.cell,I.free,I.freeC,I.pin,I.hok,hl.trans I.len,I.tk⟩
theorem Inv.pins_of {pins':List (Addr × Obj)} (I:Inv X pins σ H s) (h:∀ p ∈ pins',s.heap.get? p.1=some p.2/\H p.1=none/\p.1≠X.env.locals/\p.1 ∉ X.fs/\∀ v,p.2.data≠.cell v):Inv X pins' σ H s:=
 ⟨I.ok,I.os,I.bare,I.base,I.loc,I.cell,I.free,I.freeC,fun p hp=>(List.mem_append.mp hp).elim (fun z=>I.pin p (List.mem_append_left _ z)) (h p),I.hok,I.len,I.tk⟩
theorem mx {N:List Str} (hN:N.Nodup) {i j:Nat} {x:Str} (a:N[i]? = some x) (b:N[j]? = some x):i=j:=by
 obtain ⟨h1,e1⟩:=List.getElem?_eq_some_iff.mp a;obtain ⟨h2,e2⟩:=List.getElem?_eq_some_iff.mp b;exact (List.getElem_inj hN).mp (e1.trans e2.symm)
theorem pG {M:Model} {A:Around} {E:Value->Shared->Prop} {i:Nat} {x:Str} {v:V} {u:Value} {Q:Unit->Shared->Prop} (I:Inv X pins σ H s) (hN:X.N.Nodup) (hi:X.N[i]? = some x) (hx:Loc X.env.scope x) (r:RelV v u)
  (h:∀ s',Inv X pins (σ.set i (some v)) H s'->(∃ a,Heap.SameBut a s.heap s'.heap/\(a=X.env.locals\/X.env.cells.lookup x=some a))->Q () s') (hf:X.fn x=true\/X.env.scope.names.lookup x=some .local:=by first | exact .inl rfl | exact .inr rfl | assumption):wpAny M A (storeName X.env x u) Q E s:=by
 obtain ⟨m,hn,hl⟩:=id I.loc;have hcls:(X.env.scope.kind == .class || (X.env.scope.kind == .module && X.env.locals != X.env.globals))=false:=by rw [I.ok.kind]; rfl
 have hiσ:i < σ.length:=by rw [I.len]; exact (List.getElem?_eq_some_iff.mp hi).1
 have cne:=I.cne;have tracked:∀ {a:Addr} {h':Heap},(∃ o,s.heap.get? a=some o/\H a=none)->Heap.SameBut a s.heap h'->HOk X.prog X.w H h':=fun {a h'} ha hs b ob e=>by
  obtain ⟨_,_,hfree⟩:=ha;refine (I.hok b ob e).stay (fun c w' hc q=>(hs.2 c ?_).trans q) (fun _ q=>q) fun _ _ q=>q
  rintro rfl;rcases hc with rfl | hc
  ·rw [hfree] at e; cases e
  ·rw [hfree] at hc; cases hc
 rcases hx with hk | hk
 ·refine wpAny_storeName_local hk hn (fun h' hn' hs=>?_) hcls;obtain ⟨oL,_,_,hoL,_⟩:=id hn;refine h _ ⟨I.ok,I.os,I.bare,⟨fun b o e n hb hx=>?_,fun b o e n hb hx=>?_,I.base.free,fun b o e hx=>?_,I.base.tups,I.base.frzs,I.base.tbls⟩,⟨_,hn',fun j y v' e1 e2 e3=>?_⟩,fun y c e=>?_,I.free,I.freeC,fun p hp=>?_,tracked ⟨oL,hoL,I.free⟩ hs,by simpa using I.len,(by first | exact Nat.succ_pos _ | exact I.tk)⟩ ⟨_,hs,.inl rfl⟩
  ·exact (hs.2 b (Nat.ne_of_lt (Nat.lt_of_lt_of_le (Heap.lt_size e) I.ok.above))).trans (I.base.keep b o e n hb hx)
  ·obtain ⟨sl,e1⟩:=I.base.slot b o e n hb hx;exact ⟨sl,(hs.2 b (Nat.ne_of_lt (Nat.lt_of_lt_of_le (Heap.lt_size e) I.ok.above))).trans e1⟩
  ·obtain ⟨o',e1⟩:=I.base.there b o e hx;exact ⟨o',(hs.2 b (Nat.ne_of_lt (Nat.lt_of_lt_of_le (Heap.lt_size e) I.ok.above))).trans e1⟩
  ·by_cases hj:j=i
   ·subst hj;rw [hi] at e1; cases e1;rw [List.getElem?_set_self hiσ] at e2;cases e2;exact ⟨u,r,.inl ⟨hk,by simp⟩⟩
   ·rw [List.getElem?_set_ne (Ne.symm hj)] at e2;obtain ⟨u',r',q⟩:=hl j y v' e1 e2 e3;refine ⟨u',r',?_⟩;rcases q with ⟨k,e⟩ | ⟨k,c,e,z⟩
    ·refine .inl ⟨k,?_⟩;have:y≠x:=fun e=>hj (mx hN e1 (e ▸ hi))
     simp [this,e]
    ·exact .inr ⟨k,c,e,z.sameBut hs (cne y c e)⟩
  ·obtain ⟨w',z⟩:=I.cell y c e;exact ⟨w',z.sameBut hs (cne y c e)⟩
  ·obtain ⟨e,n,ne,nf,d⟩:=I.pin p hp;exact ⟨(hs.2 p.1 ne).trans e,n,ne,nf,d⟩
 ·have hfn:X.fn x=true:=by
   rcases hf with z | z
   ·exact z
   ·rw [z] at hk; cases hk
  obtain ⟨c,hc⟩:=I.ok.has x (.inl hk);obtain ⟨w',z⟩:=I.cell x c hc;refine wpAny_storeName_cell I.ok.kind hk hc z (fun h' hc' hs=>?_);obtain ⟨oc,hoc,hocd⟩:=id z;refine h { s with heap:=h' } ⟨I.ok,I.os,I.bare,⟨fun b o e n hb hx=>?_,fun b o e n hb hx=>?_,I.base.free,fun b o e hx=>?_,I.base.tups,I.base.frzs,I.base.tbls⟩,⟨m,hn.sameBut hs (Ne.symm (cne x c hc)),fun j y v' e1 e2 e3=>?_⟩,fun y c' e=>?_,I.free,I.freeC,fun p hp=>?_,tracked ⟨oc,hoc,I.freeC x c hc⟩ hs,by simpa using I.len,I.tk⟩ ⟨c,hs,.inr hc⟩
  ·exact (hs.2 b (Nat.ne_of_lt (Nat.lt_of_lt_of_le (Heap.lt_size e) (I.ok.cab x c hfn hc)))).trans (I.base.keep b o e n hb hx)
  ·obtain ⟨sl,e1⟩:=I.base.slot b o e n hb hx;exact ⟨sl,(hs.2 b (Nat.ne_of_lt (Nat.lt_of_lt_of_le (Heap.lt_size e) (I.ok.cab x c hfn hc)))).trans e1⟩
  ·obtain ⟨o',e1⟩:=I.base.there b o e hx;exact ⟨o',(hs.2 b (Nat.ne_of_lt (Nat.lt_of_lt_of_le (Heap.lt_size e) (I.ok.cab x c hfn hc)))).trans e1⟩
  ·by_cases hj:j=i
   ·subst hj;rw [hi] at e1; cases e1;rw [List.getElem?_set_self hiσ] at e2;cases e2;exact ⟨u,r,.inr ⟨.inl hk,c,hc,hc'⟩⟩
   ·rw [List.getElem?_set_ne (Ne.symm hj)] at e2;obtain ⟨u',r',q⟩:=hl j y v' e1 e2 e3;refine ⟨u',r',?_⟩;rcases q with q | ⟨k,c',e,z'⟩
    ·exact .inl q
    ·refine .inr ⟨k,c',e,z'.sameBut hs ?_⟩;rintro rfl;exact hj (mx hN e1 (I.ok.inj _ _ _ e hc ▸ hi))
  ·by_cases hcc:c'=c
   ·subst hcc; exact ⟨_,hc'⟩
   ·obtain ⟨w2,z2⟩:=I.cell y c' e;exact ⟨w2,z2.sameBut hs hcc⟩
  ·obtain ⟨e,n,ne,nf,d⟩:=I.pin p hp;refine ⟨(hs.2 p.1 ?_).trans e,n,ne,nf,d⟩;intro q;rw [q,hoc] at e;have q':oc=p.2:=Option.some.inj e;exact d w' (by rw [<- q']; exact hocd)
theorem nq {M:Model} {A:Around} {E:Value->Shared->Prop} {i:Nat} {x:Str} {v:V} {u:Value} {Q:Unit->Shared->Prop} (I:Inv X pins σ H s) (hN:X.N.Nodup) (hi:X.N[i]? = some x) (hx:Loc X.env.scope x) (r:RelV v u)
  (h:∀ s',Inv X pins (σ.set i (some v)) H s'->Q () s') (hf:X.fn x=true\/X.env.scope.names.lookup x=some .local:=by first | exact .inl rfl | exact .inr rfl | assumption):wpAny M A (storeName X.env x u) Q E s:=
 pG I hN hi hx r (fun s' I' _=>h s' I') hf
theorem Inv.call' {s':Shared} {ch:List Addr} (I:Inv X pins σ H s) (ho:s'.os=s.os) (u:Un (frs X.stack) ch H H' s.heap s'.heap) (hok:HOk X.prog X.w H' s'.heap) (hg:AllBare s'.gens)
  (hch:∀ b ∈ ch,(b ∈ X.ex\/X.s₀.heap.objs.size<=b)/\b≠X.env.locals/\(∀ x c,X.env.cells.lookup x=some c->c≠b)/\∀ p ∈ X.pn++pins,p.1≠b) (ht:0 < s'.toks:=by first | assumption | exact Nat.succ_pos _ | (apply Inv.tk; assumption) | lia):Inv X pins σ H' s':=by
 obtain ⟨h',g',d',t',o'⟩:=s';have e:o'=s.os:=ho;subst e;exact I.call (g':=g') (t':=t') (d':=d') u hok hg hch ht
end
noncomputable abbrev XK:=Value->Option Addr->Hp->Prop
noncomputable abbrev St:=List (Option V)
noncomputable abbrev VK:=V->Hp->Prop
noncomputable abbrev TE:=St->Hp->VK->Prop
noncomputable abbrev TT:=St->Hp->(Bool->Hp->Prop)->Prop
noncomputable abbrev TA:=St->Hp->(List V->Hp->Prop)->Prop
structure Ends where
 nx:St->Hp->Prop
 rt:VK
 bk:St->Hp->Prop:=fun _ _=>False
 ct:St->Hp->Prop:=fun _ _=>False
noncomputable abbrev TS:=Ends->St->Hp->Prop
def EP (X:Cx) (pins:List (Addr × Obj)) (σ:St) (Q:VK) (u:Value) (s':Shared):Prop:=∃ v H',Inv X pins σ H' s'/\RelV v u/\Q v H'
def TP (X:Cx) (pins:List (Addr × Obj)) (σ:St) (Q:Bool->Hp->Prop) (b:Bool) (s':Shared):Prop:=∃ H',Inv X pins σ H' s'/\Q b H'
def AP (X:Cx) (pins:List (Addr × Obj)) (σ:St) (Q:List V->Hp->Prop) (us:List Value) (s':Shared):Prop:=∃ vs H',Inv X pins σ H' s'/\Vals vs us/\Q vs H'
def SP (X:Cx) (pins:List (Addr × Obj)) (D:Ends) (f:Flow) (s':Shared):Prop:=
 match f with
 | .next=>∃ σ' H',Inv X pins σ' H' s'/\D.nx σ' H'
 | .brk=>∃ σ' H',Inv X pins σ' H' s'/\D.bk σ' H'
 | .cont=>∃ σ' H',Inv X pins σ' H' s'/\D.ct σ' H'
 | .ret u=>∃ v σ' H',Inv X pins σ' H' s'/\RelV v u/\D.rt v H'
def PE (X:Cx) (e:Expr) (t:TE):Prop:=
 ∀ (pins:List (Addr × Obj)) (s:Shared) (σ:St) (H:Hp) (Q:VK),Inv X pins σ H s->t σ H Q->wpAny (model X.prog X.w) X.A (eval e X.env) (EP X pins σ Q) X.xe s
def PT (X:Cx) (e:Expr) (t:TT):Prop:=
 ∀ (pins:List (Addr × Obj)) (s:Shared) (σ:St) (H:Hp) (Q:Bool->Hp->Prop),Inv X pins σ H s->t σ H Q->wpAny (model X.prog X.w) X.A (isTrue e X.env (eval e X.env)) (TP X pins σ Q) X.xe s
def PW (X:Cx) (e:Expr) (t:TT):Prop:=
 ∀ (whole:Sem Value) (pins:List (Addr × Obj)) (s:Shared) (σ:St) (H:Hp) (Q:Bool->Hp->Prop),Inv X pins σ H s->t σ H Q->wpAny (model X.prog X.w) X.A (isTrue e X.env whole) (TP X pins σ Q) X.xe s
theorem PW.pt {X:Cx} {e:Expr} {t:TT} (h:PW X e t):PT X e t:=h _
def PA (X:Cx) (es:List Expr) (t:TA):Prop:=
 ∀ (pos:Pos) (pins:List (Addr × Obj)) (s:Shared) (σ:St) (H:Hp) (Q:List V->Hp->Prop),Inv X pins σ H s->t σ H Q->wpAny (model X.prog X.w) X.A (spliced (backTo pos (starEach es X.env))) (AP X pins σ Q) X.xe s
def PS (X:Cx) (st:Stmt) (t:TS):Prop:=
 ∀ (pins:List (Addr × Obj)) (s:Shared) (σ:St) (H:Hp) (D:Ends),Inv X pins σ H s->t D σ H->wpAny (model X.prog X.w) X.A (exec st X.env) (SP X pins D) X.xe s
def PSs (X:Cx) (st:List Stmt) (t:TS):Prop:=
 ∀ (pins:List (Addr × Obj)) (s:Shared) (σ:St) (H:Hp) (D:Ends),Inv X pins σ H s->t D σ H->wpAny (model X.prog X.w) X.A (execs st X.env) (SP X pins D) X.xe s
theorem thn {α:Type} {t:Sem α} {Q Q':α -> Shared->Prop} {M:Model} {A:Around} {E:Value->Shared->Prop} {s:Shared} (h:wpAny M A t Q E s) (hQ:∀ a s,Q a s->Q' a s):wpAny M A t Q' E s:=wpAny_mono h hQ fun _ _ x=>x
theorem tokQ {α:Type} {t:Sem α} {Q:α -> Shared->Prop} {M:Model} {A:Around} {E:Value->Shared->Prop} {s:Shared} (h0:0 < s.toks) (h:wpAny M A t (fun a s'=>0 < s'.toks->Q a s') E s):wpAny M A t Q E s:=
 wpAny_mono (wpAny_toks_of (n:=1) h0 h) (fun _ _ z=>z.2 z.1) fun _ _ z=>z.2
section
variable {X:Cx}
noncomputable def tVar (i:Nat):TE:=fun σ H Q=>∃ v,σ[i]? = some (some v)/\Q v H
noncomputable def tC (v:V):TE:=fun _ H Q=>Q v H
theorem wW {i:Nat} {x:Str} {pos:Pos} (hN:X.N[i]? = some x) (hv:Vis X.env.scope x) (hd:(x == ("__debug__" : Str))=false:=by decide) (hcd:(x == ("__classdict__" : Str))=false:=by decide):PE X (.Name x pos) (tVar i):=by
 intro pins s σ H Q I h;obtain ⟨v,e,h⟩:=h;obtain ⟨m,hn,hl⟩:=I.loc;obtain ⟨u,r,l⟩:=hl i x v hN e hv;have fin:EP X pins σ Q u s:=⟨v,H,I,r,h⟩;rcases l with ⟨hk,hm⟩ | ⟨hk,c,hc,hcell⟩
 ·exact wpAny_Name (wpAny_loadName_local I.ok.kind hk hn hm fin) hd
 ·rcases hk with hk | hk
  ·exact wpAny_Name (wpAny_loadName_cell I.ok.kind hk hc hcell fin) hd
  ·exact wpAny_Name (wpAny_loadName_free I.ok.kind hk hc hcell fin hcd) hd
theorem ae {i j pos}:PE X (.Constant (.int i) j pos) (tC (.int i)):=fun _ _ _ H _ I h=>wpAny_Constant_int ⟨.int i,H,I.tok _,⟨_,rfl⟩,h⟩
theorem uy {b j pos}:PE X (.Constant (.bool b) j pos) (tC (.bl b)):=fun _ _ _ H _ I h=>Constant_bool ⟨.bl b,H,I,rfl,h⟩
theorem gO {j pos}:PE X (.Constant .none j pos) (tC .non):=fun _ _ _ H _ I h=>Constant_none ⟨.non,H,I,rfl,h⟩
theorem xa {x j pos}:PE X (.Constant (.str x) j pos) (tC (.str x)):=fun _ _ _ H _ I h=>Calls.Constant_str ⟨.str x,H,I.tok _,⟨_,rfl⟩,h⟩
def Gl (X:Cx) (x:Str):Prop:=X.env.kindOf x=some .globalImplicit
theorem i5 {E:Value->Shared->Prop} {pins:List (Addr × Obj)} {s:Shared} {σ:St} {H:Hp} {x:Str} {u:Value} {pos:Pos} {Q:Value->Shared->Prop} (I:Inv X pins σ H s) (hg:Gl X x) (hm:X.mg x=some u) (h:Q u s)
  (hd:(x == ("__debug__" : Str))=false:=by decide):wpAny (model X.prog X.w) X.A (eval (.Name x pos) X.env) Q E s:=
 Calls.Name_function_global I.ok.kind hg (Calls.loadGlobal_global (by rw [I.ok.glob]; exact I.mod.glob.keeps I.bk) hm h) hd
theorem gW {E:Value->Shared->Prop} {pins:List (Addr × Obj)} {s:Shared} {σ:St} {H:Hp} {x:Str} {u:Value} {pos:Pos} {Q:Value->Shared->Prop} (I:Inv X pins σ H s) (hg:Gl X x) (hm:X.mg x=none) (hv:bootBuiltins x=some u) (h:Q u s)
  (hn:x ≠ "__name__" := by decide) (hd:(x == ("__debug__" : Str))=false:=by decide):wpAny (model X.prog X.w) X.A (eval (.Name x pos) X.env) Q E s:=by
 obtain ⟨mb,h1,h2⟩:=I.mod.blt;exact Calls.Name_function_global I.ok.kind hg (Calls.loadGlobal_builtin (by rw [I.ok.glob]; exact I.mod.glob.keeps I.bk) hm (by rw [I.ok.blt]; exact h1.keeps I.bk) ((h2 x hn).trans hv) h) hd
theorem zv {x:Str} {v:V} {u:Value} {pos:Pos} (hg:Gl X x) (hm:X.mg x=some u) (r:RelV v u) (hd:(x == ("__debug__" : Str))=false:=by decide):PE X (.Name x pos) (tC v):=
 fun _ _ _ H _ I h=>i5 I hg hm ⟨v,H,I,r,h⟩ hd
theorem yY {x:Str} {v:V} {u:Value} {pos:Pos} (hg:Gl X x) (hm:X.mg x=none) (hv:bootBuiltins x=some u) (r:RelV v u) (hn:x ≠ "__name__" := by decide) (hd:(x == ("__debug__" : Str))=false:=by decide):PE X (.Name x pos) (tC v):=
 fun _ _ _ H _ I h=>gW I hg hm hv ⟨v,H,I,r,h⟩ hn hd
variable {a b:Expr} {ta tb:TE} {pos:Pos}
def PC (X:Cx) (op:CmpOp) (a b:Expr) (t:TE):Prop:=
 ∀ (pins:List (Addr × Obj)) (s:Shared) (σ:St) (H:Hp) (Q:VK),Inv X pins σ H s->t σ H Q ->
  wpAny (model X.prog X.w) X.A (eval a X.env) (fun v s₁=>wpAny (model X.prog X.w) X.A (eval b X.env) (fun u s₂=>wpAny (model X.prog X.w) X.A (compareOp op v u) (EP X pins σ Q) X.xe s₂) X.xe s₁) X.xe s
theorem nobehind (b:Expr) {op:CmpOp} (h:op≠.In) (h2:op≠.NotIn):behindInMarks op b=false:=by
 have e1:(op == CmpOp.In)=false:=by cases op <;> first | rfl | exact absurd rfl h
 have e2:(op == CmpOp.NotIn)=false:=by cases op <;> first | rfl | exact absurd rfl h2
 cases b <;> simp [behindInMarks,e1,e2]
noncomputable def tB (t:TE):TT:=fun σ H Q=>t σ H fun x H1=>∃ c,x=.bl c/\Q c H1
theorem AA {op:CmpOp} {t:TE} (h:PC X op a b t) (h1:behindInMarks op b=false:=by first | exact nobehind _ (by decide) (by decide) | rfl):PE X (.Compare a [op] [b] pos) t:=fun pins s σ H Q I hw=>wpAny_Compare1 (h pins s σ H Q I hw) h1
theorem Bi {op:CmpOp} {t:TE} (h:PC X op a b t) (h1:behindInMarks op b=false:=by first | exact nobehind _ (by decide) (by decide) | rfl):PT X (.Compare a [op] [b] pos) (tB t):=by
 intro pins s σ H Q I hw;refine wpAny_isTrue_Compare1 (thn (h pins s σ H _ I hw) fun v s1 h1=>thn h1 fun u s2 h2=>thn h2 fun c s3 ⟨x,H1,I1,r1,q1⟩=>?_) h1;obtain ⟨d,rfl,q⟩:=q1;cases r1;exact wpAny_truthy_bool ⟨H1,I1,q⟩
theorem Bb {e:Expr} {t:TE} (h:PE X e t) (he:∀ whole,isTrue e X.env whole=(do let v <- whole; standAt e.pos; holding [v] (truthy v)):=by intro _; rfl):PT X e (tB t):=by
 intro pins s σ H Q I hw;refine isTrue_plain (thn (h pins s σ H _ I hw) fun v s1 ⟨x,H1,I1,r1,q1⟩=>?_) (he _);obtain ⟨d,rfl,q⟩:=q1;cases r1;exact wpAny_truthy_bool ⟨H1,I1,q⟩
variable {tA tB':TT} {rest:List Expr}
noncomputable def tAnd (t u:TT):TT:=fun σ H Q=>t σ H fun c H1=>if c=true then u σ H1 Q else Q false H1
noncomputable def tOr (t u:TT):TT:=fun σ H Q=>t σ H fun c H1=>if c=true then Q true H1 else u σ H1 Q
noncomputable def tNot (t:TT):TT:=fun σ H Q=>t σ H fun c H1=>Q (!c) H1
theorem ux (ha:PT X a tA):PW X (.BoolOp .And [a] pos) tA:=by
 intro wh pins s σ H Q I h;refine isTrue_and (thn (ha pins s σ H Q I h) fun c s1 e=>?_);cases c with
 | true=>exact isTrue_and_nil e
 | false=>exact e
theorem w4 (ha:PT X a tA):PW X (.BoolOp .Or [a] pos) tA:=by
 intro wh pins s σ H Q I h;refine isTrue_or (thn (ha pins s σ H Q I h) fun c s1 e=>?_);cases c with
 | false=>exact isTrue_or_nil e
 | true=>exact e
theorem sY (ha:PT X a tA) (hb:PW X (.BoolOp .And (b::rest) pos) tB'):PW X (.BoolOp .And (a::b::rest) pos) (tAnd tA tB'):=by
 intro wh pins s σ H Q I h;refine isTrue_and (thn (ha pins s σ H _ I h) fun c s1 ⟨H1,I1,q1⟩=>?_);cases c with
 | true=>exact hb wh pins s1 σ H1 Q I1 q1
 | false=>exact ⟨H1,I1,q1⟩
theorem uz (ha:PT X a tA) (hb:PW X (.BoolOp .Or (b::rest) pos) tB'):PW X (.BoolOp .Or (a::b::rest) pos) (tOr tA tB'):=by
 intro wh pins s σ H Q I h;refine isTrue_or (thn (ha pins s σ H _ I h) fun c s1 ⟨H1,I1,q1⟩=>?_);cases c with
 | true=>exact ⟨H1,I1,q1⟩
 | false=>exact hb wh pins s1 σ H1 Q I1 q1
theorem qi (ha:PT X a tA):PT X (.UnaryOp .Not a pos) (tNot tA):=by
 intro pins s σ H Q I h;exact isTrue_not (ha pins s σ H (fun c H1=>Q (!c) H1) I h)
noncomputable def tAndV (ta tb:TE):TE:=fun σ H Q=>ta σ H fun x H1=>∃ c,x=.bl c/\if c=true then tb σ H1 Q else Q (.bl false) H1
theorem AK {op} {t:TE} (h:PE X a t):PE X (.BoolOp op [a] pos) t:=fun pins s σ H Q I hw=>BoolOp_one (h pins s σ H Q I hw)
theorem Aj (ha:PE X a ta) (hb:PE X (.BoolOp .And (b::rest) pos) tb):PE X (.BoolOp .And (a::b::rest) pos) (tAndV ta tb):=by
 intro pins s σ H Q I h;refine BoolOp_and (thn (ha pins s σ H _ I h) fun v s1 ⟨x,H1,I1,r1,q1⟩=>?_);obtain ⟨c,rfl,q1⟩:=q1;cases r1;refine wpAny_truthy_bool ?_;cases c with
 | true=>exact hb pins s1 σ H1 Q I1 q1
 | false=>exact ⟨.bl false,H1,I1,rfl,q1⟩
noncomputable def tIf (t:TT) (ta tb:TE):TE:=fun σ H Q=>t σ H fun c H1=>if c=true then ta σ H1 Q else tb σ H1 Q
theorem eQ {c:Expr} (hc:PT X c tA) (ha:PE X a ta) (hb:PE X b tb):PE X (.IfExp c a b pos) (tIf tA ta tb):=by
 intro pins s σ H Q I h;refine wpAny_IfExp (thn (hc pins s σ H _ I h) fun d s1 ⟨H1,I1,q1⟩=>?_);cases d with
 | true=>exact ha pins s1 σ H1 Q I1 q1
 | false=>exact hb pins s1 σ H1 Q I1 q1
end
def SqL (K:Frag) (H:Hp) (a:Addr) (xs:List V):Prop:=
 Rd H a (.lst xs) \/
  ∃ (o:Obj) (its:Array Value) (n:Nat),K.lookup a=some o/\o.cls=.type "list" /\ o.dict=none/\o.data=.seq its n/\its.size<=sizeLine/\Vals xs its.toList
def SqT (K:Frag) (H:Hp) (a:Addr) (xs:List V):Prop:=
 Rd H a (.tup xs) \/
  ∃ (o:Obj) (its:Array Value) (n:Nat),K.lookup a=some o/\o.cls=.type "tuple" /\ o.data=.seq its n/\its.size<=sizeLine/\Vals xs its.toList
noncomputable def absV:Value->Option V
 | .none=>some .non
 | .bool b=>some (.bl b)
 | .int i _=>some (.int i)
 | .str x _=>some (.str x)
 | .bytes b _=>some (.byt b)
 | .float b _=>some (.flt b)
 | .ref a=>some (.ref a)
 | .type n=>some (.ty n)
 | _=>none
theorem RelV.abs {x:V} {u:Value} (r:RelV x u):absV u=some x:=by
 cases x with
 | non=>cases r; rfl
 | bl _=>cases r; rfl
 | int _=>obtain ⟨t,rfl⟩:=r; rfl
 | str _=>obtain ⟨t,rfl⟩:=r; rfl
 | byt _=>obtain ⟨t,rfl⟩:=r; rfl
 | flt _=>obtain ⟨t,rfl⟩:=r; rfl
 | ref _=>cases r; rfl
 | ty _=>cases r; rfl
theorem RelV.inj {x y:V} {u:Value} (r:RelV x u) (q:RelV y u):x=y:=Option.some.inj (r.abs.symm.trans q.abs)
theorem Vals.inj:∀ {xs ys:List V} {us:List Value},Vals xs us->Vals ys us->xs=ys
 | _,_,_,.nil,.nil=>rfl
 | _,_,_,.cons r t,.cons r' t'=>by rw [r.inj r',Vals.inj t t']
section
variable {X:Cx} {pins:List (Addr × Obj)} {σ:St} {H:Hp} {s:Shared} {a:Addr} {xs ys:List V}
theorem SqL.of {K:Frag} (h:H a=some (.lst xs)):SqL K H a xs:=.inl (.inl h)
theorem SqT.of {K:Frag} (h:H a=some (.tup xs)):SqT K H a xs:=.inl (.inl h)
theorem Inv.list (I:Inv X pins σ H s) (h:SqL X.K H a xs):∃ its:List Value,Vals xs its/\PlainL s.heap a its.toArray/\xs.length<=sizeLine:=by
 rcases h with h | ⟨o,its,n,hk,hc,hd,hs,hz,r⟩
 ·obtain ⟨z,its,n,r,e⟩:=h.ok I.hok;exact ⟨its,r,⟨_,n,e,rfl,rfl,rfl⟩,z⟩
 ·refine ⟨its.toList,r,⟨o,n,I.kIn a o hk,hc,hd,by simpa using hs⟩,?_⟩;have e:=r.length;simp only [Array.length_toList] at e
  lia
theorem Inv.tuple (I:Inv X pins σ H s) (h:SqT X.K H a xs):∃ its:List Value,Vals xs its/\IsTup s.heap a its.toArray/\xs.length<=sizeLine:=by
 rcases h with h | ⟨o,its,n,hk,hc,hs,hz,r⟩
 ·obtain ⟨z,its,r,p⟩:=h.ok I.hok;exact ⟨its,r,p,z⟩
 ·refine ⟨its.toList,r,⟨o,I.kIn a o hk,hc,n,by simpa using hs⟩,?_⟩;have e:=r.length;simp only [Array.length_toList] at e
  lia
theorem Inv.list_inj (I:Inv X pins σ H s) (h:SqL X.K H a xs) (h':SqL X.K H a ys):xs=ys:=by
 obtain ⟨its,r,⟨o,n,e,_,_,d⟩,_⟩:=I.list h;obtain ⟨its',r',⟨o',n',e',_,_,d'⟩,_⟩:=I.list h';rw [e] at e'; cases e';rw [d] at d';injection d' with d1 _
 have:its=its':=by simpa using congrArg Array.toList d1
 subst this;exact r.inj r'
theorem Inv.tuple_inj (I:Inv X pins σ H s) (h:SqT X.K H a xs) (h':SqT X.K H a ys):xs=ys:=by
 obtain ⟨its,r,⟨o,e,_,n,d⟩,_⟩:=I.tuple h;obtain ⟨its',r',⟨o',e',_,n',d'⟩,_⟩:=I.tuple h';rw [e] at e'; cases e';rw [d] at d';injection d' with d1 _
 have:its=its':=by simpa using congrArg Array.toList d1
 subst this;exact r.inj r'
end
noncomputable abbrev Cx.wish (X:Cx) (E:Value->Shared->Prop):Cx:={ X with xe:=E }
noncomputable abbrev Cx.nox (X:Cx):Cx:=X.wish fun _ _=>False
theorem Cx.Ok.wish {X:Cx} (ok:X.Ok) (E:Value->Shared->Prop):(X.wish E).Ok:=
 ⟨ok.mod,ok.kind,ok.glob,ok.blt,ok.above,ok.inj,ok.has,ok.cab,ok.hd,ok.frames,ok.stk,ok.exf,ok.bs,ok.bsz,ok.noex,ok.exfs,ok.funs,ok.frf⟩
theorem Cx.Ok.unwish {X:Cx} {E:Value->Shared->Prop} (ok:(X.wish E).Ok):X.Ok:=
 ⟨ok.mod,ok.kind,ok.glob,ok.blt,ok.above,ok.inj,ok.has,ok.cab,ok.hd,ok.frames,ok.stk,ok.exf,ok.bs,ok.bsz,ok.noex,ok.exfs,ok.funs,ok.frf⟩
section
variable {X:Cx} {pins:List (Addr × Obj)} {σ:St} {H:Hp} {s:Shared} {E:Value->Shared->Prop}
theorem Inv.wish (I:Inv X pins σ H s) (E:Value->Shared->Prop):Inv (X.wish E) pins σ H s:=⟨I.ok.wish E,I.os,I.bare,I.base,I.loc,I.cell,I.free,I.freeC,I.pin,I.hok,I.len,I.tk⟩
theorem Inv.unwish (I:Inv (X.wish E) pins σ H s):Inv X pins σ H s:=⟨I.ok.unwish,I.os,I.bare,I.base,I.loc,I.cell,I.free,I.freeC,I.pin,I.hok,I.len,I.tk⟩
theorem SP.unwish {D:Ends} {f:Flow} {s':Shared} (h:SP (X.wish E) pins D f s'):SP X pins D f s':=by
 cases f with
 | next=>obtain ⟨σ',H',I,q⟩:=h; exact ⟨σ',H',I.unwish,q⟩
 | brk=>obtain ⟨σ',H',I,q⟩:=h; exact ⟨σ',H',I.unwish,q⟩
 | cont=>obtain ⟨σ',H',I,q⟩:=h; exact ⟨σ',H',I.unwish,q⟩
 | ret u=>obtain ⟨v,σ',H',I,r,q⟩:=h; exact ⟨v,σ',H',I.unwish,r,q⟩
theorem PSs.nox {st:List Stmt} {t:TS} (h:PSs X.nox st t):PSs X st t:=fun pins s σ H D I hw=>
 wpAny_mono (h pins s σ H D (I.wish _) hw) (fun _ _ q=>q.unwish) fun _ _ z=>False.elim z
end
section
variable {X:Cx} {st:Stmt} {rest:List Stmt} {t u:TS} {e:Expr} {te:TE} {pos:Pos}
noncomputable def tNext:TS:=fun D σ H=>D.nx σ H
noncomputable def tSeq (t u:TS):TS:=fun D σ H=>t { D with nx:=u D } σ H
theorem aO:PSs X [] tNext:=fun _ _ σ H _ I h=>wpAny_execs_nil ⟨σ,H,I,h⟩
theorem af (h1:PS X st t) (h2:PSs X rest u):PSs X (st::rest) (tSeq t u):=by
 intro pins s σ H D I h;refine wpAny_execs_cons (thn (h1 pins s σ H { D with nx:=u D } I h) fun f s1 q=>?_);cases f with
 | next=>
  obtain ⟨σ',H',I',q⟩:=q;exact h2 pins s1 σ' H' D I' q
 | ret v=>exact q
 | brk=>exact q
 | cont=>exact q
theorem ai (h1:PS X st t):PSs X [st] t:=by
 intro pins s σ H D I h;refine wpAny_execs_cons (thn (h1 pins s σ H D I h) fun f s1 q=>?_);cases f with
 | next=>exact wpAny_execs_nil q
 | ret v=>exact q
 | brk=>exact q
 | cont=>exact q
noncomputable def tBreak:TS:=fun D σ H=>D.bk σ H
theorem wN:PS X (.Break pos) tBreak:=fun _ _ σ H _ I h=>wpAny_Break ⟨σ,H,I,h⟩
theorem Inv.quiet {pins:List (Addr × Obj)} {σ:St} {H:Hp} {s:Shared} (I:Inv X pins σ H s):interactive X.env=false:=by simp [interactive,I.ok.kind]
noncomputable def tDrop (te:TE):TS:=fun D σ H=>te σ H fun _ H1=>D.nx σ H1
theorem bj (he:PE X e te) (hs:swapsWith e none pos.line X.env=pure false:=by rfl):PS X (.Expr e pos) (tDrop te):=by
 intro pins s σ H D I h;exact wpAny_Expr_any (thn (he pins s σ H _ I h) fun v s1 ⟨x,H1,I1,r1,q1⟩=>⟨σ,H1,I1,q1⟩) I.quiet hs
noncomputable def tRet (te:TE):TS:=fun D σ H=>te σ H D.rt
theorem aC (he:PE X e te):PS X (.Return (some e) pos) (tRet te):=by
 intro pins s σ H D I h;exact wpAny_Return_some (thn (he pins s σ H _ I h) fun v s1 ⟨x,H1,I1,r1,q1⟩=>⟨x,σ,H1,I1,r1,q1⟩)
noncomputable def tIfS (c:TT) (t u:TS):TS:=fun D σ H=>c σ H fun b H1=>if b=true then t D σ H1 else u D σ H1
theorem bU {c:Expr} {a b:List Stmt} {tc:TT} (hc:PT X c tc) (ha:PSs X a t) (hb:PSs X b u):PS X (.If c a b pos) (tIfS tc t u):=by
 intro pins s σ H D I h;refine wpAny_If (thn (hc pins s σ H _ I h) fun d s1 ⟨H1,I1,q1⟩=>?_);cases d with
 | true=>exact ha pins s1 σ H1 D I1 q1
 | false=>exact hb pins s1 σ H1 D I1 q1
end
noncomputable abbrev TG:=V->St->Hp->(St->Hp->Prop)->Prop
noncomputable abbrev TGs:=List V->St->Hp->(St->Hp->Prop)->Prop
def PG (X:Cx) (target:Expr) (t:TG):Prop:=
 ∀ (pins:List (Addr × Obj)) (s:Shared) (σ:St) (H:Hp) (v:V) (u:Value) (Q:St->Hp->Prop),Inv X pins σ H s->RelV v u->t v σ H Q ->
  wpAny (model X.prog X.w) X.A (assign target X.env u) (fun _ s'=>∃ σ' H',Inv X pins σ' H' s'/\Q σ' H') X.xe s
def PGs (X:Cx) (ts:List Expr) (t:TGs):Prop:=
 ∀ (pins:List (Addr × Obj)) (s:Shared) (σ:St) (H:Hp) (vs:List V) (us:List Value) (Q:St->Hp->Prop),Inv X pins σ H s->Vals vs us->t vs σ H Q ->
  wpAny (model X.prog X.w) X.A (assignInOrder ((assignEach ts X.env).map (·.2)) us) (fun _ s'=>∃ σ' H',Inv X pins σ' H' s'/\Q σ' H') X.xe s
section
variable {X:Cx} {pos:Pos}
noncomputable def gName (i:Nat):TG:=fun v σ H Q=>Q (σ.set i (some v)) H
theorem ak {i:Nat} {x:Str} (hN:X.N.Nodup) (hi:X.N[i]? = some x) (hx:Loc X.env.scope x) (hf:X.fn x=true\/X.env.scope.names.lookup x=some .local:=by first | exact .inl rfl | exact .inr rfl | assumption):PG X (.Name x pos) (gName i):=by
 intro pins s σ H v u Q I r h;exact wpAny_assign_Name (nq I hN hi hx r (fun s' I'=>⟨_,H,I',h⟩) hf)
noncomputable def gNil:TGs:=fun vs σ H Q=>vs=[]/\Q σ H
noncomputable def gCons (t:TG) (u:TGs):TGs:=fun vs σ H Q=>∃ v r,vs=v::r/\t v σ H fun σ' H'=>u r σ' H' Q
theorem bn:PGs X [] gNil:=by
 intro pins s σ H vs us Q I r h;obtain ⟨e,h⟩:=h;subst e;cases r;exact assignInOrder_nil ⟨σ,H,I,h⟩
theorem ar {e:Expr} {es:List Expr} {t:TG} {u:TGs} (h1:PG X e t) (h2:PGs X es u)
  (hs:(assignEach (e::es) X.env).map (·.2)=assign e X.env::(assignEach es X.env).map (·.2):=by rfl):PGs X (e::es) (gCons t u):=by
 intro pins s σ H vs us Q I r h;obtain ⟨v,vr,e1,h⟩:=h;subst e1;cases r with
 | cons r rr=>
  rw [hs];refine assignInOrder_cons (thn (h1 pins s σ H _ _ _ I r h) fun _ s1 ⟨σ1,H1,I1,q1⟩=>?_);exact h2 pins s1 σ1 H1 _ _ Q I1 rr q1
noncomputable def gTup (K:Frag) (n:Nat) (t:TGs):TG:=fun v σ H Q=>∃ a xs,v=.ref a/\SqT K H a xs/\xs.length=n/\t xs σ H Q
theorem xG {es:List Expr} {k:Nat} {t:TGs} {n:Nat} (hc:X.calm=true) (h:PGs X es t)
  (hn:(assignEach es X.env).length=n:=by rfl) (hst:(assignEach es X.env).findIdx? (·.1)=none:=by rfl):PG X (.Tuple es k pos) (gTup X.K n t):=by
 intro pins s σ H v u Q I r hw;obtain ⟨a,xs,e1,hq,hl,hw⟩:=hw;subst e1;cases r;obtain ⟨its,rv,ht,hz⟩:=I.tuple hq;refine assign_Tuple_tuple (I.ok.hd hc) ht (by simp [hn,<- hl,rv.length]) hst fun h' hx=>?_
 have I1:Inv X pins σ H { s with heap:=h' }:=I.kept (t':=s.toks) fun b o e=>hx b o (Nat.ne_of_lt (Heap.lt_size e)) e
 exact h pins _ σ H xs _ Q I1 (by simpa using rv) hw
noncomputable def tAsg (te:TE) (g:TG):TS:=fun D σ H=>te σ H fun x H1=>g x σ H1 D.nx
theorem qo {tg e:Expr} {te:TE} {g:TG} (he:PE X e te) (hg:PG X tg g) (hs:swapsWithSole [tg] e pos.line X.env=pure false:=by rfl) (hw:swappedStores [tg] e X.env=pure none:=by rfl)
  (h1:(assignEach [tg] X.env).map (·.2)=[assign tg X.env]:=by rfl):PS X (.Assign [tg] e pos) (tAsg te g):=by
 intro pins s σ H D I h;refine wpAny_Assign_stores (thn (he pins s σ H _ I h) fun v s1 ⟨x,H1,I1,r1,q1⟩=>?_) hs hw;rw [h1];exact thn (hg pins s1 σ H1 x v _ I1 r1 q1) fun _ s2 q=>q
theorem au {i:Nat} {x:Str} {e:Expr} {te:TE} {pos':Pos} (hN:X.N.Nodup) (hi:X.N[i]? = some x) (hx:Loc X.env.scope x) (he:PE X e te) (hs:swapsWith e (some (.Name x pos')) pos.line X.env=pure false:=by rfl) (hf:X.fn x=true\/X.env.scope.names.lookup x=some .local:=by first | exact .inl rfl | exact .inr rfl | assumption):
  PS X (.Assign [.Name x pos'] e pos) (tAsg te (gName i)):=by
 intro pins s σ H D I h;refine wpAny_Assign_Name (thn (he pins s σ H _ I h) fun v s1 ⟨y,H1,I1,r1,q1⟩=>?_) hs;exact nq I1 hN hi hx r1 (fun s2 I2=>⟨_,H1,I2,q1⟩) hf
end
section
variable {X:Cx} {pos:Pos}
end
structure It where
 go:Nat->Hp->Prop
 yld:Nat->Hp->V->Hp->Prop
 stop:Nat->Hp->Prop
def FpOk (X:Cx) (pins:List (Addr × Obj)) (H:Hp) (b:Addr):Prop:=
 H b=none/\b≠X.env.locals/\b ∉ X.fs/\(b ∈ X.ex\/X.s₀.heap.objs.size<=b)/\(∀ x c,X.env.cells.lookup x=some c->c≠b)/\∀ p ∈ X.pn++pins,p.1≠b
theorem Inv.fpOk {X:Cx} {pins:List (Addr × Obj)} {σ:St} {H H':Hp} {s:Shared} {b:Addr} (I:Inv X pins σ H s) (hb:s.heap.objs.size<=b) (hn:H' b=none):FpOk X pins H' b:=by
 refine ⟨hn,Nat.ne_of_gt (Nat.lt_of_lt_of_le I.lt hb),I.nofs hb,.inr (Nat.le_trans I.sz hb),fun x c e z=>?_,fun p hp z=>?_⟩
 ·obtain ⟨v,q⟩:=I.cell x c e;exact absurd (Nat.lt_of_lt_of_le q.lt (by rw [z]; exact hb)) (Nat.lt_irrefl _)
 ·exact absurd (Nat.lt_of_lt_of_le (Heap.lt_size (I.pin p hp).1) (by rw [z]; exact hb)) (Nat.lt_irrefl _)
structure Turn (P:Program) (w:World) (K:Frag) (tg:Expr) (J:It) (fp:List Addr) (it:Addr) (tn:Nat->Heap->Prop):Prop where
 mem:it ∈ fp
 obj:∀ i h,tn i h->∀ b ∈ fp,∃ o,h.get? b=some o/\∀ v,o.data≠.cell v
 keep:∀ i h h',tn i h->(∀ b ∈ fp,∀ o,h.get? b=some o->h'.get? b=some o)->tn i h'
 item:∀ (X:Cx),X.prog=P->X.w=w->X.K=K->X.calm=true->∀ (i:Nat) (pins:List (Addr × Obj)) (s:Shared) (σ:St) (H:Hp) (E:Value->Shared->Prop),Inv X pins σ H s->(∀ b ∈ fp,FpOk X pins H b)->tn i s.heap->J.go i H ->
  wpAny (model P w) X.A (pyNext (.ref it)) (fun r s1=>∃ u,r=some u /\
   wpAny (model P w) X.A (letOwnedTupleGo tg (.ref it) u) (fun _ s2=>∃ x H',Inv X pins σ H' s2/\RelV x u/\J.yld i H x H'/\tn (i+1) s2.heap/\∀ b ∈ fp,H' b=none) E s1) E s
 done:∀ (X:Cx),X.prog=P->X.w=w->X.K=K->X.calm=true->∀ (i:Nat) (pins:List (Addr × Obj)) (s:Shared) (σ:St) (H:Hp) (E:Value->Shared->Prop),Inv X pins σ H s->(∀ b ∈ fp,FpOk X pins H b)->tn i s.heap->J.stop i H ->
  wpAny (model P w) X.A (pyNext (.ref it)) (fun r s1=>r=none/\Inv X pins σ H s1) E s
 self:∀ (A:Around) (i:Nat) (s:Shared) (Q:Value->Shared->Prop) (E:Value->Shared->Prop),tn i s.heap->Q (.ref it) s->wpAny (model P w) A (pyIter (.ref it)) Q E s
noncomputable abbrev TI:=St->Hp->(It->Hp->Prop)->Prop
def PIE (X:Cx) (pins:List (Addr × Obj)) (σ:St) (tg:Expr) (R:It->Hp->Prop) (itv:Value) (s2:Shared):Prop:=
 ∃ (it:Addr) (fp:List Addr) (tn:Nat->Heap->Prop) (J:It) (H':Hp),itv=.ref it/\Inv X pins σ H' s2/\Turn X.prog X.w X.K tg J fp it tn/\tn 0 s2.heap/\(∀ b ∈ fp,FpOk X pins H' b)/\R J H'
def PI (X:Cx) (tg iter:Expr) (wi:TI):Prop:=
 ∀ (pins:List (Addr × Obj)) (s:Shared) (σ:St) (H:Hp) (R:It->Hp->Prop),Inv X pins σ H s->wi σ H R ->
  wpAny (model X.prog X.w) X.A (eval iter X.env) (fun v s1=>wpAny (model X.prog X.w) X.A (pyIter v) (PIE X pins σ tg R) X.xe s1) X.xe s
theorem qV {M:Model} {A:Around} {E:Value->Shared->Prop} {s:Shared} {tg:Expr} {it:Addr} {u:Value} {o:Obj} {n:String} {vs:Array Value} {Q:Unit->Shared->Prop} (ho:s.heap.get? it=some o) (hc:o.cls=.type n) (hd:o.data=.fields vs)
  (hn:["enumerate", "zip", "dict_itemiterator", "dict_reverseitemiterator", "odict_iterator", "itertools.zip_longest", "itertools.pairwise"].contains n=false) (hQ:Q () s):wpAny M A (letOwnedTupleGo tg (.ref it) u) Q E s:=by
 unfold letOwnedTupleGo;cases tg <;> first
  | exact wpAny_pure hQ
  | (cases u <;> first
    | exact wpAny_pure hQ
    | (refine wpAny_bind (wpAny_load ho ?_); rw [hc,hd]; show wpAny M A (if (["enumerate", "zip", "dict_itemiterator", "dict_reverseitemiterator", "odict_iterator", "itertools.zip_longest", "itertools.pairwise"].contains n && vs[0]? == some (rawInt _))=true then _ else _) Q E s; rw [if_neg (by intro h; rw [hn,Bool.false_and] at h; cases h)]; exact wpAny_pure hQ))
noncomputable def Itl (K:Frag) (a:Addr):It:=
 ⟨fun i H=>∃ xs x,SqL K H a xs/\xs[i]? = some x,fun i H x H'=>H'=H/\∀ xs,SqL K H a xs->xs[i]? = some x,fun i H=>∃ xs,SqL K H a xs/\xs.length<=i⟩
noncomputable def Itt (K:Frag) (a:Addr):It:=
 ⟨fun i H=>∃ xs x,SqT K H a xs/\xs[i]? = some x,fun i H x H'=>H'=H/\∀ xs,SqT K H a xs->xs[i]? = some x,fun i H=>∃ xs,SqT K H a xs/\xs.length<=i⟩
noncomputable def Itr (lo:Int) (n:Nat):It:=⟨fun i _=>i < n,fun i H x H'=>H'=H/\x=.int (lo+i),fun i _=>n<=i⟩
theorem vE {P:Program} {w:World} {K:Frag} {tg:Expr} (a it:Addr):Turn P w K tg (Itl K a) [it] it (fun i h=>h.IsListIter it a i) where
 mem:=by simp
 obj:=fun i h st b hb=>by
  have e:b=it:=by simpa using hb
  subst e;obtain ⟨o,e,c,d⟩:=st;exact ⟨o,e,fun v z=>by rw [d] at z; cases z⟩
 keep:=fun i h h' st k=>st.at fun o e=>k it (by simp) o e
 item:=by
  intro X hP hw hK hc i pins s σ H E I hf st hg;subst hP hw hK;obtain ⟨xs,x,hq,hx⟩:=hg;obtain ⟨its,rv,p,hz⟩:=I.list hq;obtain ⟨u,hu,ru⟩:=rv.get hx;obtain ⟨f0,f1,f2,f3,f4,f5⟩:=hf it (by simp);refine wpAny_pyNext_list_item st p.isList (x:=u) (by simpa using hu) fun h' st' sb=>?_
  have I1:Inv X pins σ H { s with heap:=h' }:=I.turned (t':=s.toks) (fun b o hb e=>(sb.2 b hb).trans e) f0 f1 f3 f4 f5;obtain ⟨o,e,c,d⟩:=id st';exact ⟨u,rfl,qV (s:={ s with heap:=h' }) e c d (by decide) ⟨x,H,I1,ru,⟨rfl,fun ys hy=>by rw [I.list_inj hy hq]; exact hx⟩,st',fun b hb=>(hf b hb).1⟩⟩
 done:=by
  intro X hP hw hK hc i pins s σ H E I hf st hg;subst hP hw hK;obtain ⟨xs,hq,hx⟩:=hg;obtain ⟨its,rv,p,hz⟩:=I.list hq;obtain ⟨f0,f1,f2,f3,f4,f5⟩:=hf it (by simp);have hl:=rv.length;exact wpAny_pyNext_list_end (I.ok.hd hc) st p.isList (by simp; lia) fun h' eb=>⟨rfl,I.turned (t':=s.toks) (fun b o hb e=>eb b o hb e) f0 f1 f3 f4 f5⟩
 self:=fun _ _ _ _ _ st h=>wpAny_pyIter_listiter st h
theorem tU {P:Program} {w:World} {K:Frag} {tg:Expr} (a it:Addr):Turn P w K tg (Itt K a) [it] it (fun i h=>h.IsTupleIter it a i) where
 mem:=by simp
 obj:=fun i h st b hb=>by
  have e:b=it:=by simpa using hb
  subst e;obtain ⟨o,e,c,d⟩:=st;exact ⟨o,e,fun v z=>by rw [d] at z; cases z⟩
 keep:=fun i h h' st k=>st.at fun o e=>k it (by simp) o e
 item:=by
  intro X hP hw hK hc i pins s σ H E I hf st hg;subst hP hw hK;obtain ⟨xs,x,hq,hx⟩:=hg;obtain ⟨its,rv,p,hz⟩:=I.tuple hq;obtain ⟨u,hu,ru⟩:=rv.get hx;obtain ⟨f0,f1,f2,f3,f4,f5⟩:=hf it (by simp);refine wpAny_pyNext_tuple_item st (show s.heap.IsTuple a its.toArray from p) (x:=u) (by simpa using hu) fun h' st' sb=>?_
  have I1:Inv X pins σ H { s with heap:=h' }:=I.turned (t':=s.toks) (fun b o hb e=>(sb.2 b hb).trans e) f0 f1 f3 f4 f5;obtain ⟨o,e,c,d⟩:=id st';exact ⟨u,rfl,qV (s:={ s with heap:=h' }) e c d (by decide) ⟨x,H,I1,ru,⟨rfl,fun ys hy=>by rw [I.tuple_inj hy hq]; exact hx⟩,st',fun b hb=>(hf b hb).1⟩⟩
 done:=by
  intro X hP hw hK hc i pins s σ H E I hf st hg;subst hP hw hK;obtain ⟨xs,hq,hx⟩:=hg;obtain ⟨its,rv,p,hz⟩:=I.tuple hq;obtain ⟨f0,f1,f2,f3,f4,f5⟩:=hf it (by simp);have hl:=rv.length;exact wpAny_pyNext_tuple_end (I.ok.hd hc) st (show s.heap.IsTuple a its.toArray from p) (by simp; lia) fun h' eb=>⟨rfl,I.turned (t':=s.toks) (fun b o hb e=>eb b o hb e) f0 f1 f3 f4 f5⟩
 self:=fun _ _ _ _ _ st h=>wpAny_pyIter_tupleiter st h
theorem sW {P:Program} {w:World} {K:Frag} {tg:Expr} (it:Addr) (lo:Int) (n:Nat):Turn P w K tg (Itr lo n) [it] it (fun i h=>IsRangeIter h it (lo+(i:Nat)*1) ((n:Int) - (i:Nat)) 1) where
 mem:=by simp
 obj:=fun i h st b hb=>by
  have e:b=it:=by simpa using hb
  subst e;exact ⟨_,st,fun v z=>by
   have z':Data.fields _=Data.cell v:=z;cases z'⟩
 keep:=fun i h h' st k=>k it (by simp) _ st
 item:=by
  intro X hP hw hK hc i pins s σ H E I hf st hg;subst hP hw hK;obtain ⟨f0,f1,f2,f3,f4,f5⟩:=hf it (by simp);have W:=Walks.range (prog:=X.prog) (w:=X.w) (I.ok.hd hc) it lo 1 n;refine tokQ I.tk (W.item i s _ _ hg st fun v h' tk hv st' kk (htk:0 < tk)=>?_);obtain ⟨t,rfl⟩:=hv;have I1:Inv X pins σ H { s with heap:=h',toks:=tk }:=I.turned (fun b o hb e=>kk b o (by simpa using hb) e) f0 f1 f3 f4 f5;refine ⟨_,rfl,qV (s:={ s with heap:=h',toks:=tk }) (n := "range_iterator") st' rfl rfl (by decide) ⟨.int (lo+i),H,I1,⟨t,?_⟩,⟨rfl,rfl⟩,st',fun b hb=>(hf b hb).1⟩⟩;rw [Int.mul_one]
 done:=by
  intro X hP hw hK hc i pins s σ H E I hf st hg;subst hP hw hK;obtain ⟨f0,f1,f2,f3,f4,f5⟩:=hf it (by simp);exact wpAny_pyNext_range_end (I.ok.hd hc) st (by have:n<=i:=hg; lia) fun h' eb=>⟨rfl,I.turned (t':=s.toks) (fun b o hb e=>eb b o hb e) f0 f1 f3 f4 f5⟩
 self:=fun _ _ _ _ _ st h=>wpAny_pyIter_rangeiter st h
section
variable {X:Cx} {tg:Expr}
theorem wf {pins:List (Addr × Obj)} {σ:St} {H:Hp} {s:Shared} {R:It->Hp->Prop} {E:Value->Shared->Prop} {lo hi:Int} {t u v:Tok} {tk:Nat} (I:Inv X pins σ H s) (h1:-(2 ^ 62)<=lo) (h2:lo < 2 ^ 62) (h3:-(2 ^ 62)<=hi) (h4:hi < 2 ^ 62)
  (q:R (Itr lo (hi - lo).toNat) H) (htk:0 < tk:=by first | assumption | exact Nat.succ_pos _ | (apply Inv.tk; assumption) | lia):wpAny (model X.prog X.w) X.A (pyIter (.ref s.heap.objs.size)) (PIE X pins σ tg R) E { s with heap:=s.heap.push { cls:=.type "range",data:=.fields #[.int lo t,.int hi u,.int 1 v] },toks:=tk }:=by
 refine wpAny_pyIter_range (IsRange.new ..) (small_one h1 h2 h3 h4) ?_;have I1:Inv X pins σ H { s with heap:=s.heap.push { cls:=.type "range",data:=.fields #[.int lo t,.int hi u,.int 1 v] },toks:=tk }:=I.kept fun b o e=>Heap.get?_push_of_some _ e
 refine ⟨(s.heap.push { cls:=.type "range",data:=.fields #[.int lo t,.int hi u,.int 1 v] }).objs.size,[(s.heap.push { cls:=.type "range",data:=.fields #[.int lo t,.int hi u,.int 1 v] }).objs.size],_,_,H,rfl,
  I1.kept (t':=tk) fun b o e=>Heap.get?_push_of_some _ e,sW _ lo (hi - lo).toNat,?_,fun b hb=>?_,q⟩
 ·have e1:lo+((0:Nat):Int)*1=lo:=by simp
  have e2:(((hi - lo).toNat:Nat):Int) - ((0:Nat):Int)=Builtin.Range.rangeSize lo hi 1:=by rw [rangeSize_one]; split <;> lia
  show IsRangeIter _ _ (lo+((0:Nat):Int)*1) ((((hi - lo).toNat:Nat):Int) - ((0:Nat):Int)) 1;rw [e1,e2];exact Heap.get?_push_size _ rfl
 ·have e:b=(s.heap.push { cls:=.type "range",data:=.fields #[.int lo t,.int hi u,.int 1 v] }).objs.size:=by simpa using hb
  subst e;exact I1.fpOk (Nat.le_refl _) (I1.hok.fresh (Nat.le_refl _))
noncomputable def iRng1 (ta:TA):TI:=fun σ H R=>ta σ H fun vs H1=>∃ j:Int,vs=[.int j] /\ -(2 ^ 62)<=j/\j < 2 ^ 62/\R (Itr 0 j.toNat) H1
theorem v6 {a:Expr} {ta:TA} {p pos:Pos} (hg:Gl X "range") (hm:X.mg "range" = none) (ha:PA X [a] ta) (hs:starEach [a] X.env=[(false,eval a X.env)]:=by rfl):PI X tg (.Call (.Name "range" p) [a] [] pos) (iRng1 ta):=by
 intro pins s σ H R I h;refine Call_ (gW I hg hm boot_range (PyProof.Rows.callWith_type1 (thn (ha pos pins s σ H _ I h) fun us s1 ⟨vs,H1,I1,r1,q1⟩=>?_) hs rfl));obtain ⟨j,e,q1,q2,q⟩:=q1;subst e;cases r1 with
 | cons r rr=>
  cases rr;obtain ⟨t,rfl⟩:=r;exact call_range_1 (wf I1 (by lia) (by lia) q1 q2 (by simpa using q))
noncomputable def tFor (wi:TI) (g:TG) (tb:TS):TS:=fun D σ H=>wi σ H fun J H1=>∃ W:Nat->Nat->St->Hp->Prop,(∃ m,W 0 m σ H1)/\∀ i m σ H,W i m σ H ->
 (J.stop i H/\D.nx σ H)\/(J.go i H/\∃ N:St->Hp->Prop,(∀ σ' H',N σ' H'->∃ m',m' < m/\W (i+1) m' σ' H')/\∀ x H',J.yld i H x H'->g x σ H' fun σ2 H2=>tb { D with nx:=N,ct:=N,bk:=D.nx } σ2 H2)
noncomputable def pinsAt (fp:List Addr) (h:Heap):List (Addr × Obj):=fp.filterMap fun b=>(h.get? b).map fun o=>(b,o)
theorem dh {fp:List Addr} {h:Heap} {b:Addr} {o:Obj} (hb:b ∈ fp) (e:h.get? b=some o):(b,o) ∈ pinsAt fp h:=List.mem_filterMap.mpr ⟨b,hb,by rw [e]; rfl⟩
theorem vt {fp:List Addr} {h:Heap} {p:Addr × Obj} (hp:p ∈ pinsAt fp h):p.1 ∈ fp/\h.get? p.1=some p.2:=by
 obtain ⟨b,hb,e⟩:=List.mem_filterMap.mp hp;cases q:h.get? b with
 | none=>rw [q] at e; cases e
 | some o=>
  rw [q] at e;have e':(b,o)=p:=Option.some.inj e;subst e';exact ⟨hb,q⟩
theorem Inv.pinned {pins:List (Addr × Obj)} {σ:St} {H:Hp} {s:Shared} {fp:List Addr} (I:Inv X pins σ H s) (hf:∀ b ∈ fp,FpOk X pins H b) (ho:∀ b ∈ fp,∃ o,s.heap.get? b=some o/\∀ v,o.data≠.cell v):Inv X (pins++pinsAt fp s.heap) σ H s:=
 I.pins_of fun p hp=>(List.mem_append.mp hp).elim (fun z=>I.pin p (List.mem_append_right _ z)) fun z=>by
  obtain ⟨hb,e⟩:=vt z;obtain ⟨f0,f1,f2,_⟩:=hf p.1 hb;obtain ⟨o,e',d⟩:=ho p.1 hb;rw [e] at e'; cases e';exact ⟨e,f0,f1,f2,d⟩
theorem Inv.unpinned {pins pl:List (Addr × Obj)} {σ:St} {H:Hp} {s:Shared} (I:Inv X (pins++pl) σ H s):Inv X pins σ H s:=I.pins_of fun p hp=>I.pin p (List.mem_append_right _ (List.mem_append_left _ hp))
theorem AX {iter:Expr} {body:List Stmt} {wi:TI} {g:TG} {tb:TS} {pos:Pos} (hp:PassesOwn (model X.prog X.w) X.A X.env X.xe) (hc:X.calm=true) (hi:PI X tg iter wi) (hg:PG X tg g) (hb:PSs X body tb)
  (hs:∀ x,foldedSetIterable iter X.env x=pure x:=by intro _; rfl):PS X (.For tg iter body [] pos) (tFor wi g tb):=by
 intro pins s σ H D I h;refine wpAny_For (thn (hi pins s σ H _ I h) fun v s1 h1=>thn h1 fun itv s2 h2=>?_) hs;obtain ⟨it,fp,tn,J,H2,e,I2,T,st2,f2,W,⟨m0,w0⟩,turn⟩:=h2;subst e;have stat:∀ {H':Hp},(∀ b ∈ fp,H' b=none)->∀ b ∈ fp,FpOk X pins H' b:=fun hn b hb=>⟨hn b hb,(f2 b hb).2⟩
 refine codeAny_forLoop_any (fun n s'=>∃ i σ' H',Inv X pins σ' H' s'/\tn i s'.heap/\(∀ b ∈ fp,H' b=none)/\W i n σ' H') ?_ m0 ⟨0,σ,H2,I2,st2,fun b hb=>(f2 b hb).1,w0⟩;rintro n s3 ⟨i,σ3,H3,I3,st3,fr3,w3⟩;rcases turn i n σ3 H3 w3 with ⟨stop,qn⟩ | ⟨go,N,hN,step⟩
 ·refine wpAny_passesOwn hp (thn (T.done X rfl rfl rfl hc i pins s3 σ3 H3 X.xe I3 (stat fr3) st3 stop) fun r s4 ⟨hr,I4⟩=>?_);subst hr;exact wpAny_execs_nil ⟨σ3,H3,I4,qn⟩
 ·refine wpAny_passesOwn hp (thn (T.item X rfl rfl rfl hc i pins s3 σ3 H3 X.xe I3 (stat fr3) st3 go) fun r s4 ⟨u,hr,h4⟩=>?_);subst hr;refine wpAny_passesOwn hp (thn h4 fun _ s5 ⟨x,H5,I5,r5,y5,st5,fr5⟩=>?_);have I5':=I5.pinned (stat fr5) (T.obj _ _ st5);refine wpAny_passesOwn hp (thn (hg _ s5 σ3 H5 x u _ I5' r5 (step x H5 y5)) fun _ s6 ⟨σ6,H6,I6,q6⟩=>?_);refine wpAny_passesOwn hp (thn (hb _ s6 σ6 H6 _ I6 q6) fun f s7 q7=>?_);have again:∀ {σ7:St} {H7:Hp},Inv X (pins++pinsAt fp s5.heap) σ7 H7 s7->N σ7 H7->∃ m,m < n/\∃ i σ' H',Inv X pins σ' H' s7/\tn i s7.heap/\(∀ b ∈ fp,H' b=none)/\W i m σ' H':=fun {σ7 H7} I7 n7=>by
   obtain ⟨m',hm,w7⟩:=hN σ7 H7 n7;refine ⟨m',hm,i+1,σ7,H7,I7.unpinned,T.keep _ _ _ st5 fun b hb o e=>(I7.pin (b,o) (List.mem_append_right _ (List.mem_append_right _ (dh hb e)))).1,fun b hb=>?_,w7⟩;obtain ⟨o,e,d⟩:=T.obj _ _ st5 b hb;exact (I7.pin (b,o) (List.mem_append_right _ (List.mem_append_right _ (dh hb e)))).2.1
  cases f with
  | next=>obtain ⟨σ7,H7,I7,n7⟩:=q7; exact again I7 n7
  | cont=>obtain ⟨σ7,H7,I7,n7⟩:=q7; exact again I7 n7
  | brk=>obtain ⟨σ7,H7,I7,q7⟩:=q7; exact ⟨σ7,H7,I7.unpinned,q7⟩
  | ret v=>obtain ⟨x7,σ7,H7,I7,r7,q7⟩:=q7; exact ⟨x7,σ7,H7,I7.unpinned,r7,q7⟩
end
theorem xI {K:Frag} {a:Addr} {xs:List V} {g:TG} {tb:TS} {D:Ends} {σ:St} {H:Hp} (Pv:Nat->St->Hp->Prop) (h0:Pv 0 σ H) (hl:∀ i σ H,i<=xs.length->Pv i σ H->SqL K H a xs)
  (hs:∀ i x σ H,xs[i]? = some x->Pv i σ H->g x σ H fun σ2 H2=>tb { D with nx:=Pv (i+1),ct:=Pv (i+1),bk:=D.nx } σ2 H2) (hd:∀ σ H,Pv xs.length σ H->D.nx σ H):
  ∃ W:Nat->Nat->St->Hp->Prop,(∃ m,W 0 m σ H)/\∀ i m σ H,W i m σ H ->
   ((Itl K a).stop i H/\D.nx σ H)\/((Itl K a).go i H/\∃ N:St->Hp->Prop,(∀ σ' H',N σ' H'->∃ m',m' < m/\W (i+1) m' σ' H')/\∀ x H',(Itl K a).yld i H x H'->g x σ H' fun σ2 H2=>tb { D with nx:=N,ct:=N,bk:=D.nx } σ2 H2):=by
 refine ⟨fun i m σ H=>m=xs.length - i/\i<=xs.length/\Pv i σ H,⟨xs.length,by simp,Nat.zero_le _,h0⟩,?_⟩;rintro i m σ H ⟨rfl,hi,p⟩;have q:=hl i σ H hi p;by_cases hlt:i < xs.length
 ·refine .inr ⟨⟨xs,xs[i],q,by simp [hlt]⟩,Pv (i+1),fun σ' H' p'=>⟨xs.length - (i+1),by lia,rfl,hlt,p'⟩,fun x H' y=>?_⟩;obtain ⟨e,y⟩:=y;subst e;exact hs i x σ _ (y xs q) p
 ·have e:i=xs.length:=by lia
  subst e;exact .inl ⟨⟨xs,q,Nat.le_refl _⟩,hd σ H p⟩
theorem uT {lo:Int} {n:Nat} {g:TG} {tb:TS} {D:Ends} {σ:St} {H:Hp} (Pv:Nat->St->Hp->Prop) (h0:Pv 0 σ H)
  (hs:∀ i σ H,i < n->Pv i σ H->g (.int (lo+i)) σ H fun σ2 H2=>tb { D with nx:=Pv (i+1),ct:=Pv (i+1),bk:=D.nx } σ2 H2) (hd:∀ σ H,Pv n σ H->D.nx σ H):
  ∃ W:Nat->Nat->St->Hp->Prop,(∃ m,W 0 m σ H)/\∀ i m σ H,W i m σ H ->
   ((Itr lo n).stop i H/\D.nx σ H)\/((Itr lo n).go i H/\∃ N:St->Hp->Prop,(∀ σ' H',N σ' H'->∃ m',m' < m/\W (i+1) m' σ' H')/\∀ x H',(Itr lo n).yld i H x H'->g x σ H' fun σ2 H2=>tb { D with nx:=N,ct:=N,bk:=D.nx } σ2 H2):=by
 refine ⟨fun i m σ H=>m=n - i/\i<=n/\Pv i σ H,⟨n,by simp,Nat.zero_le _,h0⟩,?_⟩;rintro i m σ H ⟨rfl,hi,p⟩;by_cases hlt:i < n
 ·refine .inr ⟨hlt,Pv (i+1),fun σ' H' p'=>⟨n - (i+1),by lia,rfl,hlt,p'⟩,fun x H' y=>?_⟩;obtain ⟨e,y⟩:=y;subst e y;exact hs i σ _ hlt p
 ·have e:i=n:=by lia
  subst e;exact .inl ⟨Nat.le_refl _,hd σ H p⟩
noncomputable abbrev R2:=V->V->Hp->VK->Prop
def OpR (X:Cx) (f:Value->Value->Sem Value) (r:R2):Prop:=
 ∀ (pins:List (Addr × Obj)) (s:Shared) (σ:St) (H:Hp) (x y:V) (v u:Value) (Q:VK),Inv X pins σ H s->RelV x v->RelV y u->r x y H Q ->
  wpAny (model X.prog X.w) X.A (f v u) (EP X pins σ Q) X.xe s
def UnR (X:Cx) (f:Value->Sem Value) (r:V->Hp->VK->Prop):Prop:=
 ∀ (pins:List (Addr × Obj)) (s:Shared) (σ:St) (H:Hp) (x:V) (v:Value) (Q:VK),Inv X pins σ H s->RelV x v->r x H Q ->
  wpAny (model X.prog X.w) X.A (f v) (EP X pins σ Q) X.xe s
def CallR (X:Cx) (f:Value) (r:List V->Hp->VK->Prop):Prop:=
 ∀ (pins:List (Addr × Obj)) (s:Shared) (σ:St) (H:Hp) (xs:List V) (us:List Value) (Q:VK),Inv X pins σ H s->Vals xs us->r xs H Q ->
  wpAny (model X.prog X.w) X.A (call f us) (EP X pins σ Q) X.xe s
noncomputable def tOp (r:R2) (ta tb:TE):TE:=fun σ H Q=>ta σ H fun x H1=>tb σ H1 fun y H2=>r x y H2 Q
noncomputable def tUn (r:V->Hp->VK->Prop) (ta:TE):TE:=fun σ H Q=>ta σ H fun x H1=>r x H1 Q
noncomputable def rI (C:Int->Int->Prop) (g:Int->Int->V):R2:=fun x y H Q=>∃ i j,x=.int i/\y=.int j/\C i j/\Q (g i j) H
noncomputable def rI0 (g:Int->Int->V):R2:=fun x y H Q=>∃ i j,x=.int i/\y=.int j/\Q (g i j) H
noncomputable def rU (g:Int->V):V->Hp->VK->Prop:=fun x H Q=>∃ i,x=.int i/\Q (g i) H
section
variable {X:Cx} {a b c:Expr} {ta tb tc:TE} {pos:Pos}
theorem binT (ha:PE X a ta) (hb:PE X b tb) {pins:List (Addr × Obj)} {s:Shared} {σ:St} {H:Hp} {R:V->V->Hp->Prop} (I:Inv X pins σ H s)
  (h:ta σ H fun x H1=>tb σ H1 fun y H2=>R x y H2) {Q:Value->Shared->Prop} {f:Value->Value->Sem Value}
  (hf:∀ v u s2 x y H2,Inv X pins σ H2 s2->RelV x v->RelV y u->R x y H2->wpAny (model X.prog X.w) X.A (f v u) Q X.xe s2):
  wpAny (model X.prog X.w) X.A (eval a X.env) (fun v s₁=>wpAny (model X.prog X.w) X.A (eval b X.env) (fun u s₂=>wpAny (model X.prog X.w) X.A (f v u) Q X.xe s₂) X.xe s₁) X.xe s:=by
 refine thn (ha pins s σ H _ I h) fun v s1 ⟨x,H1,I1,r1,q1⟩=>?_
 refine thn (hb pins s1 σ H1 _ I1 q1) fun u s2 ⟨y,H2,I2,r2,q2⟩=>?_
 exact hf v u s2 x y H2 I2 r1 r2 q2
theorem am {op:Operator} {r:R2} (ho:OpR X (binaryOp op) r) (ha:PE X a ta) (hb:PE X b tb):PE X (.BinOp a op b pos) (tOp r ta tb):=by
 intro pins s σ H Q I h;exact wpAny_BinOp (binT ha hb I h fun v u s2 x y H2 I2 rx ry q=>ho pins s2 σ H2 x y v u Q I2 rx ry q)
theorem BT {op:UnaryOp} {r:V->Hp->VK->Prop} (ho:UnR X (unaryOp op) r) (ha:PE X a ta):PE X (.UnaryOp op a pos) (tUn r ta):=by
 intro pins s σ H Q I h;exact UnaryOp_ (thn (ha pins s σ H _ I h) fun v s1 ⟨x,H1,I1,r1,q1⟩=>ho pins s1 σ H1 x v Q I1 r1 q1)
theorem opI {f:Value->Value->Sem Value} {C:Int->Int->Prop} {g:Int->Int->Int}
  (rule:∀ (i j:Int) (t u:Tok) (s:Shared) (Q:Value->Shared->Prop) (E:Value->Shared->Prop),C i j->Q (.int (g i j) s.toks) { s with toks:=s.toks+1 }->wpAny (model X.prog X.w) X.A (f (.int i t) (.int j u)) Q E s):
  OpR X f (rI C fun i j=>.int (g i j)):=by
 intro pins s σ H x y v u Q I rx ry h;obtain ⟨i,j,rfl,rfl,hc,q⟩:=h;obtain ⟨t,rfl⟩:=rx;obtain ⟨t',rfl⟩:=ry;exact rule i j t t' s _ _ hc ⟨.int (g i j),H,I.tok _,⟨_,rfl⟩,q⟩
theorem opI0 {f:Value->Value->Sem Value} {g:Int->Int->Int}
  (rule:∀ (i j:Int) (t u:Tok) (s:Shared) (Q:Value->Shared->Prop) (E:Value->Shared->Prop),Q (.int (g i j) s.toks) { s with toks:=s.toks+1 }->wpAny (model X.prog X.w) X.A (f (.int i t) (.int j u)) Q E s):
  OpR X f (rI0 fun i j=>.int (g i j)):=by
 intro pins s σ H x y v u Q I rx ry h;obtain ⟨i,j,rfl,rfl,q⟩:=h;obtain ⟨t,rfl⟩:=rx;obtain ⟨t',rfl⟩:=ry;exact rule i j t t' s _ _ ⟨.int (g i j),H,I.tok _,⟨_,rfl⟩,q⟩
theorem opB0 {f:Value->Value->Sem Value} {g:Int->Int->Bool}
  (rule:∀ (i j:Int) (t u:Tok) (s:Shared) (Q:Value->Shared->Prop) (E:Value->Shared->Prop),Q (.bool (g i j)) s->wpAny (model X.prog X.w) X.A (f (.int i t) (.int j u)) Q E s):
  OpR X f (rI0 fun i j=>.bl (g i j)):=by
 intro pins s σ H x y v u Q I rx ry h;obtain ⟨i,j,rfl,rfl,q⟩:=h;obtain ⟨t,rfl⟩:=rx;obtain ⟨t',rfl⟩:=ry;exact rule i j t t' s _ _ ⟨.bl (g i j),H,I,rfl,q⟩
def CDiv (i j:Int):Prop:=0 < j/\j < 1073741824
def CPow (i j:Int):Prop:=0<=j/\j<=1000000/\i.natAbs < 2 ^ 64
def CMul (i j:Int):Prop:=(-(2 ^ 64) < i/\i < 2 ^ 64)\/(-(2 ^ 64) < j/\j < 2 ^ 64)
theorem CMul.ok {i j:Int} (h:CMul i j):IntMulOk i j:=by
 rcases h with ⟨h1,h2⟩ | ⟨h1,h2⟩
 ·exact .of_left (intBits_le_64 h1 h2)
 ·exact .of_right (intBits_le_64 h1 h2)
theorem AW:OpR X (binaryOp .Add) (rI0 fun i j=>.int (i+j)):=opI0 fun _ _ _ _ _ _ _ q=>add_int q
theorem Aq:OpR X (binaryOp .Sub) (rI0 fun i j=>.int (i - j)):=opI0 fun _ _ _ _ _ _ _ q=>sub_int q
theorem Am:OpR X (binaryOp .Mult) (rI CMul fun i j=>.int (i*j)):=opI fun _ _ _ _ _ _ _ hc q=>mul_int q hc.ok
theorem zS:OpR X (binaryOp .FloorDiv) (rI CDiv fun i j=>.int (i / j)):=opI fun i j _ _ _ _ _ hc q=>by
 have h1:(0:Int) < j:=hc.1;have h2:j < 1073741824:=hc.2;exact floordiv_int (by lia) (by rw [Int.fdiv_eq_ediv_of_nonneg i (by lia)]; exact q) (.inl (PyProof.noPylong_small (by lia)))
theorem Av:OpR X (binaryOp .Mod) (rI (fun _ j=>0 < j) fun i j=>.int (i % j)):=opI fun i j _ _ _ _ _ hc q=>by
 have h1:(0:Int) < j:=hc;exact mod_int' (by lia) (by rw [Int.fmod_eq_emod_of_nonneg i (by lia)]; exact q)
theorem unI {f:Value->Sem Value} {g:Int->Int}
  (rule:∀ (i:Int) (t:Tok) (s:Shared) (Q:Value->Shared->Prop) (E:Value->Shared->Prop),Q (.int (g i) s.toks) { s with toks:=s.toks+1 }->wpAny (model X.prog X.w) X.A (f (.int i t)) Q E s):
  UnR X f (rU fun i=>.int (g i)):=by
 intro pins s σ H x v Q I rx h;obtain ⟨i,rfl,q⟩:=h;obtain ⟨t,rfl⟩:=rx;exact rule i t s _ _ ⟨.int (g i),H,I.tok _,⟨_,rfl⟩,q⟩
theorem AL:UnR X (unaryOp .USub) (rU fun i=>.int (-i)):=unI fun _ _ _ _ _ q=>neg_int q
end
noncomputable def scal:V->V->Bool
 | .non,.non=>true | .non,.int _=>true | .int _,.non=>true | .non,.bl _=>true | .bl _,.non=>true | .non,.str _=>true | .str _,.non=>true
 | .int _,.int _=>true | .bl _,.bl _=>true | .str _,.str _=>true | .byt _,.byt _=>true
 | .int _,.str _=>true | .str _,.int _=>true | .bl _,.str _=>true | .str _,.bl _=>true
 | _,_=>false
noncomputable def rEq:R2:=fun x y H Q=>scal x y=true/\Q (.bl (decide (x=y))) H
noncomputable def rNe:R2:=fun x y H Q=>scal x y=true/\Q (.bl (!decide (x=y))) H
theorem uw {i j:Int}:decide (V.int i=V.int j)=(i == j):=by
 rw [Bool.eq_iff_iff];simp
theorem wZ {i j:Bool}:decide (V.bl i=V.bl j)=(i == j):=by
 rw [Bool.eq_iff_iff];simp
theorem um {i j:Str}:decide (V.str i=V.str j)=(i == j):=by
 rw [Bool.eq_iff_iff];simp
theorem uE {i j:Array UInt8}:decide (V.byt i=V.byt j)=(i.toList == j.toList):=by
 rw [Bool.eq_iff_iff];cases i;cases j;simp
section
variable {X:Cx} {a b c:Expr} {ta tb tc:TE} {pos:Pos}
theorem aR {pins:List (Addr × Obj)} {σ:St} {H:Hp} {s:Shared} {Q:VK} {k k':Bool} (I:Inv X pins σ H s) (q:Q (.bl k) H) (e:k=k'):EP X pins σ Q (.bool k') s:=by
 subst e;exact ⟨.bl k,H,I,rfl,q⟩
theorem BK:OpR X (compareOp .Eq) rEq:=by
 intro pins s σ H x y v u Q I rx ry h;obtain ⟨hs,q⟩:=h;cases x with
 | non=>
  cases rx;cases y with
  | non=>cases ry; exact PySem.EqNone.eq_none_none (aR I q (by simp))
  | bl j=>cases ry; exact PySem.EqNone.eq_none_bool (aR I q (by simp))
  | int j=>obtain ⟨t',rfl⟩:=ry; exact PySem.EqNone.eq_none_int (aR I q (by simp))
  | str j=>obtain ⟨t',rfl⟩:=ry; exact PySem.EqNone.eq_none_str (aR I q (by simp))
  | _=>exact absurd (show false=true from hs) Bool.false_ne_true
 | bl i=>
  cases rx;cases y with
  | non=>cases ry; exact PySem.EqNone.eq_bool_none (aR I q (by simp))
  | bl j=>cases ry; exact eq_bool (aR I q wZ)
  | str j=>obtain ⟨t',rfl⟩:=ry; exact PySem.EqMixed.eq_bool_str (aR I q (by simp))
  | _=>exact absurd (show false=true from hs) Bool.false_ne_true
 | int i=>
  obtain ⟨t,rfl⟩:=rx;cases y with
  | non=>cases ry; exact PySem.EqNone.eq_int_none (aR I q (by simp))
  | int j=>obtain ⟨t',rfl⟩:=ry; exact eq_int (aR I q uw)
  | str j=>obtain ⟨t',rfl⟩:=ry; exact PySem.EqMixed.eq_int_str (aR I q (by simp))
  | _=>exact absurd (show false=true from hs) Bool.false_ne_true
 | str i=>
  obtain ⟨t,rfl⟩:=rx;cases y with
  | non=>cases ry; exact PySem.EqNone.eq_str_none (aR I q (by simp))
  | bl j=>cases ry; exact PySem.EqMixed.eq_str_bool (aR I q (by simp))
  | int j=>obtain ⟨t',rfl⟩:=ry; exact PySem.EqMixed.eq_str_int (aR I q (by simp))
  | str j=>obtain ⟨t',rfl⟩:=ry; exact eq_str (aR I q um)
  | _=>exact absurd (show false=true from hs) Bool.false_ne_true
 | byt i=>
  obtain ⟨t,rfl⟩:=rx;cases y with
  | byt j=>obtain ⟨t',rfl⟩:=ry; exact PySem.W.eq_bytes (aR I q uE)
  | _=>exact absurd (show false=true from hs) Bool.false_ne_true
 | _=>cases y <;> exact absurd (show false=true from hs) Bool.false_ne_true
theorem BY:OpR X (compareOp .NotEq) rNe:=by
 intro pins s σ H x y v u Q I rx ry h;obtain ⟨hs,q⟩:=h;cases x with
 | non=>
  cases rx;cases y with
  | non=>cases ry; exact PySem.EqNone.ne_none_none (aR I q (by simp))
  | bl j=>cases ry; exact PySem.EqNone.ne_none_bool (aR I q (by simp))
  | int j=>obtain ⟨t',rfl⟩:=ry; exact PySem.EqNone.ne_none_int (aR I q (by simp))
  | str j=>obtain ⟨t',rfl⟩:=ry; exact PySem.EqNone.ne_none_str (aR I q (by simp))
  | _=>exact absurd (show false=true from hs) Bool.false_ne_true
 | bl i=>
  cases rx;cases y with
  | non=>cases ry; exact PySem.EqNone.ne_bool_none (aR I q (by simp))
  | bl j=>cases ry; exact ne_bool (aR I q (congrArg not wZ))
  | str j=>obtain ⟨t',rfl⟩:=ry; exact PySem.EqMixed.ne_bool_str (aR I q (by simp))
  | _=>exact absurd (show false=true from hs) Bool.false_ne_true
 | int i=>
  obtain ⟨t,rfl⟩:=rx;cases y with
  | non=>cases ry; exact PySem.EqNone.ne_int_none (aR I q (by simp))
  | int j=>obtain ⟨t',rfl⟩:=ry; exact ne_int (aR I q (congrArg not uw))
  | str j=>obtain ⟨t',rfl⟩:=ry; exact PySem.EqMixed.ne_int_str (aR I q (by simp))
  | _=>exact absurd (show false=true from hs) Bool.false_ne_true
 | str i=>
  obtain ⟨t,rfl⟩:=rx;cases y with
  | non=>cases ry; exact PySem.EqNone.ne_str_none (aR I q (by simp))
  | bl j=>cases ry; exact PySem.EqMixed.ne_str_bool (aR I q (by simp))
  | int j=>obtain ⟨t',rfl⟩:=ry; exact PySem.EqMixed.ne_str_int (aR I q (by simp))
  | str j=>obtain ⟨t',rfl⟩:=ry; exact ne_str (aR I q (congrArg not um))
  | _=>exact absurd (show false=true from hs) Bool.false_ne_true
 | byt i=>
  obtain ⟨t,rfl⟩:=rx;cases y with
  | byt j=>obtain ⟨t',rfl⟩:=ry; exact PySem.W.ne_bytes (aR I q (congrArg not uE))
  | _=>exact absurd (show false=true from hs) Bool.false_ne_true
 | _=>cases y <;> exact absurd (show false=true from hs) Bool.false_ne_true
theorem BU:OpR X (compareOp .Lt) (rI0 fun i j=>.bl (decide (i < j))):=opB0 fun _ _ _ _ _ _ _ q=>lt_int q
theorem BL:OpR X (compareOp .Gt) (rI0 fun i j=>.bl (decide (j < i))):=opB0 fun _ _ _ _ _ _ _ q=>gt_int q
theorem uV:OpR X (compareOp .In) (fun x y H Q=>∃ i j,x=.str i/\y=.str j/\Q (.bl (!(Builtin.Str.occurrences j i 0 j.length 1).isEmpty)) H):=by
 intro pins s σ H x y v u Q I rx ry h;obtain ⟨i,j,rfl,rfl,q⟩:=h;obtain ⟨t,rfl⟩:=rx;obtain ⟨t',rfl⟩:=ry;exact in_str (aR I q rfl)
theorem Ah:OpR X (compareOp .Is) (fun x y H Q=>y=.non/\Q (.bl (decide (x=.non))) H):=by
 intro pins s σ H x y v u Q I rx ry h;obtain ⟨rfl,q⟩:=h;cases ry;refine is_none_gen (aR I q ?_);cases x <;> first
  | (cases rx; rfl)
  | (obtain ⟨t,rfl⟩:=rx; rfl)
theorem yR:OpR X (compareOp .IsNot) (fun x y H Q=>y=.non/\Q (.bl (!decide (x=.non))) H):=by
 intro pins s σ H x y v u Q I rx ry h;obtain ⟨rfl,q⟩:=h;cases ry;refine isnot_none_gen (aR I q ?_);cases x <;> first
  | (cases rx; rfl)
  | (obtain ⟨t,rfl⟩:=rx; rfl)
theorem qE:OpR X (compareOp .NotIn) (fun x y H Q=>∃ i j,x=.str i/\y=.str j/\Q (.bl (!(!(Builtin.Str.occurrences j i 0 j.length 1).isEmpty))) H):=by
 intro pins s σ H x y v u Q I rx ry h;obtain ⟨i,j,rfl,rfl,q⟩:=h;obtain ⟨t,rfl⟩:=rx;obtain ⟨t',rfl⟩:=ry;exact notIn_str (aR I q rfl)
theorem nomark (b:Expr) {op:CmpOp} (h:op≠.In:=by decide) (h2:op≠.NotIn:=by decide):behindInMarks op b=false:=by
 have e1:(op == CmpOp.In)=false:=by cases op <;> first | rfl | exact absurd rfl h
 have e2:(op == CmpOp.NotIn)=false:=by cases op <;> first | rfl | exact absurd rfl h2
 cases b <;> simp [behindInMarks,e1,e2]
theorem zE {op:CmpOp} {r:R2} (ho:OpR X (compareOp op) r) (ha:PE X a ta) (hb:PE X b tb) (hm:behindInMarks op b=false):PE X (.Compare a [op] [b] pos) (tOp r ta tb):=by
 intro pins s σ H Q I h;exact wpAny_Compare1 (binT ha hb I h fun v u s2 x y H2 I2 rx ry q=>ho pins s2 σ H2 x y v u Q I2 rx ry q) hm
noncomputable def tTest (t:TE):TT:=fun σ H Q=>t σ H fun x H'=>∃ k,x=.bl k/\Q k H'
theorem yQ {op:CmpOp} {r:R2} (ho:OpR X (compareOp op) r) (ha:PE X a ta) (hb:PE X b tb) (hm:behindInMarks op b=false):PT X (.Compare a [op] [b] pos) (tTest (tOp r ta tb)):=by
 intro pins s σ H Q I h;refine wpAny_isTrue_Compare1 (thn (ha pins s σ H _ I h) fun v s1 ⟨x,H1,I1,r1,q1⟩=>thn (hb pins s1 σ H1 _ I1 q1) fun u s2 ⟨y,H2,I2,r2,q2⟩=>
  thn (ho pins s2 σ H2 x y v u _ I2 r1 r2 q2) fun c s3 ⟨z,H3,I3,r3,k,e,q3⟩=>?_) hm
 subst e;cases r3;exact wpAny_truthy_bool ⟨H3,I3,q3⟩
theorem line63:(sizeLine:Nat) < 2 ^ 63:=by rw [sizeLine_eq]; decide
theorem sM:OpR X (binaryOp .Add) (fun x y H Q=>∃ i j,x=.str i/\y=.str j/\i.length+j.length<=sizeLine/\Q (.str (i++j)) H):=by
 intro pins s σ H x y v u Q I rx ry h;obtain ⟨i,j,rfl,rfl,hz,q⟩:=h;obtain ⟨t,rfl⟩:=rx;obtain ⟨t',rfl⟩:=ry;exact tokQ I.tk (add_str (fun t' tk (htk:0 < tk)=>⟨.str (i++j),H,I.tok _,⟨_,rfl⟩,q⟩) hz)
theorem vals1 {x:V} {us:List Value} (r:Vals [x] us):∃ u,us=[u]/\RelV x u:=by
 cases r with
 | cons r1 r2=>cases r2; exact ⟨_,rfl,r1⟩
theorem vals2 {x y:V} {us:List Value} (r:Vals [x,y] us):∃ u w',us=[u,w']/\RelV x u/\RelV y w':=by
 cases r with
 | cons r1 r2=>
  cases r2 with
  | cons r3 r4=>cases r4; exact ⟨_,_,rfl,r1,r3⟩
theorem vF (hc:X.calm=true):CallR X (.builtin "max") (fun xs H Q=>∃ i j,xs=[.int i,.int j]/\Q (.int (if j > i then j else i)) H):=by
 intro pins s σ H xs us Q I r h;obtain ⟨i,j,rfl,q⟩:=h;obtain ⟨u,w',rfl,⟨t,rfl⟩,⟨t',rfl⟩⟩:=vals2 r;refine tokQ I.tk (max_two_ints (I.ok.hd hc) fun h' tk k (htk:0 < tk)=>⟨_,H,I.kept k,?_,q⟩);by_cases hj:j > i
 ·rw [if_pos hj,if_pos hj]; exact ⟨_,rfl⟩
 ·rw [if_neg hj,if_neg hj]; exact ⟨_,rfl⟩
end
structure ObjM (h:Heap) (x dx C:Addr) (mA:Str->Option Value):Prop where
 obj:h.get? x=some (PySem.W.instObj C dx)
 ns:h.Ns1 dx mA
 ne:dx≠x
theorem vQ {h:Heap} {dx:Addr} {mA:Str->Option Value} (n:h.Ns1 dx mA):∃ od,h.get? dx=some od/\∀ name,PySem.W.lookIn name od=some (mA name):=by
 obtain ⟨o,es,ep,ho,hd,hk,_,hm⟩:=n;refine ⟨o,ho,fun name=>?_⟩;have e:=hm name;unfold nsFind findBy at e;rw [<- Array.find?_toList] at e;unfold PySem.W.lookIn;rw [hd];dsimp only;split
 ·rename_i y q;rw [q] at e;exact congrArg some e
 ·rename_i q;rw [q] at e;have a:es.toList.any (·.refKey)=false:=by
   rw [List.any_eq_false];intro y hy;obtain ⟨z,t,hkey⟩:=hk y (Array.mem_toList_iff.mp hy);simp [DictEntry.refKey,hkey]
  have a':¬ es.toList.any (·.refKey)=true:=by rw [a]; exact Bool.false_ne_true
  rw [if_neg a'];exact congrArg some e
theorem ObjM.look {h:Heap} {x dx C:Addr} {mA:Str->Option Value} (I:ObjM h x dx C mA):∃ od,PySem.W.InstAt h x (PySem.W.instObj C dx) C (some od)/\∀ name,PySem.W.lookIn name od=some (mA name):=
 let ⟨od,ho,hl⟩:=vQ I.ns
 ⟨od,⟨I.obj,rfl,rfl,ho⟩,hl⟩
section
variable {prog:Program} {w:World} {A:Around} {E:Value->Shared->Prop} {s:Shared} {K:Frag} {x dx C f:Addr} {mA:Str->Option Value} {name:Str} {v:Value}
theorem yy {expr:Bool} {Q:Value->Shared->Prop} (X:K.In s.heap) (I:ObjM s.heap x dx C mA) (hg:PySem.W.plainGet K C name=true) (hh:PySem.W.hasDictIn K C=true)
  (ha:findIn K (.ref C) name=some none) (hv:mA name=some v) (hv':PySem.W.handedIn v=true) (h:Q v { s with toks:=s.toks+1 }):
  wpAny (model prog w) A (getAttr (.ref x) name expr) Q E s:=by
 obtain ⟨od,J,hl⟩:=I.look;exact PySem.W.get_value X J (PySem.W.plainGet_of hg).1 (PySem.W.findObj_own hh ha rfl (by rw [hl,hv])) hv' h
theorem wQ {pl:Sem Bool} {Q:Value × List Value->Shared->Prop} (X:K.In s.heap) (I:ObjM s.heap x dx C mA) (hg:PySem.W.plainGet K C name=true)
  (hf:findIn K (.ref C) name=some (some (.ref f))) (ht:PySem.W.isFn K (.ref f)=true) (hv:mA name=none) (h:Q (.ref f,[.ref x]) s):
  wpAny (model prog w) A (getMethod (.ref x) name pl) Q E s:=by
 obtain ⟨od,J,hl⟩:=I.look;exact PySem.W.method_fn X J (PySem.W.plainGet_of hg).1 (PySem.W.plainGet_of hg).2 hf (beq_iff_eq.mp ht) (by show (PySem.W.lookIn name od).map (·.isSome)=some false; rw [hl,hv]; rfl) h
theorem zr {ns:List Str} {Q:Unit->Shared->Prop} (X:K.In s.heap) (I:ObjM s.heap x dx C mA)
  (hs:findIn K (.ref C) "__setattr__" = some (some (.builtin "object.__setattr__"))) (hp:PySem.W.plainOver K C=true) (ht:PySem.W.takerIn K C name=some none) (hh:PySem.W.hasDictIn K C=true)
  (hw:PySem.Within mA ns) (hsz:ns.length<=sizeLine)
  (h:∀ h',ObjM h' x dx C (fun y=>if y=name then some v else mA y)->Heap.SameBut dx s.heap h'->Q () { s with heap:=h',toks:=s.toks+2 }):
  wpAny (model prog w) A (setAttr (.ref x) name v) Q E s:=by
 obtain ⟨od,J,hl⟩:=I.look;refine PySem.W.set_plain X J hs (PySem.W.osa_open (s:={ s with toks:=s.toks+1 }) (r:=none) X J hp ht fun b=>?_);obtain ⟨cd,hc,hd'⟩:=PySem.W.any_some hh;have hx:s.heap.get? x=some ⟨.ref C,some dx,.plain,#[]⟩:=I.obj;refine wpAny_bind (wpAny_pure (wpAny_bind (wpAny_bind (wpAny_loadPart hx (wpAny_bind (PySem.W.Looks.here (s:={ s with toks:=s.toks+1 }) (PySem.W.looks_clsIn X hc) ?_))))));rw [hd'];refine wpAny_pure (a:=some dx) (wpAny_bind (wpAny_pure (wpAny_bind ?_)));refine wpAny_nsSet1 (s:={ s with toks:=s.toks+1 }) I.ns fun h' hn2 hs2=>?_
 obtain ⟨oD,esD,epD,hoD,hdD,hcD⟩:=hn2.count (PySem.Within.cons name v hw);refine wpAny_bind (wpAny_lookBehind hoD (by rw [hdD]; exact pastItsLine_dict (Nat.le_trans hcD (by rw [List.length_cons]; lia))) ?_);exact wpAny_pure (h _ ⟨(hs2.2 _ (Ne.symm I.ne)).trans I.obj,hn2,I.ne⟩ hs2)
theorem xR {R:Result->Shared->Prop} {vs:List Value} {kw:List (Str × Value)} (X:K.In s.heap) (hm:PySem.W.makesIn K C=true)
  (hi:findIn K (.ref C) "__init__" = some (some (.ref f))) (hf:PySem.W.typeIn K (.ref f)=some (.type "function"))
  (h:codeAny (model prog w) (A.under (.builtin "type.__call__" ⟨.ref C::vs,kw⟩)) (.call (.ref f) ⟨.ref (s.heap.objs.size+1)::vs,kw⟩) (PySem.W.InitBack (s.heap.objs.size+1) R)
   { s with heap:=(s.heap.push PySem.W.emptyDict).push (PySem.W.instObj C s.heap.objs.size) }):
  codeAny (model prog w) A (.call (.ref C) ⟨vs,kw⟩) R s:=by
 obtain ⟨hh,g,d,t,os⟩:=s;exact PySem.W.make_core (PySem.W.makes_of X hm) (PySem.W.looks_findIn X hi) (fun self=>PySem.W.bind_fn X self hf) (.inl rfl) h
end
noncomputable def putF (f:Str) (v:V):List (Str × V)->List (Str × V)
 | []=>[(f,v)]
 | (g,x)::r=>if g=f then (g,v)::r else (g,x)::putF f v r
theorem lg (f g:Str) (v:V):∀ fs:List (Str × V),(putF f v fs).lookup g=if g=f then some v else fs.lookup g
 | []=>by
  show List.lookup g [(f,v)]=_;by_cases h:g=f
  ·have hb:(g == f)=true:=beq_iff_eq.mpr h;simp only [List.lookup,hb,if_pos h]
  ·have hb:(g == f)=false:=beq_eq_false_iff_ne.mpr h;simp only [List.lookup,hb,if_neg h]
 | (k,x)::r=>by
  have ih:=lg f g v r;rw [show putF f v ((k,x)::r)=(if k=f then (k,v)::r else (k,x)::putF f v r) from rfl];by_cases hk:k=f
  ·rw [if_pos hk];by_cases h:g=k
   ·have hb:(g == k)=true:=beq_iff_eq.mpr h;simp only [List.lookup,hb,if_pos (h.trans hk)]
   ·have hb:(g == k)=false:=beq_eq_false_iff_ne.mpr h;simp only [List.lookup,hb,if_neg (fun e:g=f=>h (e.trans hk.symm))]
  ·rw [if_neg hk];by_cases h:g=k
   ·have hb:(g == k)=true:=beq_iff_eq.mpr h;simp only [List.lookup,hb,if_neg (fun e:g=f=>hk (h.symm.trans e))]
   ·have hb:(g == k)=false:=beq_eq_false_iff_ne.mpr h;simp only [List.lookup,hb];exact ih
theorem kE (f:Str) (v:V):∀ fs:List (Str × V),f ∈ (putF f v fs).map (·.1)/\∀ g,g ∈ fs.map (·.1)->g ∈ (putF f v fs).map (·.1)
 | []=>⟨by simp [putF],fun g h=>by simp at h⟩
 | (k,x)::r=>by
  obtain ⟨i1,i2⟩:=kE f v r;rw [show putF f v ((k,x)::r)=(if k=f then (k,v)::r else (k,x)::putF f v r) from rfl];by_cases hk:k=f
  ·rw [if_pos hk];subst hk;exact ⟨by simp,fun g h=>by simpa using h⟩
  ·rw [if_neg hk];refine ⟨?_,fun g h=>?_⟩
   ·rw [List.map_cons];exact List.mem_cons_of_mem _ i1
   ·rw [List.map_cons] at h ⊢;rcases List.mem_cons.mp h with e | e
    ·exact List.mem_cons.mpr (.inl e)
    ·exact List.mem_cons_of_mem _ (i2 g e)
theorem lx (f:Str) (v:V):∀ fs:List (Str × V),(putF f v fs).length<=fs.length+1
 | []=>by simp [putF]
 | (k,x)::r=>by
  have ih:=lx f v r;rw [show putF f v ((k,x)::r)=(if k=f then (k,v)::r else (k,x)::putF f v r) from rfl];by_cases hk:k=f
  ·rw [if_pos hk,List.length_cons,List.length_cons]; lia
  ·rw [if_neg hk,List.length_cons,List.length_cons]; lia
theorem RelO.some_of {v:V} {o:Option Value} (r:RelO (some v) o):∃ u,o=some u/\RelV v u:=by
 cases o with
 | none=>exact (show False from r).elim
 | some u=>exact ⟨u,rfl,r⟩
theorem RelO.none_of {o:Option Value} (r:RelO none o):o=none:=by
 cases o with
 | none=>rfl
 | some u=>exact (show False from r).elim
theorem v4 {v:V} {u:Value} (r:RelV v u):PySem.W.handedIn u=true:=by
 cases v with
 | non=>cases (show u=Value.none from r); rfl
 | bl b=>cases (show u=Value.bool b from r); rfl
 | int i=>obtain ⟨t,e⟩:=(show ∃ t,u=Value.int i t from r); cases e; rfl
 | str x=>obtain ⟨t,e⟩:=(show ∃ t,u=Value.str x t from r); cases e; rfl
 | byt b=>obtain ⟨t,e⟩:=(show ∃ t,u=Value.bytes b t from r); cases e; rfl
 | flt b=>obtain ⟨t,e⟩:=(show ∃ t,u=Value.float b t from r); cases e; rfl
 | ref a=>cases (show u=Value.ref a from r); rfl
 | ty n=>cases (show u=Value.type n from r); rfl
section
variable {P:Program} {w:World} {H H':Hp} {h h':Heap} {a C dx:Addr} {fs fs':List (Str × V)}
theorem me (hok:HOk P w H h) (e:H a=some (.ins C dx fs)):∃ mA,ObjM h a dx C mA/\(∀ f,RelO (fs.lookup f) (mA f))/\PySem.Within mA (fs.map (·.1))/\fs.length<=1000/\H dx=some (.own a):=by
 obtain ⟨d,z,ne,ob,mA,n,r,q⟩:=(show ObjOk P w H h a (.ins C dx fs) from hok a _ e);exact ⟨mA,⟨ob,n,ne⟩,r,q,z,d⟩
end
structure Cls (K:Frag) (C:Addr):Prop where
 pg:PySem.W.plainGet K C Str.empty=true
 hd:PySem.W.hasDictIn K C=true
 po:PySem.W.plainOver K C=true
 sa:findIn K (.ref C) "__setattr__" = some (some (.builtin "object.__setattr__"))
theorem Cls.get {K:Frag} {C:Addr} (c:Cls K C) (f:Str):PySem.W.plainGet K C f=true:=c.pg
def NoAttr (K:Frag) (C:Addr) (f:Str):Prop:=findIn K (.ref C) f=some none
theorem NoAttr.taker {K:Frag} {C:Addr} {f:Str} (n:NoAttr K C f):PySem.W.takerIn K C f=some none:=by
 unfold PySem.W.takerIn;rw [show findIn K (.ref C) f=some none from n];rfl
structure Meth (K:Frag) (C:Addr) (m:Str) (f:Addr):Prop where
 at_:findIn K (.ref C) m=some (some (.ref f))
 fn:PySem.W.isFn K (.ref f)=true
 kp:keepIn K (.ref f)=true
section
variable {X:Cx} {pins:List (Addr × Obj)} {σ:St} {H:Hp} {s:Shared} {a C dx:Addr} {fs:List (Str × V)} {f:Str} {v:V} {A:Around} {E:Value->Shared->Prop}
theorem tT {b:Bool} {Q:Value->Shared->Prop} (I:Inv X pins σ H s) (e:H a=some (.ins C dx fs)) (c:Cls X.K C) (n:NoAttr X.K C f) (l:fs.lookup f=some v)
  (h:∀ u s',Inv X pins σ H s'->RelV v u->Q u s'):wpAny (model X.prog X.w) A (getAttr (.ref a) f b) Q E s:=by
 obtain ⟨mA,O,r,_,_,_⟩:=me I.hok e;obtain ⟨u,hu,ru⟩:=RelO.some_of (v:=v) (o:=mA f) (by rw [<- l]; exact r f);exact yy I.kIn O (c.get f) c.hd n hu (v4 ru) (h u _ (I.tok _) ru)
theorem sE {m:Str} {g:Addr} {pl:Sem Bool} {Q:Value × List Value->Shared->Prop} (I:Inv X pins σ H s) (e:H a=some (.ins C dx fs)) (c:Cls X.K C) (k:Meth X.K C m g) (l:fs.lookup m=none)
  (h:Q (.ref g,[.ref a]) s):wpAny (model X.prog X.w) A (getMethod (.ref a) m pl) Q E s:=by
 obtain ⟨mA,O,r,_,_,_⟩:=me I.hok e;have hn:mA m=none:=RelO.none_of (by rw [<- l]; exact r m);exact wQ I.kIn O (c.get m) k.at_ k.fn hn h
theorem tM {y:V} {u:Value} {Q:Unit->Shared->Prop} (I:Inv X pins σ H s) (e:H a=some (.ins C dx fs)) (c:Cls X.K C) (n:NoAttr X.K C f) (hl:fs.length < 1000) (ry:RelV y u)
  (h:∀ s',Inv X pins σ (upd H a (.ins C dx (putF f y fs))) s'->Q () s'):wpAny (model X.prog X.w) A (setAttr (.ref a) f u) Q E s:=by
 obtain ⟨mA,O,r,wi,_,ho⟩:=me I.hok e;have hz:(fs.map (·.1)).length<=sizeLine:=by rw [List.length_map,sizeLine_eq]; lia
 refine zr I.kIn O c.sa c.po n.taker c.hd wi hz fun h' O' sb=>h _ ?_
 have hd:∃ o,h'.get? dx=some o:=let ⟨o,_,_,e',_⟩:=O'.ns; ⟨o,e'⟩
 refine I.write (x:=a) (e:=dx) (by rw [e]; exact True.intro) (.inr ho) (fun b q hb z=>(sb.2 b hb).trans z) hd ?_;refine ⟨by rw [ao O.ne]; exact ho,?_,O.ne,O'.obj,_,O'.ns,fun g=>?_,fun g hg=>?_⟩
 ·have:=lx f y fs; lia
 ·show RelO ((putF f y fs).lookup g) (if g=f then some u else mA g);rw [lg];by_cases q:g=f
  ·rw [if_pos q,if_pos q]; exact ry
  ·rw [if_neg q,if_neg q]; exact r g
 ·by_cases q:g=f
  ·rw [q]; exact (kE f y fs).1
  ·refine (kE f y fs).2 g (wi g fun z=>hg ?_);show (if g=f then some u else mA g)=none;rw [if_neg q]; exact z
theorem Inv.made (I:Inv X pins σ H s):Inv X pins σ (upd (upd H s.heap.objs.size (.own (s.heap.objs.size+1))) (s.heap.objs.size+1) (.ins C s.heap.objs.size []))
  { s with heap:=(s.heap.push PySem.W.emptyDict).push (PySem.W.instObj C s.heap.objs.size) }:=by
 have e1:(s.heap.push PySem.W.emptyDict).get? s.heap.objs.size=some PySem.W.emptyDict:=Heap.get?_push_size s.heap rfl;have e2:((s.heap.push PySem.W.emptyDict).push (PySem.W.instObj C s.heap.objs.size)).get? (s.heap.objs.size+1)=some (PySem.W.instObj C s.heap.objs.size):=by
  have:=Heap.get?_push_size (s.heap.push PySem.W.emptyDict) (o:=PySem.W.instObj C s.heap.objs.size) rfl
  rwa [Heap.size_push] at this
 have e3:(s.heap.push PySem.W.emptyDict).Ns s.heap.objs.size (fun _=>none):=⟨PySem.W.emptyDict,#[],_,e1,rfl,(fun e he=>absurd he (by simp)),fun _=>rfl⟩;have I1:=I.laid (a:=s.heap.objs.size) (o:=.own (s.heap.objs.size+1)) (h':=s.heap.push PySem.W.emptyDict) (t':=s.toks) (fun b u q=>Heap.get?_push_of_some _ q) (Nat.le_refl _) ⟨_,e1⟩;refine I1.laid (a:=s.heap.objs.size+1) (o:=.ins C s.heap.objs.size []) (t':=s.toks) (fun b u q=>Heap.get?_push_of_some _ q) (Nat.le_of_eq (Heap.size_push _ _)) ?_;have ne:s.heap.objs.size≠s.heap.objs.size+1:=Nat.ne_of_lt (Nat.lt_succ_self _);refine ⟨by rw [ao ne,upd_same],Nat.zero_le _,ne,e2,fun _=>none,(Heap.Ns1.of_empty e3).at fun o q=>Heap.get?_push_of_some _ q,fun _=>True.intro,fun y hy=>absurd rfl hy⟩
theorem zK {prog:Program} {w:World} {env:Env} {e:Expr} {f:Str} {pos:Pos} {s:Shared} {Q:Value->Shared->Prop} (hb:attributeBase e f env (eval e env)=eval e env)
  (h:wpAny (model prog w) A (eval e env) (fun o s₁=>wpAny (model prog w) A (getAttr o f true) Q E s₁) E s):wpAny (model prog w) A (eval (.Attribute e f pos) env) Q E s:=
 Attribute_any_ h (by rw [arm_eval_Attribute,hb])
end
noncomputable def tFld (K:Frag) (ta:TE) (f:Str):TE:=fun σ H Q=>ta σ H fun x H1=>∃ a C dx fs v,x=.ref a/\H1 a=some (.ins C dx fs)/\Cls K C/\NoAttr K C f/\fs.lookup f=some v/\Q v H1
noncomputable def sFld (K:Frag) (ta tv:TE) (f:Str):TS:=fun D σ H=>tv σ H fun y H1=>ta σ H1 fun x H2=>∃ a C dx fs,x=.ref a/\H2 a=some (.ins C dx fs)/\Cls K C/\NoAttr K C f/\fs.length < 1000 /\
 D.nx σ (upd H2 a (.ins C dx (putF f y fs)))
section
variable {X:Cx} {o e value:Expr} {f:Str} {pos pos' tpos:Pos} {ta tv:TE}
theorem cG (he:PE X e ta) (hb:attributeBase e f X.env (eval e X.env)=eval e X.env):PE X (.Attribute e f pos) (tFld X.K ta f):=by
 intro pins s σ H Q I h;refine zK hb (thn (he pins s σ H _ I h) fun u s1 ⟨x,H1,I1,rx,a,C,dx,fs,v,ex,ea,c,n,l,q⟩=>?_);subst ex;obtain rfl:u=Value.ref a:=rx;exact tT I1 ea c n l fun u' s2 I2 ru=>⟨v,H1,I2,ru,q⟩
theorem b7 (ha:PE X o ta) (hv:PE X value tv) (hs:swapsWith value (some (.Attribute o f pos')) pos.line X.env=pure false):PS X (.Assign [.Attribute o f pos'] value pos) (sFld X.K ta tv f):=by
 intro pins s σ H D I h;refine plainObj_wpAny_Assign_Attribute (thn (hv pins s σ H _ I h) fun u s1 ⟨y,H1,I1,ry,q⟩=>thn (ha pins s1 σ H1 _ I1 q) fun ov s2 ⟨x,H2,I2,rx,a,C,dx,fs,ex,ea,c,n,l,q2⟩=>?_) hs;subst ex;obtain rfl:ov=Value.ref a:=rx;exact tM I2 ea c n l ry fun s3 I3=>⟨σ,_,I3,q2⟩
end
section
variable {X:Cx} {pins:List (Addr × Obj)} {σ:St} {H:Hp} {s:Shared} {A:Around} {E:Value->Shared->Prop} {Q:Value->Shared->Prop} {c:Value} {b:Bool}
inductive TyOf (K:Frag) (H:Hp):V->Value->Prop where
 | non:TyOf K H .non (.type "NoneType")
 | bl (x:Bool):TyOf K H (.bl x) (.type "bool")
 | int (i:Int):TyOf K H (.int i) (.type "int")
 | str (x:Str):TyOf K H (.str x) (.type "str")
 | flt (x:UInt64):TyOf K H (.flt x) (.type "float")
 | lst {a:Addr} {xs:List V} (e:H a=some (.lst xs)):TyOf K H (.ref a) (.type "list")
 | frz {a:Addr} {o:Obj} {xs:List V} (e:H a=some (.frz o (.lst xs))):TyOf K H (.ref a) (.type "list")
 | tup {a:Addr} {xs:List V} (e:H a=some (.tup xs)):TyOf K H (.ref a) (.type "tuple")
 | dK {a:Addr} {kvs:List (Key × V)} (e:H a=some (.dK kvs)):TyOf K H (.ref a) (.type "dict")
 | dT {a:Addr} {kvs:List (List Key × V)} (e:H a=some (.dT kvs)):TyOf K H (.ref a) (.type "dict")
 | ins {a C dx:Addr} {fs:List (Str × V)} (e:H a=some (.ins C dx fs)) (cl:Cls K C) (ha:findIn K (.ref C) "__class__" = some (some (.builtin "object.__class__")))
   (hn:PySem.W.specialIn K (.builtin "object.__class__") "__get__" = some (some (.builtin "getset_descriptor.__get__"))) (htk:PySem.W.takesIn K (.builtin "object.__class__")=some true)
   (hm:PySem.W.mroIn K C (.type "object")=some true):TyOf K H (.ref a) (.ref C)
theorem vn {x:V} {u t:Value} (I:Inv X pins σ H s) (rx:RelV x u) (ty:TyOf X.K H x t) (e:PySem.W.kitOne X.K t c=some b) (h:∀ tk,Q (.bool b) { s with toks:=tk }):
  wpAny (model X.prog X.w) A (call (.builtin "isinstance") [u,c]) Q E s:=by
 cases ty with
 | non=>cases (show u=Value.none from rx); exact PySem.W.kia_one PySem.W.kitx_none I.kIn True.intro e (fun z=>nomatch z) h
 | bl y=>cases (show u=Value.bool y from rx); exact PySem.W.kia_one PySem.W.kitx_bool I.kIn True.intro e (fun z=>nomatch z) h
 | int i=>obtain ⟨t,q⟩:=(show ∃ t,u=Value.int i t from rx); cases q; exact PySem.W.kia_one PySem.W.kitx_int I.kIn True.intro e (fun z=>nomatch z) h
 | str y=>obtain ⟨t,q⟩:=(show ∃ t,u=Value.str y t from rx); cases q; exact PySem.W.kia_one PySem.W.kitx_str I.kIn True.intro e (fun z=>nomatch z) h
 | flt y=>obtain ⟨t,q⟩:=(show ∃ t,u=Value.float y t from rx); cases q; exact PySem.W.kia_one PySem.W.kitx_float I.kIn True.intro e (fun z=>nomatch z) h
 | @lst a xs ea=>
  cases (show u=Value.ref a from rx);obtain ⟨_,_,n,_,h1⟩:=(show ObjOk X.prog X.w H s.heap a (.lst xs) from I.hok a _ ea);exact PySem.W.kia_one PySem.W.kitx_list I.kIn ⟨_,h1,rfl⟩ e (fun z=>nomatch z) h
 | @frz a ob xs ea=>
  cases (show u=Value.ref a from rx);obtain ⟨_,_,_,n,_,h1⟩:=(show ObjOk X.prog X.w H s.heap a (.frz ob (.lst xs)) from I.hok a _ ea);exact PySem.W.kia_one PySem.W.kitx_list I.kIn ⟨_,h1,rfl⟩ e (fun z=>nomatch z) h
 | @tup a xs ea=>
  cases (show u=Value.ref a from rx);obtain ⟨_,_,_,p⟩:=(show ObjOk X.prog X.w H s.heap a (.tup xs) from I.hok a _ ea);obtain ⟨o,h1,h2,_⟩:=p;exact PySem.W.kia_one PySem.W.kitx_tuple I.kIn ⟨o,h1,h2⟩ e (fun z=>nomatch z) h
 | @dK a kvs ea=>
  cases (show u=Value.ref a from rx);obtain ⟨_,_,vs,_,p⟩:=(show ObjOk X.prog X.w H s.heap a (.dK kvs) from I.hok a _ ea);obtain ⟨o,es,ep,h1,h2,_⟩:=p;exact PySem.W.kia_one PySem.W.kitx_dict I.kIn ⟨o,h1,h2.1⟩ e (fun z=>nomatch z) h
 | @dT a kvs ea=>
  cases (show u=Value.ref a from rx);obtain ⟨_,_,xs,_,o,es,ep,h1,h2,_⟩:=(show ObjOk X.prog X.w H s.heap a (.dT kvs) from I.hok a _ ea);exact PySem.W.kia_one PySem.W.kitx_dict I.kIn ⟨o,h1,h2.1⟩ e (fun z=>nomatch z) h
 | @ins a C dx fs ea cl ha hn htk hm=>
  cases (show u=Value.ref a from rx);obtain ⟨mA,O,_⟩:=me I.hok ea;obtain ⟨od,J,_⟩:=O.look;exact PySem.W.kia_one (PySem.W.kitx_own (cl.get _) cl.hd ha hn htk hm) I.kIn J e (fun z=>nomatch z) h
end
structure Room (k:Nat) (A:Around):Prop where
 hd:A.handled=none
 dp:A.depth+3*k+5 < recursionLimit
 un:A.units+16*k+200 < cLine
 gd:A.guards=some []
theorem Room.mono {j k:Nat} {A:Around} (r:Room k A) (h:j<=k):Room j A:=⟨r.hd,by have:=r.dp; lia,by have:=r.un; lia,r.gd⟩
theorem Room.deeper {k:Nat} {A:Around} (r:Room (k+1) A) (env:Env):Room k (A.deeper env):=
 ⟨r.hd,by have:=r.dp; show A.depth+1+3*k+5 < _; lia,by have:=r.un; show A.units+3+16*k+200 < _; lia,r.gd⟩
theorem ub {A:Around} {C:Addr} {us:List Value} {kw:List (Str × Value)}:(A.under (.builtin "type.__call__" ⟨.ref C::us,kw⟩)).depth=A.depth+1:=by
 first | rfl | simp [Around.under,Code.weight,Code.isCreation,Code.isGuard,Code.isCaller,Code.frames,Code.isFrame,guardIds]
theorem tX {A:Around} {C:Addr} {us:List Value} {kw:List (Str × Value)}:(A.under (.builtin "type.__call__" ⟨.ref C::us,kw⟩)).units=A.units+1:=by
 first | rfl | simp [Around.under,Code.cUnits,Code.frames,Code.isFrame]
theorem Room.make {k:Nat} {A:Around} (r:Room (k+1) A) (C:Addr) (us:List Value) (kw:List (Str × Value)):Room k (A.under (.builtin "type.__call__" ⟨.ref C::us,kw⟩)):=
 ⟨r.hd,by have:=r.dp; rw [ub]; lia,by have:=r.un; rw [tX]; lia,by first | exact r.gd | (simpa [Around.under,Code.guards,Code.isGuard,pushGuards,guardIds] using r.gd)⟩
theorem Room.depth {k:Nat} {A:Around} (r:Room k A):A.depth < recursionLimit:=by have:=r.dp; lia
theorem Room.units {k:Nat} {A:Around} (r:Room k A):A.units+64 < cLine:=by have:=r.un; lia
theorem Room.units0 {k:Nat} {A:Around} (r:Room k A):A.units < cLine:=by have:=r.un; lia
noncomputable def tNil:TA:=fun _ H Q=>Q [] H
noncomputable def tCons (ta:TE) (tr:TA):TA:=fun σ H Q=>ta σ H fun x H1=>tr σ H1 fun xs H2=>Q (x::xs) H2
section
variable {X:Cx} {e:Expr} {es:List Expr} {te:TE} {t:TA} {pos:Pos}
theorem ad:PA X [] tNil:=fun _ _ _ _ H Q I h=>Calls.spliced_nil ⟨[],H,I,.nil,h⟩
theorem aa (ha:PE X e te) (hr:PA X es t) (hs:starEach (e::es) X.env=(false,eval e X.env)::starEach es X.env:=by rfl):PA X (e::es) (tCons te t):=by
 intro pos pins s σ H Q I h;rw [hs];show wpAny _ _ (spliced ((false,eval e X.env)::backTo pos (starEach es X.env))) _ _ s;refine Calls.spliced_cons (thn (ha pins s σ H _ I h) fun u s1 ⟨x,H1,I1,r1,q1⟩=>?_);exact thn (hr pos pins s1 σ H1 _ I1 q1) fun us s2 ⟨xs,H2,I2,r2,q2⟩=>⟨x::xs,H2,I2,.cons r1 r2,q2⟩
noncomputable def tTup (t:TA):TE:=fun σ H Q=>t σ H fun xs H1=>xs.length<=sizeLine/\∀ p,H1 p=none->Q (.ref p) (upd H1 p (.tup xs))
noncomputable def tLst (t:TA):TE:=fun σ H Q=>t σ H fun xs H1=>xs.length<=sizeLine/\∀ p,H1 p=none->Q (.ref p) (upd H1 p (.lst xs))
theorem aA {x1} (h:PA X es t):PE X (.Tuple es x1 pos) (tTup t):=by
 intro pins s σ H Q I hq;refine wpAny_Tuple_spliced (thn (h pos pins s σ H _ I hq) fun us s1 ⟨xs,H1,I1,r,z,q⟩=>⟨by rw [<- r.length]; exact z,?_⟩);have hf:H1 s1.heap.objs.size=none:=I1.hok.fresh (Nat.le_refl _);refine ⟨.ref s1.heap.objs.size,upd H1 s1.heap.objs.size (.tup xs),I1.laid (t':=s1.toks) (fun b u e=>Heap.get?_push_of_some _ e) (Nat.le_refl _) ?_,rfl,q _ hf⟩;exact ⟨z,us,r,⟨_,Heap.get?_push_size _ rfl,rfl,_,rfl⟩⟩
theorem aL (h:PA X es t):PE X (.List es pos) (tLst t):=by
 intro pins s σ H Q I hq;refine wpAny_List_spliced (thn (h pos pins s σ H _ I hq) fun us s1 ⟨xs,H1,I1,r,z,q⟩=>⟨by rw [<- r.length]; exact z,?_⟩);have hf:H1 s1.heap.objs.size=none:=I1.hok.fresh (Nat.le_refl _);refine ⟨.ref s1.heap.objs.size,upd H1 s1.heap.objs.size (.lst xs),I1.laid (t':=s1.toks) (fun b u e=>Heap.get?_push_of_some _ e) (Nat.le_refl _) ?_,rfl,q _ hf⟩;exact ⟨z,us,0,r,Heap.get?_push_size _ rfl⟩
end
noncomputable abbrev Sp:=List V->Hp->VK->XK->Prop
noncomputable abbrev CXT:=List Env->Hp->Shared->XK->Value->Shared->Prop
structure Env0 (P:Program) (w:World) (K:Frag) (mg:Str->Option Value) (base:Heap) (A:Around) (outer:List Env) (s:Shared) (H:Hp):Prop where
 frames:A.frames=some outer
 mod:Mod K mg base
 bs:∀ b o,base.get? b=some o->s.heap.get? b=some o/\H b=none
 bsz:base.objs.size<=s.heap.objs.size
 funs:s.heap.FunFrames base outer
 frf:∀ b ∈ frs outer,H b=none
 hok:HOk P w H s.heap
 bare:AllBare s.gens
 tk:0 < s.toks
def CE (outer:List Env) (P:Program) (w:World) (H:Hp) (s:Shared) (Q:VK) (u:Value) (s':Shared):Prop:=
 ∃ v H',0 < s'.toks/\s'.os=s.os/\AllBare s'.gens/\Un (frs outer) [] H H' s.heap s'.heap/\HOk P w H' s'.heap/\RelV v u/\Q v H'
def CR (CX:CXT) (outer:List Env) (P:Program) (w:World) (H:Hp) (s:Shared) (Q:VK) (E:XK) (r:Result) (s':Shared):Prop:=
 match r with
 | .ok (.ret u)=>CE outer P w H s Q u s'
 | .ok _=>False
 | .error e=>CX outer H s E e s'
structure FnOk (P:Program) (w:World) (K:Frag) (mg:Str->Option Value) (base:Heap) (CX:CXT) (k:Nat) (f:Addr) (fd:FuncData) (ps:List Str) (sp:Sp):Prop where
 len:∀ vs H Q E,sp vs H Q E->vs.length=ps.length
 run:∀ (A:Around) (outer:List Env) (s:Shared) (H:Hp) (args:Args) (us:List Value) (vs:List V) (Q:VK) (E:XK),Room k A->Env0 P w K mg base A outer s H->BindsTo s fd args (ps.zip us)->Vals vs us->sp vs H Q E ->
  codeAny (model P w) A (.call (.ref f) args) (CR CX outer P w H s Q E) s
theorem Env0.make {P:Program} {w:World} {K:Frag} {mg:Str->Option Value} {base:Heap} {A:Around} {outer:List Env} {s:Shared} {H:Hp} (e:Env0 P w K mg base A outer s H) (C:Addr) (us:List Value) (kw:List (Str × Value)):
  Env0 P w K mg base (A.under (.builtin "type.__call__" ⟨.ref C::us,kw⟩)) outer s H:=⟨by first | exact e.frames | (simpa [Around.under,Code.envs,Code.isFrame,pushEnvs] using e.frames),e.mod,e.bs,e.bsz,e.funs,e.frf,e.hok,e.bare,e.tk⟩
section
variable {X:Cx} {pins:List (Addr × Obj)} {σ:St} {H:Hp} {s s':Shared}
theorem Inv.env0 (I:Inv X pins σ H s):Env0 X.prog X.w X.K X.mg X.base X.A X.stack s H:=
 ⟨I.ok.frames,I.ok.mod,I.bs,Nat.le_trans I.ok.bsz I.sz,I.stack,I.stkFree,I.hok,I.bare,I.tk⟩
theorem Inv.after {Q:VK} {u:Value} (I:Inv X pins σ H s) (h:CE X.stack X.prog X.w H s Q u s'):EP X pins σ Q u s':=by
 obtain ⟨v,H',ht,os,bare,un,hok,r,q⟩:=h;obtain ⟨hh,g,d,t,os'⟩:=s';obtain rfl:os'=s.os:=os;exact ⟨v,H',I.call (h':=hh) (g':=g) (d':=d) (t':=t) (ch:=[]) un hok bare (fun b z=>absurd z (by simp)) ht,r,q⟩
end
noncomputable def tCall (sp:Sp) (dvs:List V) (E:XK) (t:TA):TE:=fun σ H Q=>t σ H fun vs H1=>sp (vs++dvs) H1 Q E
noncomputable def tMeth (C:Addr) (m:Str) (sp:Sp) (dvs:List V) (E:XK) (ta:TE) (t:TA):TE:=fun σ H Q=>ta σ H fun x H1=>∃ a dx fs,x=.ref a/\H1 a=some (.ins C dx fs)/\fs.lookup m=none /\
 t σ H1 fun vs H2=>sp (x::(vs++dvs)) H2 Q E
noncomputable def tMake (C:Addr) (sp:Sp) (dvs:List V) (E:XK) (t:TA):TE:=fun σ H Q=>t σ H fun vs H1=>∀ x dx,H1 x=none->H1 dx=none->dx≠x ->
 sp (.ref x::(vs++dvs)) (upd (upd H1 dx (.own x)) x (.ins C dx [])) (fun v H2=>v=.non/\Q (.ref x) H2) E
def Binds (K:Frag) (fd:FuncData) (ps:List Str) (ds:List Value):Prop:=
 ∀ (s:Shared) (us:List Value),K.In s.heap->(us++ds).length=ps.length->BindsTo s fd ⟨us,[]⟩ (ps.zip (us++ds))
theorem Binds.all {K:Frag} {fd:FuncData} {ps:List Str} (h:∀ us:List Value,us.length=ps.length->bindArgs fd ⟨us,[]⟩=pure (ps.zip us)):Binds K fd ps []:=fun s us _ hl=>by
 rw [List.append_nil] at hl ⊢;exact .of_eq (h us hl)
def Passes (CX:CXT) (X:Cx) (E:XK):Prop:=∀ (pins:List (Addr × Obj)) (σ:St) (H:Hp) (s:Shared) (e:Value) (s':Shared),Inv X pins σ H s->CX X.stack H s E e s'->X.xe e s'
section
variable {X:Cx} {CX:CXT} {k:Nat} {f C:Addr} {fd:FuncData} {ps:List Str} {sp:Sp} {dvs:List V} {ds:List Value} {E:XK} {x m:Str} {p pos apos:Pos} {e o:Expr} {es:List Expr} {ta:TE} {t:TA}
theorem x8 {pins:List (Addr × Obj)} {σ:St} {H:Hp} {s:Shared} {Q:VK} {us:List Value} {vs:List V} (F:FnOk X.prog X.w X.K X.mg X.base CX k f fd ps sp) (hr:Room k X.A) (hb:Binds X.K fd ps ds) (hd:Vals dvs ds) (hx:Passes CX X E)
  (I:Inv X pins σ H s) (r:Vals vs us) (h:sp (vs++dvs) H Q E):wpAny (model X.prog X.w) X.A (call (.ref f) us) (EP X pins σ Q) X.xe s:=by
 have r2:Vals (vs++dvs) (us++ds):=r.append hd;have hl:(us++ds).length=ps.length:=by rw [<- r2.length]; exact F.len _ _ _ _ h
 refine wpAny_call (codeAny_mono (F.run X.A X.stack s H ⟨us,[]⟩ (us++ds) (vs++dvs) Q E hr I.env0 (hb s us I.kIn hl) r2 h) fun r s' hq=>?_);cases r with
 | error e=>exact hx pins σ H s e s' I hq
 | ok fl=>
  cases fl with
  | ret u=>exact I.after hq
  | next=>exact False.elim hq
  | brk=>exact False.elim hq
  | cont=>exact False.elim hq
theorem uq (F:FnOk X.prog X.w X.K X.mg X.base CX k f fd ps sp) (hr:Room k X.A) (hg:Gl X x) (hm:X.mg x=some (.ref f)) (hk:keepIn X.K (.ref f)=true) (hb:Binds X.K fd ps ds) (hd:Vals dvs ds) (hx:Passes CX X E)
  (ha:PA X (e::es) t) (hdb:(x == ("__debug__" : Str))=false:=by decide) (he:starEach (e::es) X.env=(false,eval e X.env)::starEach es X.env:=by rfl) (hpl:(backTo pos (starEach es X.env)).any (·.1)=false:=by rfl):
  PE X (.Call (.Name x p) (e::es) [] pos) (tCall sp dvs E t):=by
 intro pins s σ H Q I h;refine wpAny_Call_Name_kw (i5 I hg hm ?_ hdb);refine PySem.W.callWith_K (h₀:=X.base) I.ok.mod.kin hk (thn (ha pos pins s σ H _ I h) fun us s1 ⟨vs,H1,I1,r,q⟩=>⟨I1.kIn,?_⟩) he hpl;exact x8 F hr hb hd hx I1 r q
theorem yE {pl:Sem Bool} (he:PE X o ta) (c:Cls X.K C) (hm:Meth X.K C m f) (F:FnOk X.prog X.w X.K X.mg X.base CX k f fd ps sp) (hr:Room k X.A) (hb:Binds X.K fd ps ds) (hd:Vals dvs ds) (hx:Passes CX X E) (ha:PA X (e::es) t)
  (hst:starEach (e::es) X.env=(false,eval e X.env)::starEach es X.env:=by rfl) (hpl:(backTo pos (starEach es X.env)).any (·.1)=false:=by rfl)
  (ht:eval (.Call (.Attribute o m apos) (e::es) [] pos) X.env=(do
   let ov <- eval o X.env
   standAt apos.atName
   let (f,first) <- holding [ov] (getMethod ov m pl)
   callWith pos f first (backTo pos (starEach (e::es) X.env)) (backToKw pos (keywordEach [] X.env))):=by rfl):
  PE X (.Call (.Attribute o m apos) (e::es) [] pos) (tMeth C m sp dvs E ta t):=by
 intro pins s σ H Q I h;refine PySem.W.methodCall_KW (pl:=pl) (thn (he pins s σ H _ I h) fun u s1 ⟨x,H1,I1,rx,a,dx,fs,ex,ea,l,q⟩=>?_) ht;subst ex;obtain rfl:u=Value.ref a:=rx;refine sE I1 ea c hm l ?_;refine PySem.W.callWith_K (first:=[.ref a]) (h₀:=X.base) I.ok.mod.kin hm.kp (thn (ha pos pins s1 σ H1 _ I1 q) fun us s2 ⟨vs,H2,I2,r,q2⟩=>⟨I2.kIn,?_⟩) hst hpl;exact x8 (us:=.ref a::us) (vs:=.ref a::vs) F hr hb hd hx I2 (.cons rfl r) q2
structure Mk (K:Frag) (C f:Addr):Prop where
 makes:PySem.W.makesIn K C=true
 init:findIn K (.ref C) "__init__" = some (some (.ref f))
 fn:PySem.W.isFn K (.ref f)=true
 kp:keepIn K (.ref C)=true
theorem wj {pins:List (Addr × Obj)} {σ:St} {H:Hp} {s:Shared} {Q:VK} {us:List Value} {vs:List V} (M:Mk X.K C f) (F:FnOk X.prog X.w X.K X.mg X.base CX k f fd ps sp) (hr:Room (k+1) X.A) (hb:Binds X.K fd ps ds) (hd:Vals dvs ds)
  (hx:Passes CX X E) (I:Inv X pins σ H s) (r:Vals vs us)
  (h:∀ x dx,H x=none->H dx=none->dx≠x->sp (.ref x::(vs++dvs)) (upd (upd H dx (.own x)) x (.ins C dx [])) (fun v H2=>v=.non/\Q (.ref x) H2) E):
  wpAny (model X.prog X.w) X.A (call (.ref C) us) (EP X pins σ Q) X.xe s:=by
 have hq:=h (s.heap.objs.size+1) s.heap.objs.size (I.hok.fresh (Nat.le_succ _)) (I.hok.fresh (Nat.le_refl _)) (Nat.ne_of_lt (Nat.lt_succ_self _));have I2:=Inv.made (C:=C) I;have r2:Vals (V.ref (s.heap.objs.size+1)::(vs++dvs)) (Value.ref (s.heap.objs.size+1)::(us++ds)):=.cons rfl (r.append hd);have hl:(Value.ref (s.heap.objs.size+1)::us++ds).length=ps.length:=by
  have e:=r2.length;rw [F.len _ _ _ _ hq] at e;exact e.symm
 refine wpAny_call (xR (f:=f) I.kIn M.makes M.init (beq_iff_eq.mp M.fn) (codeAny_mono (F.run _ X.stack _ _ ⟨Value.ref (s.heap.objs.size+1)::us,[]⟩ (Value.ref (s.heap.objs.size+1)::(us++ds)) _ _ E (hr.make C us [])
  (I2.env0.make C us []) (hb _ (Value.ref (s.heap.objs.size+1)::us) I2.kIn hl) r2 hq) fun r s' hq'=>?_))
 cases r with
 | error e=>exact hx pins σ _ _ e s' I2 hq'
 | ok fl=>
  cases fl with
  | ret u=>
   obtain ⟨v,H',I3,rv,ev,q3⟩:=I2.after hq';subst ev;exact ⟨rv,⟨V.ref (s.heap.objs.size+1),H',I3,rfl,q3⟩⟩
  | next=>exact False.elim hq'
  | brk=>exact False.elim hq'
  | cont=>exact False.elim hq'
theorem ut (M:Mk X.K C f) (F:FnOk X.prog X.w X.K X.mg X.base CX k f fd ps sp) (hr:Room (k+1) X.A) (hg:Gl X x) (hm:X.mg x=some (.ref C)) (hb:Binds X.K fd ps ds) (hd:Vals dvs ds) (hx:Passes CX X E)
  (ha:PA X (e::es) t) (hdb:(x == ("__debug__" : Str))=false:=by decide) (he:starEach (e::es) X.env=(false,eval e X.env)::starEach es X.env:=by rfl) (hpl:(backTo pos (starEach es X.env)).any (·.1)=false:=by rfl):
  PE X (.Call (.Name x p) (e::es) [] pos) (tMake C sp dvs E t):=by
 intro pins s σ H Q I h;refine wpAny_Call_Name_kw (i5 I hg hm ?_ hdb);refine PySem.W.callWith_K (h₀:=X.base) I.ok.mod.kin M.kp (thn (ha pos pins s σ H _ I h) fun us s1 ⟨vs,H1,I1,r,q⟩=>⟨I1.kIn,?_⟩) he hpl;exact wj M F hr hb hd hx I1 r q
end
section
variable {X:Cx} {CX:CXT} {k:Nat} {f C:Addr} {fd:FuncData} {ps ks:List Str} {sp:Sp} {E:XK} {x m:Str} {p pos apos kpos:Pos} {e o:Expr} {es:List Expr} {kws:List Keyword} {te ta:TE} {t tk:TA} {nm:Option Str}
variable {g:List Value->List Value->List Value} {gV:List V->List V->List V}
end
structure FnScope (N P:List Str) (sc:Scope):Prop where
 kind:sc.kind=.function
 co:sc.isCoroutine=false
 gen:sc.isGenerator=false
 nd:N.Nodup
 pre:N.take P.length=P
 par:∀ x ∈ P,sc.names.lookup x=some .local\/sc.names.lookup x=some .cell
 nofree:∀ y ∈ sc.names,y.2≠.free
theorem pi {kindOf:Str->Option NameKind} {x:Str}:∀ {binds:List (Str × Value)} {m:Str->Option Value},(∀ v,(x,v) ∉ binds)->bindL kindOf binds m x=m x
 | [],_,_=>rfl
 | (n,v)::r,m,h=>by
  unfold bindL;rw [pi fun w hw=>h w (List.mem_cons_of_mem _ hw)];split
  ·have:x≠n:=by rintro rfl; exact h v List.mem_cons_self
   simp [this]
  ·rfl
theorem pN {kindOf:Str->Option NameKind} {x:Str}:∀ {binds:List (Str × Value)} {m:Str->Option Value},(∀ v,(x,v) ∉ binds)->bindC kindOf binds m x=m x
 | [],_,_=>rfl
 | (n,v)::r,m,h=>by
  unfold bindC;rw [pN fun w hw=>h w (List.mem_cons_of_mem _ hw)];split
  ·rfl
  ·have:x≠n:=by rintro rfl; exact h v List.mem_cons_self
   simp [this]
theorem oT {kindOf:Str->Option NameKind} {x:Str} {v:Value}:∀ {P:List Str} {vs:List Value} {i:Nat} {m:Str->Option Value},P.Nodup->P[i]? = some x->vs[i]? = some v->kindOf x=some .local ->
  bindL kindOf (P.zip vs) m x=some v
 | [],_,_,_,_,h,_,_=>by simp at h
 | _::_,[],_,_,_,_,h,_=>by simp at h
 | p::P,w::vs,0,m,nd,h1,h2,hk=>by
  simp at h1 h2; subst h1; subst h2;show bindL kindOf ((p,w)::P.zip vs) m p=_;unfold bindL;rw [pi fun v hv=>(List.nodup_cons.mp nd).1 (List.of_mem_zip hv).1,if_pos hk];simp
 | p::P,w::vs,i+1,m,nd,h1,h2,hk=>by
  show bindL kindOf ((p,w)::P.zip vs) m x=_;unfold bindL;exact oT (i:=i) (List.nodup_cons.mp nd).2 (by simpa using h1) (by simpa using h2) hk
theorem pL {kindOf:Str->Option NameKind} {x:Str} {v:Value}:∀ {P:List Str} {vs:List Value} {i:Nat} {m:Str->Option Value},P.Nodup->P[i]? = some x->vs[i]? = some v->kindOf x≠some .local ->
  bindC kindOf (P.zip vs) m x=some v
 | [],_,_,_,_,h,_,_=>by simp at h
 | _::_,[],_,_,_,_,h,_=>by simp at h
 | p::P,w::vs,0,m,nd,h1,h2,hk=>by
  simp at h1 h2; subst h1; subst h2;show bindC kindOf ((p,w)::P.zip vs) m p=_;unfold bindC;rw [pN fun v hv=>(List.nodup_cons.mp nd).1 (List.of_mem_zip hv).1,if_neg hk];simp
 | p::P,w::vs,i+1,m,nd,h1,h2,hk=>by
  show bindC kindOf ((p,w)::P.zip vs) m x=_;unfold bindC;exact pL (i:=i) (List.nodup_cons.mp nd).2 (by simpa using h1) (by simpa using h2) hk
noncomputable def start (N:List Str) (vs:List V):St:=vs.map some++List.replicate (N.length - vs.length) none
noncomputable def cxOf (CX:CXT) (P:Program) (w:World) (K:Frag) (mg:Str->Option Value) (base:Heap) (N:List Str) (qual:Str) (scope:Scope) (f:Addr) (cd:Value) (A:Around) (outer:List Env) (s:Shared) (H:Hp) (E:XK):Cx where
 prog:=P
 w:=w
 K:=K
 mg:=mg
 base:=base
 A:=A.deeper (envOfC qual scope s.heap.objs.size f cd)
 N:=N
 s₀:=s
 H₀:=H
 env:=envOfC qual scope s.heap.objs.size f cd
 outer:=outer
 stack:=envOfC qual scope s.heap.objs.size f cd::outer
 ex:=[]
 calm:=true
 fn:=fun _=>true
 pn:=[]
 xe:=fun e s'=>wpAny (model P w) (A.deeper (envOfC qual scope s.heap.objs.size f cd)) (leaving (envOfC qual scope s.heap.objs.size f cd) e) (fun _ s''=>CX outer H s E e s'') (fun e' s''=>CX outer H s E e' s'') s'
theorem rf {sc:Scope} {n:Nat} {x:Str} (h:sc.names.lookup x=some .cell):∃ c,(cellsFrom n sc.names []).lookup x=some c:=by
 have q:=PySem.W.cellsFrom_some sc.names n [] (.inl h);exact Option.isSome_iff_exists.mp q
theorem vv {CX:CXT} {P:Program} {w:World} {K:Frag} {mg:Str->Option Value} {base:Heap} {N ps:List Str} {qual:Str} {scope:Scope} {f:Addr} {cd:Value} {A:Around} {outer:List Env} {s s1:Shared} {H:Hp} {E:XK} {us:List Value} {vs:List V}
  (S:FnScope N ps scope) (hd:A.handled=none) (e0:Env0 P w K mg base A outer s H) (hl:vs.length=ps.length) (r:Vals vs us)
  (x:InCallC s s.heap.objs.size (bindL (envOfC qual scope s.heap.objs.size f cd).kindOf (ps.zip us) fun _=>none) (cellsFrom (s.heap.objs.size+1) scope.names []) (bindC (envOfC qual scope s.heap.objs.size f cd).kindOf (ps.zip us) fun _=>none) s1) (htk:0 < s1.toks):
  Inv (cxOf CX P w K mg base N qual scope f cd A outer s H E) [] (start N vs) H s1:=by
 have hpl:ps.length<=N.length:=by have:=congrArg List.length S.pre; rw [List.length_take] at this; lia
 obtain ⟨h1,tk,rfl,hk⟩:=x.done;have noA:∀ b:Addr,b ∉ (cxOf CX P w K mg base N qual scope f cd A outer s H E).ex:=fun b z=>absurd (show b ∈ ([]:List Addr) from z) (by simp)
 refine ⟨⟨e0.mod,S.kind,rfl,rfl,Nat.le_refl _,fun y z c h1 h2=>?_,fun y hy=>?_,fun y c _ h=>?_,fun _=>hd,Around.frames_deeper e0.frames,.inr ⟨rfl,rfl⟩,fun b z=>absurd z (noA b),e0.bs,e0.bsz,fun b _ _=>noA b,fun b z=>absurd z (noA b),e0.funs,e0.frf⟩,
  rfl,e0.bare,Un.kept hk,⟨_,x.toInCall.ns,fun i y v h1 h2 h3=>?_⟩,fun y c h=>⟨_,x.cell y c h⟩,e0.hok.fresh (Nat.le_refl _),fun y c h=>?_,fun p hp=>absurd (show p ∈ ([]:List (Addr × Obj)) from hp) (by simp),e0.hok.kept hk,?_,htk⟩
 ·exact name_of_addr x.apart (PySem.mem_of_lookup h1) (PySem.mem_of_lookup h2)
 ·have hy:scope.names.lookup y=some .cell\/scope.names.lookup y=some .free:=hy;rcases hy with hy | hy
  ·exact rf hy
  ·exact absurd rfl (S.nofree _ (PySem.mem_of_lookup hy))
 ·exact Nat.le_of_lt (x.above y c (PySem.mem_of_lookup h))
 ·have hi:i < vs.length:=by
   unfold start at h2;by_cases hi:i < vs.length
   ·exact hi
   ·rw [List.getElem?_append_right (by simpa using hi)] at h2;rw [List.getElem?_replicate] at h2;split at h2 <;> cases h2
  have ha:vs[i]? = some v:=by
   unfold start at h2;rw [List.getElem?_append_left (by simpa using hi),List.getElem?_map] at h2;cases e:vs[i]? with
   | none=>rw [e] at h2; cases h2
   | some a=>rw [e] at h2; cases h2; rfl
  obtain ⟨u,hu,rv⟩:=r.get ha;have hp:ps[i]? = some y:=by
   rw [<- S.pre,List.getElem?_take_of_lt (by lia)]; exact h1
  have ndP:ps.Nodup:=by rw [<- S.pre]; exact S.nd.sublist (List.take_sublist _ _)
  refine ⟨u,rv,?_⟩;rcases S.par y (List.mem_of_getElem? hp) with k | k
  ·exact .inl ⟨k,oT ndP hp hu k⟩
  ·obtain ⟨c,e⟩:=rf (n:=s.heap.objs.size+1) k;refine .inr ⟨.inl k,c,e,?_⟩;have q:=x.cell y c e;rw [pL ndP hp hu (by show scope.names.lookup y≠_; rw [k]; decide)] at q;exact q
 ·exact e0.hok.fresh (Nat.le_of_lt (x.above y c (PySem.mem_of_lookup h)))
 ·unfold start;show _=N.length;rw [List.length_append,List.length_map,List.length_replicate]
  lia
theorem qT {CX:CXT} {P:Program} {w:World} {K:Frag} {mg:Str->Option Value} {base:Heap} {k:Nat} {f:Addr} {name qual:Str} {params:Arguments} {body:List Stmt} {scope:Scope} {dV kV doc pm cdv ct oc:Value} {an od:Option Addr}
  {osl:Array (Option Value)} {N ps:List Str} {sp:Sp} (lk:K.lookup f=some ⟨oc,od,.func (fnOf name qual params body scope dV kV doc pm an cdv ct),osl⟩) (hcd:codeIn K cdv qual=true) (S:FnScope N ps scope)
  (len:∀ vs H Q E,sp vs H Q E->vs.length=ps.length)
  (hbody:∀ (A:Around) (outer:List Env) (s:Shared) (H:Hp) (vs:List V) (Q:VK) (E:XK),Room k (A.deeper (envOfC qual scope s.heap.objs.size f cdv))->sp vs H Q E ->
   ∃ t,PSs (cxOf CX P w K mg base N qual scope f cdv A outer s H E) body t/\t { nx:=fun _ H'=>Q .non H',rt:=Q } (start N vs) H):
  FnOk P w K mg base CX (k+1) f (fnOf name qual params body scope dV kV doc pm an cdv ct) ps sp:=by
 refine ⟨len,fun A outer s H args us vs Q E hr e0 hb r hsp=>?_⟩;have hl:=len _ _ _ _ hsp;have KX:K.In s.heap:=e0.mod.kin.keeps fun b o e=>(e0.bs b o e).1
 have lim:s.heap.NoLimit:=e0.mod.nolimit.keeps fun b o e=>(e0.bs b o e).1
 have hkind:∀ y ∈ ps.zip us,scope.names.lookup y.1=some .local\/(scope.names.lookup y.1=some .cell/\((cellsFrom (s.heap.objs.size+1) scope.names []).lookup y.1).isSome=true):=fun ⟨n,v⟩ hy=>by
  rcases S.par n (List.of_mem_zip hy).1 with q | q
  ·exact .inl q
  ·exact .inr ⟨q,PySem.W.cellsFrom_some _ _ _ (.inl q)⟩
 refine codeAny_call_function hr.depth (KX _ _ lk) rfl S.co S.gen rfl (PySem.W.codeRec_of KX hcd) (hb _ _ _ _ ?_);refine tokQ e0.tk (wpAny_newFunctionEnv_cells S.kind hkind fun env he s1 x htk=>?_);subst he;refine ⟨lim.keeps x.toInCall.keep,codeAny_func ?_⟩;obtain ⟨t,ht,hq⟩:=hbody A outer s H vs Q E (hr.deeper _) hsp;have I:Inv (cxOf CX P w K mg base N qual scope f cdv A outer s H E) [] (start N vs) H s1:=vv S hr.hd e0 hl r x htk;refine wpAny_mono (ht [] s1 (start N vs) H _ I hq) (fun fl s' hs=>?_) fun e s' hs=>hs
 have fin:∀ {σ':St} {H':Hp} {v:V} {u:Value},Inv (cxOf CX P w K mg base N qual scope f cdv A outer s H E) [] σ' H' s'->RelV v u->Q v H'->CE outer P w H s Q u s':=
  fun {σ' H' v u} J rv q=>⟨v,H',J.tk,J.os,J.bare,J.base,J.hok,rv,q⟩
 cases fl with
 | ret u=>
  obtain ⟨v,σ',H',J,rv,q⟩:=hs;exact fin J rv q
 | next=>
  obtain ⟨σ',H',J,q⟩:=hs;exact fin (v:=V.non) (u:=Value.none) J rfl q
 | brk=>
  obtain ⟨_,_,_,q⟩:=hs;exact False.elim q
 | cont=>
  obtain ⟨_,_,_,q⟩:=hs;exact False.elim q
section
variable {X:Cx} {x:Str} {p pos:Pos} {e:Expr} {es:List Expr} {t:TA} {id T:String} {r:List V->Hp->VK->Prop}
noncomputable def tCB (r:List V->Hp->VK->Prop) (t:TA):TE:=fun σ H Q=>t σ H fun vs H1=>r vs H1 Q
theorem aB (hc:CallR X (.builtin id) r) (hg:Gl X x) (hm:X.mg x=none) (hv:bootBuiltins x=some (.builtin id)) (ha:PA X (e::es) t) (hn:x ≠ "__name__" := by decide) (hdb:(x == ("__debug__" : Str))=false:=by decide)
  (he:starEach (e::es) X.env=(false,eval e X.env)::starEach es X.env:=by rfl) (hpl:(backTo pos (starEach es X.env)).any (·.1)=false:=by rfl):PE X (.Call (.Name x p) (e::es) [] pos) (tCB r t):=by
 intro pins s σ H Q I h;refine wpAny_Call_Name_kw (gW I hg hm hv ?_ hn hdb);exact PyProof.Rows.callWith_builtin1 (thn (ha pos pins s σ H _ I h) fun us s1 ⟨vs,H1,I1,r1,q1⟩=>hc pins s1 σ H1 vs us Q I1 r1 q1) he hpl
theorem i4 (hc:CallR X (.type T) r) (hg:Gl X x) (hm:X.mg x=none) (hv:bootBuiltins x=some (.type T)) (ha:PA X (e::es) t) (hn:x ≠ "__name__" := by decide) (hdb:(x == ("__debug__" : Str))=false:=by decide)
  (he:starEach (e::es) X.env=(false,eval e X.env)::starEach es X.env:=by rfl) (hpl:(backTo pos (starEach es X.env)).any (·.1)=false:=by rfl):PE X (.Call (.Name x p) (e::es) [] pos) (tCB r t):=by
 intro pins s σ H Q I h;refine wpAny_Call_Name_kw (gW I hg hm hv ?_ hn hdb);exact PyProof.Rows.callWith_type1 (thn (ha pos pins s σ H _ I h) fun us s1 ⟨vs,H1,I1,r1,q1⟩=>hc pins s1 σ H1 vs us Q I1 r1 q1) he hpl
end
end L2
namespace HT
open PySem PyProof.Rows
section
open PySem.SeqAt
open PySem.AutoSeq1 (wpAny_loadPart')
open PySem.MeetsSeq PySem.MeetsSeq2 PySem.MeetsSeq3
end
section
variable {prog:Program} {w:World} {A:Around} {E:Value->Shared->Prop} {s:Shared}
theorem cat_tup {t b:Addr} {vs ws:List Value} {Q:Value->Shared->Prop} (ht:IsTup s.heap t vs.toArray) (hb:IsTup s.heap b ws.toArray) (hv:vs≠[])
  (h1:ws=[]->Q (.ref t) s) (h2:ws≠[]->Q (.ref s.heap.objs.size) { s with heap:=s.heap.push { cls:=.type "tuple",data:=.seq (vs++ws).toArray } })
  (hsz:vs.length+ws.length<=sizeLine):wpAny (model prog w) A (binaryOp .Add (.ref t) (.ref b)) Q E s:=by
 obtain ⟨⟨cls,dd,data,sl⟩,ho,hc,n,hd⟩:=id ht;obtain ⟨⟨cls2,dd2,data2,sl2⟩,ho2,hc2,n2,hd2⟩:=id hb;simp only at hc hd hc2 hd2;subst hc hd hc2 hd2;have e:vs.toArray++ws.toArray=(vs++ws).toArray:=by simp
 by_cases hw:ws=[]
 ·exact concat_meets ⟨_,ho,rfl⟩ ⟨_,ho2,rfl⟩ noFill_tuple_add seq_tuple_add PySem.F.slot_tuple_add PySem.F.entry_tuple_add (PySem.F.args_tuple_add_2 _ _)
   (tuple_addW1 t b vs.toArray ws.toArray n n2 dd dd2 sl sl2 (by simpa using hv) (by simp [hw])) ⟨ho,ho2,h1 hw⟩
 ·refine concat_meets ⟨_,ho,rfl⟩ ⟨_,ho2,rfl⟩ noFill_tuple_add seq_tuple_add PySem.F.slot_tuple_add PySem.F.entry_tuple_add (PySem.F.args_tuple_add_2 _ _)
   (tuple_addW2 t b vs.toArray ws.toArray n n2 dd dd2 sl sl2 (by simpa using hv) (by simpa using hw) (by rw [List.size_toArray,List.size_toArray]; exact hsz)) ⟨ho,ho2,?_⟩
  rw [e];exact h2 hw
noncomputable def sIx (n d:Nat):Option Int->Nat
 | none=>d
 | some v=>if v < 0 then (v+(n:Int)).toNat else min v.toNat n
theorem sIx_nat (n d k:Nat):sIx n d (some (k:Int))=min k n:=by
 show (if (k:Int) < 0 then ((k:Int)+(n:Int)).toNat else min (k:Int).toNat n)=min k n;rw [if_neg (by lia),Int.toNat_natCast]
end
end HT
namespace L2
open PySem PySem.Spec PyProof.Rows
noncomputable abbrev TO:=St->Hp->(Option Int->Hp->Prop)->Prop
def PO (X:Cx) (e:Option Expr) (t:TO):Prop:=
 ∀ (pins:List (Addr × Obj)) (s:Shared) (σ:St) (H:Hp) (Q:Option Int->Hp->Prop),Inv X pins σ H s->t σ H Q ->
  wpAny (model X.prog X.w) X.A (evalPart e X.env) (fun u s'=>∃ o H',Inv X pins σ H' s'/\IsPart u o/\Q o H') X.xe s
noncomputable def tNoPart:TO:=fun _ H Q=>Q none H
noncomputable def tPart (t:TE):TO:=fun σ H Q=>t σ H fun x H1=>∃ i,x=.int i/\Q (some i) H1
theorem tY {ns:List Int}:∀ {us:List Value},Vals (ns.map V.int) us->IntsAre us ns:=by
 induction ns with
 | nil=>intro us r; rw [List.map_nil] at r; cases r; exact .nil
 | cons n ns ih=>
  intro us r;rw [List.map_cons] at r;cases r with
  | cons r1 r2=>
   obtain ⟨t,e⟩:=r1;subst e;exact .cons n t (ih r2)
section
variable {X:Cx} {e:Expr} {te:TE} {lo hi:Option Expr} {tl th:TO} {pos p2:Pos}
theorem bG:PO X none tNoPart:=by
 intro pins s σ H Q I h;rw [evalPart_none];exact wpAny_pure ⟨none,H,I,.none,h⟩
theorem zp (h:PE X e te):PO X (some e) (tPart te):=by
 intro pins s σ H Q I hw;rw [evalPart_some];refine thn (h pins s σ H _ I hw) fun u s1 ⟨x,H1,I1,r1,q1⟩=>?_
 obtain ⟨i,rfl,q⟩:=q1;obtain ⟨t,rfl⟩:=r1;exact ⟨some i,H1,I1,.int i t,q⟩
def SlR (X:Cx) (r:V->Option Int->Option Int->Hp->VK->Prop):Prop:=
 ∀ (pins:List (Addr × Obj)) (s:Shared) (σ:St) (H:Hp) (x:V) (v vl vu:Value) (lo hi:Option Int) (sl:Addr) (Q:VK),Inv X pins σ H s->RelV x v->s.heap.IsSliceOf sl vl vu .none->IsPart vl lo->IsPart vu hi->r x lo hi H Q ->
  ∃ T id,typeLookup (.type T) "__getitem__" = pure (some (.builtin id))/\s.TypeIs v T/\wpAny (model X.prog X.w) X.A (getItem v (.ref sl)) (EP X pins σ Q) X.xe s
theorem SlR.or {r r':V->Option Int->Option Int->Hp->VK->Prop} (h:SlR X r) (h':SlR X r'):SlR X (fun x lo hi H Q=>r x lo hi H Q\/r' x lo hi H Q):=by
 intro pins s σ H x v vl vu lo hi sl Q I rx hs pl pu q;rcases q with q | q
 ·exact h pins s σ H x v vl vu lo hi sl Q I rx hs pl pu q
 ·exact h' pins s σ H x v vl vu lo hi sl Q I rx hs pl pu q
noncomputable def tSl (r:V->Option Int->Option Int->Hp->VK->Prop) (te:TE) (tl th:TO):TE:=fun σ H Q=>te σ H fun x H1=>tl σ H1 fun l H2=>th σ H2 fun u H3=>r x l u H3 Q
theorem aZ {r:V->Option Int->Option Int->Hp->VK->Prop} (hr:SlR X r) (he:PE X e te) (hl:PO X lo tl) (hu:PO X hi th):PE X (.Subscript e (.Slice lo hi none p2) pos) (tSl r te tl th):=by
 intro pins s σ H Q I h;refine Subscript_ (thn (he pins s σ H _ I h) fun v s1 ⟨x,H1,I1,r1,q1⟩=>?_);refine wpAny_Slice (thn (hl pins s1 σ H1 _ I1 q1) fun vl s2 ⟨l,H2,I2,pl,q2⟩=>thn (hu pins s2 σ H2 _ I2 q2) fun vu s3 ⟨u,H3,I3,pu,q3⟩=>?_);rw [evalPart_none];refine wpAny_pure ?_;have I4:Inv X pins σ H3 { s3 with heap:=s3.heap.push { cls:=.type "slice",data:=.fields #[vl,vu,.none] } }:=I3.kept (t':=s3.toks) fun b ob q=>Heap.get?_push_of_some _ q
 obtain ⟨T,id,hT,ht,hg⟩:=hr pins { s3 with heap:=s3.heap.push { cls:=.type "slice",data:=.fields #[vl,vu,.none] } } σ H3 x v vl vu l u s3.heap.objs.size Q I4 r1 (Heap.IsSliceOf.new ..) pl pu q3;show wpAny (model X.prog X.w) X.A (subscriptTail e (.Slice lo hi none p2) v (.ref s3.heap.objs.size)) (EP X pins σ Q) X.xe { s3 with heap:=s3.heap.push { cls:=.type "slice",data:=.fields #[vl,vu,.none] } };exact tail_any (ops:=[.ref s3.heap.objs.size,v]) ht hT hg (by with_unfolding_all rfl)
noncomputable def cutV (xs:List V) (lo hi:Option Int):List V:=(xs.drop (HT.sIx xs.length 0 lo)).take (HT.sIx xs.length xs.length hi - HT.sIx xs.length 0 lo)
theorem qY (xs:List V) (lo hi:Option Int):(cutV xs lo hi).length<=xs.length:=by
 unfold cutV;rw [List.length_take,List.length_drop]
 lia
noncomputable def rCatT (K:Frag):R2:=fun x y H Q=>∃ a b xs ys,x=.ref a/\y=.ref b/\SqT K H a xs/\SqT K H b ys/\xs≠[]/\xs.length+ys.length<=sizeLine /\
 (ys=[]->Q (.ref a) H)/\(ys≠[]->∀ p,H p=none->Q (.ref p) (upd H p (.tup (xs++ys))))
theorem Vals.nil_iff {xs:List V} {us:List Value} (r:Vals xs us):us=[] ↔ xs=[]:=by
 cases r with
 | nil=>simp
 | cons _ _=>simp
theorem yO:OpR X (binaryOp .Add) (rCatT X.K):=by
 intro pins s σ H x y v u Q I rx ry h;obtain ⟨a,b,xs,ys,rfl,rfl,ha,hb,hx,hz,q1,q2⟩:=h;cases rx;cases ry;obtain ⟨its,r1,p1,_⟩:=I.tuple ha;obtain ⟨its2,r2,p2,_⟩:=I.tuple hb;refine HT.cat_tup p1 p2 (fun z=>hx (r1.nil_iff.mp z)) (fun z=>⟨.ref a,H,I,rfl,q1 (r2.nil_iff.mp z)⟩) (fun z=>?_) (by rw [<- r1.length,<- r2.length]; exact hz);refine ⟨.ref s.heap.objs.size,_,I.laid (t':=s.toks) (o:=.tup (xs++ys)) (fun b ob q=>Heap.get?_push_of_some _ q) (Nat.le_refl _) ?_,rfl,q2 (fun w=>z (r2.nil_iff.mpr w)) _ (I.hok.fresh (Nat.le_refl _))⟩;exact ⟨by rw [List.length_append]; exact hz,_,r1.append r2,IsTup.new _ _⟩
end
noncomputable def ixN (n:Nat) (i:Int):Option Nat:=if 0<=i then (if i < n then some i.toNat else none) else if -(n:Int)<=i then some (i+n).toNat else none
noncomputable def atI {α:Type} (xs:List α) (i:Int):Option α:=(ixN xs.length i).bind fun j=>xs[j]?
theorem yH {n:Nat} {i:Int} {j:Nat} (h:ixN n i=some j):seqIndex? i n=some j/\j < n /\ -(n:Int)<=i/\i < n:=by
 unfold ixN at h;by_cases h0:0<=i
 ·rw [if_pos h0] at h;by_cases h1:i < n
  ·rw [if_pos h1] at h;have e:i.toNat=j:=Option.some.inj h;exact ⟨by rw [seqIndex_of h0 h1,e],by lia,by lia,h1⟩
  ·rw [if_neg h1] at h; cases h
 ·rw [if_neg h0] at h;by_cases h1:-(n:Int)<=i
  ·rw [if_pos h1] at h;have e:(i+n).toNat=j:=Option.some.inj h;exact ⟨by rw [seqIndex_neg (by lia) h1,e],by lia,h1,by lia⟩
  ·rw [if_neg h1] at h; cases h
theorem qg {α:Type} {xs:List α} {i:Int} {v:α} (h:atI xs i=some v):∃ j,seqIndex? i xs.length=some j/\xs[j]? = some v/\j < xs.length /\ -(xs.length:Int)<=i/\i < xs.length:=by
 unfold atI at h;cases e:ixN xs.length i with
 | none=>rw [e] at h; cases h
 | some j=>
  rw [e] at h;obtain ⟨h1,h2,h3,h4⟩:=yH e;exact ⟨j,h1,h,h2,h3,h4⟩
theorem cw {α:Type} {xs:List α} {j:Nat} {v:α} (h:xs[j]? = some v):atI xs (j:Int)=some v:=by
 have hj:j < xs.length:=(List.getElem?_eq_some_iff.mp h).1;have e:ixN xs.length (j:Int)=some j:=by
  unfold ixN;rw [if_pos (by lia),if_pos (by lia)]; simp
 unfold atI; rw [e]; exact h
theorem wt {α:Type} (xs:List α) (v:α):atI (xs++[v]) (-1)=some v:=by
 have hl:(xs++[v]).length=xs.length+1:=by simp
 have e:ixN (xs++[v]).length (-1)=some xs.length:=by
  unfold ixN;rw [hl,if_neg (by decide),if_pos (by lia)];congr 1
  lia
 unfold atI;rw [e];show (xs++[v])[xs.length]? = some v;simp
def PlainIx (b:Expr):Prop:=∀ o i,subscripted b false o i=operate [o,i] (getItem o i)
def IxR (X:Cx) (r:R2):Prop:=
 ∀ (value slice:Expr) (pins:List (Addr × Obj)) (s:Shared) (σ:St) (H:Hp) (x y:V) (v u:Value) (Q:VK),Inv X pins σ H s->RelV x v->RelV y u->r x y H Q ->
  subscripted slice false v u=operate [v,u] (getItem v u)->wpAny (model X.prog X.w) X.A (subscriptTail value slice v u) (EP X pins σ Q) X.xe s
def MtR (X:Cx) (id:String) (r:V->List V->Hp->VK->Prop):Prop:=
 ∀ (pins:List (Addr × Obj)) (s:Shared) (σ:St) (H:Hp) (x:V) (xs:List V) (v:Value) (us:List Value) (Q:VK),Inv X pins σ H s->RelV x v->Vals xs us->r x xs H Q ->
  wpAny (model X.prog X.w) X.A (call (.builtin id) (v::us)) (EP X pins σ Q) X.xe s
section
variable {X:Cx} {a b:Expr} {ta tb:TE} {pos:Pos}
theorem IxR.or {r r':R2} (h:IxR X r) (h':IxR X r'):IxR X (fun x y H Q=>r x y H Q\/r' x y H Q):=by
 intro value slice pins s σ H x y v u Q I rx ry q hs;rcases q with q | q
 ·exact h value slice pins s σ H x y v u Q I rx ry q hs
 ·exact h' value slice pins s σ H x y v u Q I rx ry q hs
theorem aq {r:R2} (hr:IxR X r) (ha:PE X a ta) (hb:PE X b tb) (hs:PlainIx b):PE X (.Subscript a b pos) (tOp r ta tb):=by
 intro pins s σ H Q I h;exact Subscript_ (binT ha hb I h fun v u s2 x y H2 I2 rx ry q=>hr a b pins s2 σ H2 x y v u Q I2 rx ry q (hs _ _))
noncomputable def rIxL (K:Frag):R2:=fun x y H Q=>∃ p xs i v,x=.ref p/\y=.int i/\SqL K H p xs/\atI xs i=some v/\Q v H
noncomputable def rIxT (K:Frag):R2:=fun x y H Q=>∃ p xs i v,x=.ref p/\y=.int i/\SqT K H p xs/\atI xs i=some v/\Q v H
noncomputable def rIxS:R2:=fun x y H Q=>∃ z i c,x=.str z/\y=.int i/\z.length<=sizeLine/\atI z.cps.toList i=some c/\Q (.str ⟨#[c]⟩) H
theorem yV:IxR X (rIxL X.K):=by
 intro value slice pins s σ H x y v u Q I rx ry h hs;obtain ⟨p,xs,i,z,rfl,rfl,hq,he,q⟩:=h;cases rx;obtain ⟨t,rfl⟩:=ry;obtain ⟨its,r,pl,hz⟩:=I.list hq;obtain ⟨j,h1,h2,h3,h4,h5⟩:=qg he;obtain ⟨w,ew,rw'⟩:=r.get h2;have hl:=r.length;have hn:=line63;have fin:EP X pins σ Q w s:=⟨z,H,I,rw',q⟩;by_cases h0:0<=i
 ·have hj:i.toNat=j:=by
   rw [seqIndex_of h0 h5] at h1;exact Option.some.inj h1
  exact item_listR pl.isList h0 (by lia) (by rw [hj]; simpa using ew) fin hs
 ·have hj:(i+(its.toArray.size:Int)).toNat=j:=by
   rw [seqIndex_neg (by lia) h4] at h1;rw [List.size_toArray,<- hl];exact Option.some.inj h1
  exact subscriptTail_builtinR (x:=w) pl.isList.typeIs slot_list_getitem.lookup
   (wpAny_getItem_list_neg (Q:=fun r s'=>r=w/\EP X pins σ Q r s') pl.isList (by lia) (by rw [List.size_toArray] <;> lia) (by lia) (by rw [hj]; simpa using ew) ⟨rfl,fin⟩) hs
theorem A1:IxR X (rIxT X.K):=by
 intro value slice pins s σ H x y v u Q I rx ry h hs;obtain ⟨p,xs,i,z,rfl,rfl,hq,he,q⟩:=h;cases rx;obtain ⟨t,rfl⟩:=ry;obtain ⟨its,r,pl,hz⟩:=I.tuple hq;obtain ⟨j,h1,h2,h3,h4,h5⟩:=qg he;obtain ⟨w,ew,rw'⟩:=r.get h2;have hl:=r.length;have hn:=line63;have fin:EP X pins σ Q w s:=⟨z,H,I,rw',q⟩;exact subscriptTail_builtinR (x:=w) pl.typeIs slot_tuple_getitem.lookup
  (getItem_tuple (j:=j) (Q:=fun r s'=>r=w/\EP X pins σ Q r s') pl (by lia) (by lia) (by rw [List.size_toArray,<- hl]; exact h1) (by simpa using ew) ⟨rfl,fin⟩) hs
theorem AV:IxR X rIxS:=by
 intro value slice pins s σ H x y v u Q I rx ry h hs;obtain ⟨z,i,c,rfl,rfl,hz,he,q⟩:=h;obtain ⟨t,rfl⟩:=rx;obtain ⟨t',rfl⟩:=ry;obtain ⟨j,h1,h2,h3,h4,h5⟩:=qg he;have hl:z.cps.toList.length=z.length:=by simp [Str.length]
 rw [hl] at h1 h4 h5;have hn:=line63;exact tail_any (typeIs_str s z t) slot_str_getitem.lookup (getItem_str (c:=c) (by
  have e1:decide (i < -(2 ^ 63:Int))=false:=decide_eq_false (by lia);have e2:decide (i >= 2 ^ 63)=false:=decide_eq_false (by lia);rw [e1,e2,Bool.or_false]) (by rw [h1]; simpa using h2) ⟨.str ⟨#[c]⟩,H,I.tok _,⟨_,rfl⟩,q⟩) hs
noncomputable def rIx (K:Frag):R2:=fun x y H Q=>rIxL K x y H Q\/rIxT K x y H Q\/rIxS x y H Q
theorem Bj:IxR X (rIx X.K):=yV.or (A1.or AV)
theorem qx (lo hi:Option Int) (n:Nat):(sliceBounds lo hi none n).1=((HT.sIx n 0 lo:Nat):Int)/\(sliceBounds lo hi none n).2.1=((HT.sIx n n hi:Nat):Int)/\(sliceBounds lo hi none n).2.2=1:=by
 refine ⟨?_,?_,rfl⟩
 ·cases lo with
  | none=>simp [sliceBounds,HT.sIx]
  | some i=>
   simp only [sliceBounds,HT.sIx,Option.getD_none,show (1:Int) > 0 by decide,if_true];by_cases h:i < 0
   ·simp only [h,if_true] <;> lia
   ·simp only [h,if_false] <;> lia
 ·cases hi with
  | none=>simp [sliceBounds,HT.sIx]
  | some i=>
   simp only [sliceBounds,HT.sIx,Option.getD_none,show (1:Int) > 0 by decide,if_true];by_cases h:i < 0
   ·simp only [h,if_true] <;> lia
   ·simp only [h,if_false] <;> lia
theorem oj (its:List Value) (lo hi:Option Int):slicePick its.toArray lo hi none=((its.drop (HT.sIx its.length 0 lo)).take (HT.sIx its.length its.length hi - HT.sIx its.length 0 lo)).toArray:=by
 obtain ⟨h1,h2,h3⟩:=qx lo hi its.toArray.size;unfold slicePick;rw [h1,h2,h3];simp only [sliceRange_one,pick_run,List.size_toArray] <;> rfl
noncomputable def rSlL (K:Frag):V->Option Int->Option Int->Hp->VK->Prop:=fun x lo hi H Q=>∃ a xs,x=.ref a/\SqL K H a xs/\∀ p,H p=none->Q (.ref p) (upd H p (.lst (cutV xs lo hi)))
theorem yt:SlR X (rSlL X.K):=by
 intro pins s σ H x v vl vu lo hi sl Q I rx hs pl pu h;obtain ⟨a,xs,rfl,hx,q⟩:=h;cases rx;obtain ⟨its,r,ht,hz⟩:=I.list hx;have hlen:=r.length;refine ⟨"list",_,slot_list_getitem.lookup,ht.isList.typeIs,?_⟩;refine wpAny_getItem_list_slice ht.isList hs pl pu .none (by simp) ?_ (by rw [List.size_toArray] <;> lia);rw [oj,<- hlen];refine ⟨.ref s.heap.objs.size,_,I.laid (t':=s.toks) (o:=.lst (cutV xs lo hi)) (fun b ob q=>Heap.get?_push_of_some _ q) (Nat.le_refl _) ?_,rfl,q _ (I.hok.fresh (Nat.le_refl _))⟩;exact ⟨Nat.le_trans (qY xs lo hi) hz,_,0,(r.drop (HT.sIx xs.length 0 lo)).take (HT.sIx xs.length xs.length hi - HT.sIx xs.length 0 lo),Heap.get?_push_size _ rfl⟩
noncomputable def flatV:V->Bool
 | .non=>true
 | .bl _=>true
 | .int _=>true
 | .str _=>true
 | _=>false
noncomputable def eqV:V->V->Bool
 | .non,.non=>true
 | .bl a,.bl b=>a == b
 | .bl a,.int b=>(if a then 1 else 0) == b
 | .int a,.bl b=>a == (if b then 1 else 0)
 | .int a,.int b=>a == b
 | .str a,.str b=>a == b
 | _,_=>false
theorem sX {A:Around} {s:Shared} {y x:V} {u v:Value} (ry:RelV y u) (rx:RelV x v) (fy:flatV y=true) (fx:flatV x=true):SeqAt.EqAt A s u v (eqV y x):=by
 cases y with
 | non=>
  cases ry;cases x with
  | non=>cases rx; exact SeqAt.EqAt.same _
  | bl b=>cases rx; exact SeqAt.EqAt.none_bool b
  | int b=>obtain ⟨t,rfl⟩:=rx; exact SeqAt.EqAt.none_int b t
  | str b=>obtain ⟨t,rfl⟩:=rx; exact SeqAt.EqAt.none_str b t
  | _=>exact absurd (show false=true from fx) Bool.false_ne_true
 | bl a=>
  cases ry;cases x with
  | non=>cases rx; exact SeqAt.EqAt.bool_none a
  | bl b=>cases rx; exact SeqAt.EqAt.bool_bool a b
  | int b=>obtain ⟨t,rfl⟩:=rx; exact SeqAt.EqAt.bool_int a b t
  | str b=>obtain ⟨t,rfl⟩:=rx; exact SeqAt.EqAt.bool_str a b t
  | _=>exact absurd (show false=true from fx) Bool.false_ne_true
 | int a=>
  obtain ⟨t',rfl⟩:=ry;cases x with
  | non=>cases rx; exact SeqAt.EqAt.int_none a t'
  | bl b=>cases rx; exact SeqAt.EqAt.int_bool a t' b
  | int b=>obtain ⟨t,rfl⟩:=rx; exact SeqAt.EqAt.int_int a t' b t
  | str b=>obtain ⟨t,rfl⟩:=rx; exact SeqAt.EqAt.int_str a t' b t
  | _=>exact absurd (show false=true from fx) Bool.false_ne_true
 | str a=>
  obtain ⟨t',rfl⟩:=ry;cases x with
  | non=>cases rx; exact SeqAt.EqAt.str_none a t'
  | bl b=>cases rx; exact SeqAt.EqAt.str_bool a t' b
  | int b=>obtain ⟨t,rfl⟩:=rx; exact SeqAt.EqAt.str_int a t' b t
  | str b=>obtain ⟨t,rfl⟩:=rx; exact SeqAt.EqAt.str_str a t' b t
  | _=>exact absurd (show false=true from fx) Bool.false_ne_true
 | _=>exact absurd (show false=true from fy) Bool.false_ne_true
noncomputable def eqU (x:V) (u:Value):Bool:=match u with
 | .none=>eqV .non x
 | .bool b=>eqV (.bl b) x
 | .int i _=>eqV (.int i) x
 | .str z _=>eqV (.str z) x
 | _=>false
theorem wH {x y:V} {u:Value} (r:RelV y u) (f:flatV y=true):eqU x u=eqV y x:=by
 cases y with
 | non=>cases r; rfl
 | bl b=>cases r; rfl
 | int i=>obtain ⟨t,rfl⟩:=r; rfl
 | str z=>obtain ⟨t,rfl⟩:=r; rfl
 | _=>exact absurd (show false=true from f) Bool.false_ne_true
theorem jW {x:V}:∀ {xs:List V} {us:List Value},Vals xs us->xs.all flatV=true->us.any (eqU x)=xs.any fun y=>eqV y x
 | _,_,.nil,_=>rfl
 | y::xs,u::us,.cons r t,f=>by
  rw [List.all_cons,Bool.and_eq_true] at f;rw [List.any_cons,List.any_cons,wH r f.1,jW t f.2]
theorem iq {A:Around} {s:Shared} {x:V} {v:Value} (rx:RelV x v) (fx:flatV x=true):∀ {xs:List V} {us:List Value},Vals xs us->xs.all flatV=true->∀ u ∈ us,SeqAt.EqAt A s u v (eqU x u)
 | _,_,.nil,_=>fun u hu=>by cases hu
 | y::xs,u::us,.cons r t,f=>fun u' hu=>by
  rw [List.all_cons,Bool.and_eq_true] at f;rcases List.mem_cons.mp hu with rfl | hu
  ·rw [wH r f.1]; exact sX r rx f.1 fx
  ·exact iq rx fx t f.2 u' hu
noncomputable def inV (x:V) (xs:List V):Bool:=xs.any fun y=>eqV y x
noncomputable def rIn (K:Frag) (neg:Bool):R2:=fun x y H Q=>∃ p xs,y=.ref p/\(SqL K H p xs\/SqT K H p xs)/\flatV x=true/\xs.all flatV=true/\Q (.bl (if neg then !inV x xs else inV x xs)) H
theorem vT:OpR X (compareOp .In) (rIn X.K false):=by
 intro pins s σ H x y v u Q I rx ry h;obtain ⟨p,xs,rfl,hq,fx,fs,q⟩:=h;cases ry;rcases hq with hq | hq
 ·obtain ⟨its,r,pl,hz⟩:=I.list hq;refine SeqAt.in_listAt (eqU x) pl.isList (fun w hw=>iq rx fx r fs w (by simpa using hw)) ⟨.bl _,H,I,rfl,?_⟩;rw [show its.toArray.any (eqU x)=its.any (eqU x) by simp,jW r fs];exact q
 ·obtain ⟨its,r,pl,hz⟩:=I.tuple hq;refine SeqAt.in_tupleAt (eqU x) pl (fun w hw=>iq rx fx r fs w (by simpa using hw)) ⟨.bl _,H,I,rfl,?_⟩;rw [show its.toArray.any (eqU x)=its.any (eqU x) by simp,jW r fs];exact q
theorem qa:OpR X (compareOp .NotIn) (rIn X.K true):=by
 intro pins s σ H x y v u Q I rx ry h;obtain ⟨p,xs,rfl,hq,fx,fs,q⟩:=h;cases ry;rcases hq with hq | hq
 ·obtain ⟨its,r,pl,hz⟩:=I.list hq;refine SeqAt.notIn_listAt (eqU x) pl.isList (fun w hw=>iq rx fx r fs w (by simpa using hw)) ⟨.bl _,H,I,rfl,?_⟩;rw [show its.toArray.any (eqU x)=its.any (eqU x) by simp,jW r fs];exact q
 ·obtain ⟨its,r,pl,hz⟩:=I.tuple hq;refine SeqAt.notIn_tupleAt (eqU x) pl (fun w hw=>iq rx fx r fs w (by simpa using hw)) ⟨.bl _,H,I,rfl,?_⟩;rw [show its.toArray.any (eqU x)=its.any (eqU x) by simp,jW r fs];exact q
theorem qk:CallR X (.builtin "len") (fun xs H Q=>∃ p ys,xs=[.ref p]/\(SqL X.K H p ys\/SqT X.K H p ys)/\Q (.int ys.length) H):=by
 intro pins s σ H xs us Q I r h;obtain ⟨p,ys,rfl,hq,q⟩:=h;obtain ⟨u,rfl,rx⟩:=vals1 r;cases rx;have hn:=line63;rcases hq with hq | hq
 ·obtain ⟨its,r',pl,hz⟩:=I.list hq;have hlen:=r'.length;exact Calls.call_len_list pl.isList (by simp only [List.size_toArray] <;> lia) ⟨.int ys.length,H,I.tok _,⟨s.toks+1,by rw [List.size_toArray,hlen]⟩,q⟩
 ·obtain ⟨its,r',pl,hz⟩:=I.tuple hq;have hlen:=r'.length;exact len_tuple pl (by simp only [List.size_toArray] <;> lia) ⟨.int ys.length,H,I.tok _,⟨s.toks+1,by rw [List.size_toArray,hlen]⟩,q⟩
theorem ql:CallR X (.builtin "len") (fun xs H Q=>∃ z,xs=[.str z]/\z.length<=sizeLine/\Q (.int z.length) H):=by
 intro pins s σ H xs us Q I r h;obtain ⟨z,rfl,hz,q⟩:=h;obtain ⟨u,rfl,t,rfl⟩:=vals1 r;have hn:=line63;exact len_str (by lia) ⟨.int z.length,H,I.tok _,⟨_,rfl⟩,q⟩
theorem qK:CallR X (.type "list") (fun xs H Q=>∃ p ys,xs=[.ref p]/\(SqL X.K H p ys\/SqT X.K H p ys)/\∀ l,H l=none->Q (.ref l) (upd H l (.lst ys))):=by
 intro pins s σ H xs us Q I r h;obtain ⟨p,ys,rfl,hq,q⟩:=h;obtain ⟨u,rfl,rx⟩:=vals1 r;cases rx;have fin:∀ (its:List Value),Vals ys its->ys.length<=sizeLine->∀ (h':Heap) (c':Nat),(∀ b o',s.heap.get? b=some o'->h'.get? b=some o') ->
   h'.get? s.heap.objs.size=some { cls:=.type "list",dict:=none,data:=.seq its.toArray c',slots:=#[] }->EP X pins σ Q (.ref s.heap.objs.size) { s with heap:=h' }:=fun its r' hz h' c' kp e=>
  ⟨.ref s.heap.objs.size,_,I.laid (t':=s.toks) kp (Nat.le_refl _) (show ObjOk X.prog X.w _ h' _ (.lst ys) from ⟨hz,its,c',r',e⟩),rfl,q _ (I.hok.fresh (Nat.le_refl _))⟩
 rcases hq with hq | hq
 ·obtain ⟨its,r',pl,hz⟩:=I.list hq;have hlen:=r'.length;obtain ⟨o,ho,hc,n,hd⟩:=pl.isList;exact call_list_seq p (.inl rfl) ho hc hd (fun h' c' kp e=>fin its r' hz h' c' kp e) (by simp only [List.size_toArray] <;> lia)
 ·obtain ⟨its,r',pl,hz⟩:=I.tuple hq;have hlen:=r'.length;obtain ⟨o,ho,hc,n,hd⟩:=pl;exact call_list_seq p (.inr rfl) ho hc hd (fun h' c' kp e=>fin its r' hz h' c' kp e) (by simp only [List.size_toArray] <;> lia)
theorem oH:CallR X (.type "tuple") (fun xs H Q=>∃ p ys,xs=[.ref p]/\((SqL X.K H p ys/\∀ l,H l=none->Q (.ref l) (upd H l (.tup ys)))\/(SqT X.K H p ys/\Q (.ref p) H))):=by
 intro pins s σ H xs us Q I r h;obtain ⟨p,ys,rfl,h⟩:=h;obtain ⟨u,rfl,rx⟩:=vals1 r;cases rx;rcases h with ⟨hq,q⟩ | ⟨hq,q⟩
 ·obtain ⟨its,r',pl,hz⟩:=I.list hq;have hlen:=r'.length;refine call_tuple_list pl.isList (fun h' kp=>?_) (by simp only [List.size_toArray] <;> lia);have I1:Inv X pins σ H { s with heap:=h' }:=I.kept (t':=s.toks) kp;have I2:Inv X pins σ (upd H h'.objs.size (.tup ys)) { s with heap:=h'.push { cls:=.type "tuple",data:=.seq its.toArray } }:=
   I1.laid (t':=s.toks) (fun b o e=>Heap.get?_push_of_some _ e) (Nat.le_refl _) (show ObjOk X.prog X.w _ _ _ (.tup ys) from ⟨hz,its,r',IsTup.new _ _⟩)
  exact ⟨.ref h'.objs.size,_,I2,rfl,q _ (I1.hok.fresh (Nat.le_refl _))⟩
 ·obtain ⟨its,r',pl,hz⟩:=I.tuple hq;exact call_tuple_same pl ⟨.ref p,H,I,rfl,q⟩
def tyV (K:Frag) (T:String) (x:V) (H:Hp):Prop:=match x with
 | .str _=>T = "str"
 | .int _=>T = "int"
 | .ref p=>(T = "list" /\ ∃ xs,SqL K H p xs)\/(T = "tuple" /\ ∃ o,K.lookup p=some o/\o.cls=.type "tuple" /\ o.dict=none) \/
   (T = "dict" /\ ((∃ kvs,H p=some (.dK kvs))\/∃ kvs,H p=some (.dT kvs)))\/(T = "set" /\ ∃ S n,H p=some (.set S n))
 | _=>False
theorem AG {pins:List (Addr × Obj)} {σ:St} {H:Hp} {s:Shared} {T:String} {x:V} {v:Value} (I:Inv X pins σ H s) (r:RelV x v) (ty:tyV X.K T x H):
  s.TypeIs v T/\∀ a,v=.ref a->∃ ob,s.heap.get? a=some ob/\ob.dict=none:=by
 cases x with
 | str z=>
  obtain ⟨t,rfl⟩:=r;cases (show T = "str" from ty);exact ⟨typeIs_str s z t,fun _ e=>nomatch e⟩
 | int i=>
  obtain ⟨t,rfl⟩:=r;cases (show T = "int" from ty);exact ⟨typeIs_int s i t,fun _ e=>nomatch e⟩
 | ref p=>
  cases r;rcases ty with ⟨rfl,xs,hq⟩ | ⟨rfl,o,hk,hc,hd⟩ | ⟨rfl,hk⟩ | ⟨rfl,S,n,hk⟩
  ·obtain ⟨its,_,pl,_⟩:=I.list hq;refine ⟨pl.isList.typeIs,fun a e=>?_⟩;cases e;obtain ⟨o,n,e,c,hd,_⟩:=pl;exact ⟨o,e,hd⟩
  ·refine ⟨⟨o,I.kIn p o hk,hc⟩,fun a e=>?_⟩;cases e;exact ⟨o,I.kIn _ o hk,hd⟩
  ·have z:∃ o,s.heap.get? p=some o/\o.ExactDict:=by
    rcases hk with ⟨kvs,hk⟩ | ⟨kvs,hk⟩
    ·obtain ⟨_,_,_,_,o,_,_,e,ex,_⟩:=I.hok p _ hk;exact ⟨o,e,ex⟩
    ·obtain ⟨_,_,_,_,o,_,_,e,ex,_⟩:=I.hok p _ hk;exact ⟨o,e,ex⟩
   obtain ⟨o,e,ex⟩:=z;refine ⟨⟨o,e,ex.1⟩,fun a e2=>?_⟩;cases e2;exact ⟨o,e,ex.2.1⟩
  ·obtain ⟨o,_,_,_,e,ex,_⟩:=I.hok p _ hk;refine ⟨⟨o,e,ex.1⟩,fun a e2=>?_⟩;cases e2;exact ⟨o,e,ex.2.1⟩
 | _=>exact False.elim ty
noncomputable def tBM (K:Frag) (T:String) (r:V->List V->Hp->VK->Prop) (to:TE) (t:TA):TE:=fun σ H Q=>to σ H fun x H1=>tyV K T x H1/\t σ H1 fun xs H2=>r x xs H2 Q
variable {o e:Expr} {es:List Expr} {to:TE} {t:TA} {name:Str} {apos cpos:Pos} {T id:String} {r:V->List V->Hp->VK->Prop}
theorem uB (pa:PlainAttrs T) (slot:Slot T name id) (hty:typeOf (.builtin id)=pure (.type "method_descriptor")) (hm:MtR X id r) (ho:PE X o to) (ha:PA X (e::es) t)
  (hbase:attributeBase o name X.env (eval o X.env)=eval o X.env:=by rfl)
  (hfew:((backTo cpos (starEach (e::es) X.env)).all (fun x=>!x.1) && (backToKw cpos (keywordEach [] X.env)).all (fun x=>x.1.isSome)
   && decide ((e::es).length+([]:List Keyword).length+(if ([]:List Keyword).isEmpty then 0 else 1) < 30))=true:=by rfl)
  (hline:(apos.endLine == cpos.line)=true:=by rfl) (hs:starEach (e::es) X.env=(false,eval e X.env)::starEach es X.env:=by rfl) (hplain:(backTo cpos (starEach es X.env)).any (·.1)=false:=by rfl):
  PE X (.Call (.Attribute o name apos) (e::es) [] cpos) (tBM X.K T r to t):=by
 intro pins s σ H Q I h;refine wpAny_Call_method_late hbase hfew hline rfl (thn (ho pins s σ H _ I h) fun v s1 ⟨x,H1,I1,r1,ty,q1⟩=>?_);obtain ⟨h1,h2⟩:=AG I1 r1 ty;refine ⟨T,id,pa,slot,hty,h1,h2,?_⟩;have hA:=ha cpos pins s1 σ H1 _ I1 q1;rw [hs] at hA ⊢;refine Calls.callWith_builtin (by show (false || (backTo cpos (starEach es X.env)).any (·.1))=false; rw [hplain] <;> rfl) (Calls.evalArgs_plain ?_);exact thn hA fun us s2 ⟨vs,H2,I2,r2,q2⟩=>hm pins s2 σ H2 x vs v us Q I2 r1 r2 q2
end
def MtM (X:Cx) (id:String) (r:V->List V->Hp->VK->Prop):Prop:=
 ∀ (pins:List (Addr × Obj)) (s:Shared) (σ:St) (H:Hp) (x:V) (xs:List V) (v:Value) (us:List Value) (Q:VK),Inv X pins σ H s->RelV x v->Vals xs us->r x xs H Q ->
  wpAny (model X.prog X.w) X.A (call (.builtin id) (v::us)) (EP X pins σ Q) X.xe s
theorem Vals.one:∀ {x:V} {us:List Value},Vals [x] us->∃ u,us=[u]/\RelV x u
 | _,_,.cons r .nil=>⟨_,rfl,r⟩
theorem Vals.eraseIdx:∀ {xs:List V} {us:List Value} (i:Nat),Vals xs us->Vals (xs.eraseIdx i) (us.eraseIdx i)
 | _,_,_,.nil=>.nil
 | _,_,0,.cons _ t=>t
 | _,_,i+1,.cons r t=>.cons r (Vals.eraseIdx i t)
theorem Vals.rep {xs:List V} {us:List Value} (h:Vals xs us):∀ k:Nat,Vals (List.replicate k xs).flatten (List.replicate k us).flatten
 | 0=>.nil
 | k+1=>by
  rw [List.replicate_succ,List.replicate_succ,List.flatten_cons,List.flatten_cons];exact Vals.append h (Vals.rep h k)
theorem oP {α:Type}:∀ (l:List α) (i:Nat),(l.eraseIdx i).length<=l.length
 | [],_=>Nat.le_refl _
 | _::_,0=>Nat.le_succ _
 | _::r,i+1=>Nat.succ_le_succ (oP r i)
theorem pD (its:List Value):∀ (k:Nat) (acc:List Value),
  List.foldl (fun x1 x2=>x1++x2) acc.toArray (List.replicate k its.toArray)=(acc++(List.replicate k its).flatten).toArray
 | 0,acc=>by simp
 | k+1,acc=>by
  have e:acc.toArray++its.toArray=(acc++its).toArray:=by simp
  have e2:(acc++its)++(List.replicate k its).flatten=acc++(List.replicate (k+1) its).flatten:=by
   rw [List.replicate_succ,List.flatten_cons,List.append_assoc]
  rw [<- e2,<- pD its k (acc++its),<- e,List.replicate_succ,List.foldl_cons]
section
variable {X:Cx} {pins:List (Addr × Obj)} {σ:St} {H:Hp} {s:Shared} {l b:Addr} {xs ys zs:List V}
theorem Inv.lset {its its':List Value} {n:Nat} {f:Array Value->Array Value} {t':Nat} (I:Inv X pins σ H s) (hH:H l=some (.lst xs))
  (e:s.heap.get? l=some { cls:=.type "list",data:=.seq its.toArray n }) (hf:f its.toArray=its'.toArray) (hv:Vals ys its') (hz:ys.length<=sizeLine) (ht:0 < t':=by first | assumption | exact Nat.succ_pos _ | (apply Inv.tk; assumption) | lia):
  Inv X pins σ (upd H l (.lst ys)) { s with heap:=s.heap.update l (Obj.mapSeq f),toks:=t' }:=by
 have q:=PySem.IsL.update e f;rw [hf] at q;refine I.write (x:=l) (e:=l) (by rw [hH]; exact trivial) (.inl rfl) (fun b' u hb hu=>(Heap.get?_update_other s.heap (Obj.mapSeq f) (Ne.symm hb)).trans hu) ⟨_,q⟩ ?_;exact ⟨hz,its',_,hv,q⟩
theorem Inv.lnew {its:List Value} {t':Nat} (I:Inv X pins σ H s) (hv:Vals ys its) (hz:ys.length<=sizeLine) (ht:0 < t':=by first | assumption | exact Nat.succ_pos _ | (apply Inv.tk; assumption) | lia):
  Inv X pins σ (upd H s.heap.objs.size (.lst ys)) { s with heap:=s.heap.push { cls:=.type "list",data:=.seq its.toArray },toks:=t' }:=
 I.laid (fun _ _ q=>Heap.get?_push_of_some _ q) (Nat.le_refl _) ⟨hz,its,0,hv,Heap.get?_push_size _ rfl⟩
theorem Inv.fresh (I:Inv X pins σ H s):H s.heap.objs.size=none:=I.hok.fresh (Nat.le_refl _)
theorem Inv.lstM (I:Inv X pins σ H s) (hH:H l=some (.lst xs)):xs.length<=sizeLine/\∃ (its:List Value) (n:Nat),Vals xs its/\xs.length=its.length/\s.heap.get? l=some { cls:=.type "list",data:=.seq its.toArray n }:=by
 obtain ⟨z,its,n,r,e⟩:=I.hok l _ hH;exact ⟨z,its,n,r,r.length,e⟩
theorem notLongL {n:Nat} (h:n<=sizeLine):Builtin.List.listTooLong n=false:=by
 unfold Builtin.List.listTooLong;exact decide_eq_false (by lia)
end
section
variable {X:Cx}
noncomputable def rAppend:V->List V->Hp->VK->Prop:=fun x vs H Q=>∃ l xs y,x=.ref l/\vs=[y]/\H l=some (.lst xs)/\xs.length < sizeLine/\Q .non (upd H l (.lst (xs++[y])))
theorem kO:MtM X "list.append" rAppend:=by
 intro pins s σ H x vs v us Q I rx rv h;obtain ⟨l,xs,y,rfl,rfl,hH,hz,q⟩:=h;cases rx;obtain ⟨u,rfl,ru⟩:=rv.one;obtain ⟨z,its,n,r,hl,e⟩:=I.lstM hH;refine call_meets F.slot_list_append ⟨_,e,rfl⟩ F.entry_list_append (F.args_list_append_2 _ _) (PySem.list_append l its.toArray n u (by rw [List.size_toArray]; lia)) ⟨e,?_⟩;refine ⟨.non,_,I.lset (its':=its++[u]) hH e (by simp) (r.append (.cons ru .nil)) ?_,rfl,q⟩;rw [List.length_append,List.length_singleton]
 lia
noncomputable def rExtend:V->List V->Hp->VK->Prop:=fun x vs H Q=>∃ l b xs zs,x=.ref l/\vs=[.ref b]/\H l=some (.lst xs)/\H b=some (.lst zs)/\xs.length+zs.length<=sizeLine/\Q .non (upd H l (.lst (xs++zs)))
theorem ve:MtM X "list.extend" rExtend:=by
 intro pins s σ H x vs v us Q I rx rv h;obtain ⟨l,b,xs,zs,rfl,rfl,hH,hB,hz,q⟩:=h;cases rx;obtain ⟨u,rfl,ru⟩:=rv.one;cases ru;obtain ⟨z,its,n,r,hl,e⟩:=I.lstM hH;obtain ⟨z2,its2,n2,r2,hl2,e2⟩:=I.lstM hB;have hsz:its.toArray.size+its2.toArray.size<=sizeLine:=by rw [List.size_toArray,List.size_toArray]; lia
 have hlong:¬ (!its.toArray.isEmpty && Builtin.List.listTooLong (its.toArray.size+its2.toArray.size))=true:=by
  rw [notLongL hsz,Bool.and_false];exact Bool.false_ne_true
 refine call_meets F.slot_list_extend ⟨_,e,rfl⟩ F.entry_list_extend (F.args_list_extend_2 _ _)
  (AutoSeq1.list_extend_list_list_0 l its.toArray n b its2.toArray n2 hlong (by rw [List.size_toArray]; lia) (by lia)) ⟨e,e2,?_⟩
 refine ⟨.non,_,I.lset (its':=its++its2) hH e (by simp) (r.append r2) ?_,rfl,q⟩;rw [List.length_append]
 lia
noncomputable def rPopAt:V->List V->Hp->VK->Prop:=fun x vs H Q=>∃ l xs i k y,x=.ref l/\vs=[.int i]/\H l=some (.lst xs) /\ -(2 ^ 63)<=i/\i < 2 ^ 63/\seqIndex? i xs.length=some k/\xs[k]? = some y/\Q y (upd H l (.lst (xs.eraseIdx k)))
theorem wK:MtM X "list.pop" rPopAt:=by
 intro pins s σ H x vs v us Q I rx rv h;obtain ⟨l,xs,i,k,y,rfl,rfl,hH,h1,h2,hk,hy,q⟩:=h;cases rx;obtain ⟨u,rfl,ru⟩:=rv.one;obtain ⟨t,rfl⟩:=ru;obtain ⟨z,its,n,r,hl,e⟩:=I.lstM hH;obtain ⟨w,hw,rw'⟩:=r.get hy;refine call_meets F.slot_list_pop ⟨_,e,rfl⟩ F.entry_list_pop (F.args_list_pop_2 _ _)
  (MeetsSeq.list_pop_at l its.toArray n i t k w (fitsIndex_both h1 h2) (by rw [List.size_toArray,<- hl]; exact hk) (by rw [<- Array.getElem?_toList]; exact hw) (by rw [List.size_toArray]; lia)) ⟨e,?_⟩
 refine ⟨y,_,I.lset (its':=its.eraseIdx k) hH e ?_ (r.eraseIdx k) ?_,rw',q⟩
 ·show its.toArray.eraseIdxIfInBounds k=(its.eraseIdx k).toArray;rw [List.eraseIdxIfInBounds_toArray]
 ·have:=oP xs k
  lia
noncomputable def rCat:R2:=fun x y H Q=>∃ l b xs zs,x=.ref l/\y=.ref b/\H l=some (.lst xs)/\H b=some (.lst zs)/\xs.length+zs.length<=sizeLine/\∀ p,H p=none->Q (.ref p) (upd H p (.lst (xs++zs)))
theorem AU:OpR X (binaryOp .Add) rCat:=by
 intro pins s σ H x y v u Q I rx ry h;obtain ⟨l,b,xs,zs,rfl,rfl,hH,hB,hz,q⟩:=h;cases rx;cases ry;obtain ⟨z,its,n,r,hl,e⟩:=I.lstM hH;obtain ⟨z2,its2,n2,r2,hl2,e2⟩:=I.lstM hB;refine PySem.P.add_list e e2 ?_ (by rw [List.size_toArray,List.size_toArray]; lia);have ea:its.toArray++its2.toArray=(its++its2).toArray:=by simp
 rw [ea];exact ⟨.ref _,_,I.lnew (t':=s.toks) (r.append r2) (by rw [List.length_append]; lia),rfl,q _ I.fresh⟩
noncomputable def rRep:R2:=fun x y H Q=>∃ l k xs,x=.ref l/\y=.int k/\H l=some (.lst xs) /\ -(2 ^ 63)<=k/\k < 2 ^ 63/\xs.length*k.toNat<=sizeLine /\
 ∀ p,H p=none->Q (.ref p) (upd H p (.lst (List.replicate k.toNat xs).flatten))
theorem zh {α:Type} (xs:List α) (k:Nat):(List.replicate k xs).flatten.length=k*xs.length:=by
 induction k with
 | zero=>simp
 | succ k ih=>rw [List.replicate_succ,List.flatten_cons,List.length_append,ih,Nat.succ_mul,Nat.add_comm]
theorem Ay:OpR X (binaryOp .Mult) rRep:=by
 intro pins s σ H x y v u Q I rx ry h;obtain ⟨l,k,xs,rfl,rfl,hH,h1,h2,hz,q⟩:=h;cases rx;obtain ⟨t,rfl⟩:=ry;obtain ⟨z,its,n,r,hl,e⟩:=I.lstM hH;have hlen:its.toArray.size*k.toNat<=sizeLine:=by rw [List.size_toArray,<- hl]; exact hz
 have hcap:¬ its.toArray.size*k.toNat > (2 ^ 63 - 1) / 8:=by
  have:(sizeLine:Nat)<=(2 ^ 63 - 1) / 8:=by decide
  lia
 have hfit:¬ (!Builtin.List.listFitsIndex k)=true:=by
  rw [fitsIndex_both h1 h2];exact Bool.false_ne_true
 have hlong:¬ Builtin.List.listTooLong (its.toArray.size*k.toNat)=true:=by
  rw [notLongL hlen];exact Bool.false_ne_true
 have hnew:List.foldl (fun x1 x2=>x1++x2) #[] (List.replicate (if its.toArray.isEmpty=true then 0 else k.toNat) its.toArray)=(List.replicate k.toNat its).flatten.toArray:=by
  have f0:∀ m:Nat,List.foldl (fun x1 x2=>x1++x2) #[] (List.replicate m its.toArray)=(List.replicate m its).flatten.toArray:=fun m=>by
   have:=pD its m [];rw [List.nil_append] at this;exact this
  rw [f0];cases its with
  | nil=>simp
  | cons a r'=>rw [if_neg (by simp)]
 refine wpAny_binaryOp_repeat_ref (T := "list") (U := "int") (by decide) ⟨_,e,rfl⟩ (fun s'=>typeIs_int s' k t) noFill_list_mul F.fills_int_mul F.slot_int_rmul repeat_list F.slot_int_index.lookup
  (call_meets F.slot_int_rmul (typeIs_int s k t) F.entry_int_rmul (F.args_int_rmul_2 _ _) (int___rmul___int_list k t l its.toArray n)
   ⟨e,rfl,⟨_,e,rfl⟩,call_meets F.slot_list_mul ⟨_,e,rfl⟩ F.entry_list_mul (F.args_list_mul_2 _ _) (AutoListH.list___mul___list_int_3 l its.toArray n k t hfit hcap hlong) ⟨e,?_⟩⟩)
 rw [hnew];exact ⟨.ref _,_,I.lnew (t':=s.toks) (r.rep k.toNat) (by rw [zh,Nat.mul_comm]; exact hz),rfl,q _ I.fresh⟩
end
section
variable {prog:Program} {w:World} {A:Around} {E:Value->Shared->Prop} {s:Shared}
end
section
variable {X:Cx}
end
end L2
namespace Att
open PySem PySem.W PySem.Calls PyProof.Rows
theorem lU {P:Params} {h:Heap}:∀ (ns:List Int) (vs:List Value),WellAll P h vs (ns.map WData.int)->IntsAre vs ns:=by
 intro ns
 induction ns with
 | nil=>
  intro vs w;rw [List.map_nil] at w;cases w;exact .nil
 | cons n ns ih=>
  intro vs w;rw [List.map_cons] at w;cases w with
  | cons a b=>
   cases a;exact .cons _ _ (ih _ b)
theorem script_of {l:OpenLaw} {n:Nat} (hn:l.most=some n) {P:Params} {h:Heap} {args:List WData} {vals:List Value}
  (hpre:l.row.toRowW.claim.pre args=true) (hwl:WellAll P h vals args):
  ∃ a vs ns,vals=[Value.ref a]/\args=[WData.list (ns.map WData.int)]/\h.get? a=some { cls:=.type "list",data:=.seq vs.toArray }/\IntsAre vs ns/\ns.length<=n:=by
 have hsh:WShape.hasAll [] args [.list .int]=true:=(pre_splitW hpre).1;have hc:l.pre.holds [] { args:=args }=true:=(pre_splitW hpre).2;obtain ⟨d,r,rfl,h1,h2⟩:=hasAllW_cons hsh;obtain rfl:=hasAllW_nil h2;obtain ⟨xs,rfl,h3⟩:=hasW_list h1;obtain ⟨ns,rfl⟩:=items_int h3;have hlen:ns.length<=n:=by
  unfold OpenLaw.pre at hc;have h4:(WTm.not (.lt (.lit (.int (n:Int))) (.len (.arg 0)))).holds [] { args:=[.list (ns.map .int)] }=true:=by
   have h4:=(holds_andW hc).1;rw [hn] at h4;exact h4
  have h5:=condW_of h4 (w_not (w_lt w_lit (w_len_list (w_arg rfl))));rw [List.length_map] at h5;refine Nat.le_of_not_lt fun q=>?_
  have q':(n:Int) < ((ns.length:Nat):Int):=by lia
  first
   | (rw [decide_eq_true q'] at h5; exact absurd h5 (by decide))
   | (simp at h5; lia)
 cases hwl with
 | cons w1 w2=>
  cases w2;cases w1 with
  | list ho hall=>exact ⟨_,_,ns,rfl,rfl,ho,lU ns _ hall,hlen⟩
theorem post_true (l:OpenLaw) (args:List WData):l.row.toRowW.claim.post args (.bool true) args=true:=
 postW_of (r:=l.row.toRowW) (X:=(true == true))
  (show WShape.has [] (.bool true) .bool=true by first | rfl | decide | simp [WShape.has,WShape.arms,WShape.armsAll])
  (show (WTm.eq .res (.lit (.bool true))).value [] { args:=args,res:=some (.bool true),after:=args }=some (.bool (true == true)) from w_eq_bool (w_res rfl) w_lit) rfl
section
variable {prog:Program} {w:World} {A:Around} {E:Value->Shared->Prop} {s:Shared} {K:Frag}
end
end Att
namespace L2
open PySem PySem.Spec PyProof.Rows
theorem oO:∀ {vs:List Value} {ns:List Int},IntsAre vs ns->Vals (ns.map V.int) vs
 | _,_,.nil=>.nil
 | _,_,.cons n t h=>.cons ⟨t,rfl⟩ (oO h)
noncomputable abbrev KOf {K:Frag} {h:Heap} (_:K.In h):Frag:=K
theorem qC {l:PySem.W.OpenLaw} {n:Nat} {q:Program} {loose:List Str} {XP:(Str->Option Value)->Heap->Prop} {α:Type} {Yf:Shared->α} {Ya:World->α} {d:DefRec}
  (hn:l.most=some n) (hdf:d.params.defaults=[])
  (call:∀ (w:World) (s₀ s₁:Shared) (mg mb:Str->Option Value) (fa a:Addr) (vs:List Value) (ns:List Int),
   PySem.W.Ground q loose [] XP w s₀ mg mb s₁.heap->Yf s₀ = Ya w->(∀ b o,s₀.heap.get? b=some o->s₁.heap.get? b=some o)->s₀.toks<=s₁.toks->mg d.name=some (.ref fa) ->
   s₁.heap.get? a=some { cls:=.type "list",data:=.seq vs.toArray }->IntsAre vs ns->ns.length<=n->s₁.gens=#[] ->
   codeAny (model l.prog w) callerA (.call (.ref fa) ⟨[.ref a],[]⟩) (fun r s'=>r=.ok (.ret (.bool true))/\OldK s₁.heap s'.heap/\s'.os=s₁.os/\AllBare s'.gens) s₁):
  PySem.W.WalkX q loose XP Yf Ya l.row.toRowW d [] (fun f vs=>PySem.call f vs):=by
 intro w s₀ s₁ mg mb G Y fa o pm cd doc dV kV ho hd hcd hD hmg hg args vals as L hpre hlay hrd hwl hlo;obtain ⟨a,vs,ns,rfl,rfl,hobj,hints,hlen⟩:=Att.script_of hn hpre hwl;have ht:s₀.toks<=s₁.toks:=by
  obtain ⟨ord,_,e⟩:=L.laid;exact (PySem.W.layAllW_grows _ _ _ e).toks
 refine PySem.W.enter_call (codeAny_mono (call w s₀ s₁ mg mb fa a vs ns G Y L.keeps ht hmg hobj hints hlen hg) fun r s' hq=>?_);obtain ⟨rfl,h2,h3,h4⟩:=hq;exact ⟨.inl ⟨.bool true,.bool true,[],rfl,fun _=>rfl,.bool true,Att.post_true l _,fun _=>⟨List.Pairwise.nil,fun _ hm=>(nomatch hm)⟩⟩,h2,h3,h4⟩
noncomputable def inClass (s:Stmt) (j:Nat):Stmt:=match s with
 | .ClassDef _ _ _ body _ _ _ _ _ _ _=>body.getD j (.Pass ⟨0,0,0,0⟩)
 | _=>.Pass ⟨0,0,0,0⟩
noncomputable def defArgs (s:Stmt):Arguments:=match s with
 | .FunctionDef _ a _ _ _ _ _ _ _ _=>a
 | _=>{ posonlyargs:=[],args:=[],vararg:=none,kwonlyargs:=[],kw_defaults:=[],kwarg:=none,defaults:=[] }
noncomputable def defBody (s:Stmt):List Stmt:=match s with
 | .FunctionDef _ _ b _ _ _ _ _ _ _=>b
 | _=>[]
noncomputable def defScope (s:Stmt):Scope:=match s with
 | .FunctionDef _ _ _ _ _ _ sc _ _ _=>sc
 | _=>{ kind:=.function,names:=[],isGenerator:=false,isCoroutine:=false }
noncomputable abbrev CX0:CXT:=fun _ _ _ _ _ _=>False
noncomputable abbrev E0:XK:=fun _ _ _=>False
theorem pass0 {X:Cx}:Passes CX0 X E0:=fun _ _ _ _ _ _ _ h=>h.elim
structure Fun (K:Frag) (x qual:Str) (st:Stmt) (f:Addr) (fd:FuncData):Prop where
 ex:∃ (oc:Value) (od:Option Addr) (kV doc pm:Value) (an:Option Addr) (cdv ct:Value) (osl:Array (Option Value)),
  fd=fnOf x qual (defArgs st) (defBody st) (defScope st) .none kV doc pm an cdv ct/\K.lookup f=some ⟨oc,od,.func fd,osl⟩/\codeIn K cdv qual=true
 kp:keepIn K (.ref f)=true
section
variable {P:Program} {w:World} {K:Frag} {mg:Str->Option Value} {base:Heap}
theorem Fun.ok {x qual:Str} {st:Stmt} {f:Addr} {fd:FuncData} {N ps:List Str} {k:Nat} {sp:Sp} (F:Fun K x qual st f fd) (S:FnScope N ps (defScope st)) (len:∀ vs H Q E,sp vs H Q E->vs.length=ps.length)
  (hbody:∀ (cdv:Value) (A:Around) (outer:List Env) (s:Shared) (H:Hp) (vs:List V) (Q:VK) (E:XK),Room k (A.deeper (envOfC qual (defScope st) s.heap.objs.size f cdv))->sp vs H Q E ->
   ∃ t,PSs (cxOf CX0 P w K mg base N qual (defScope st) f cdv A outer s H E).nox (defBody st) t/\t { nx:=fun _ H'=>Q .non H',rt:=Q } (start N vs) H):FnOk P w K mg base CX0 (k+1) f fd ps sp:=by
 obtain ⟨oc,od,kV,doc,pm,an,cdv,ct,osl,rfl,lk,hcd⟩:=F.ex;refine qT lk hcd S len fun A outer s H vs Q E hr hsp=>?_
 obtain ⟨t,h,q⟩:=hbody cdv A outer s H vs Q E hr hsp;exact ⟨t,h.nox,q⟩
theorem Fun.binds {x qual:Str} {st:Stmt} {f:Addr} {fd:FuncData} {ps:List Str} (F:Fun K x qual st f fd)
  (h:∀ (kV doc pm:Value) (an:Option Addr) (cdv ct:Value) (us:List Value),us.length=ps.length->bindArgs (fnOf x qual (defArgs st) (defBody st) (defScope st) .none kV doc pm an cdv ct) ⟨us,[]⟩=pure (ps.zip us)):Binds K fd ps []:=by
 obtain ⟨oc,od,kV,doc,pm,an,cdv,ct,osl,rfl,lk,hcd⟩:=F.ex;exact .all (h kV doc pm an cdv ct)
theorem kT {x qual:Str} {st:Stmt} {f:Addr} {oc:Value} {od an:Option Addr} {osl:Array (Option Value)} {kV doc pm cdv ct:Value} (l:K.lookup f=some ⟨oc,od,.func (fnOf x qual (defArgs st) (defBody st) (defScope st) .none kV doc pm an cdv ct),osl⟩)
  (c:codeIn K cdv qual=true) (k:keepIn K (.ref f)=true):Fun K x qual st f (fnOf x qual (defArgs st) (defBody st) (defScope st) .none kV doc pm an cdv ct):=⟨⟨oc,od,kV,doc,pm,an,cdv,ct,osl,rfl,l,c⟩,k⟩
end
theorem iE {A:Around} {k:Nat} (hr:Room k A):A.units+1 < cLine:=Nat.lt_of_le_of_lt (Nat.add_le_add_left (by decide:1<=64) _) hr.units
theorem small1000 {n:Nat} (h:n<=1000):n < sizeLine:=Nat.lt_of_le_of_lt h (by decide)
section
variable {X:Cx}
theorem pv (i:Nat) {x:Str} {pos:Pos} (hN:X.N[i]? = some x:=by rfl) (hv:Vis X.env.scope x:=by first | exact Or.inl rfl | exact Or.inr (Or.inl rfl) | exact Or.inr (Or.inr rfl)) (hd:(x == ("__debug__" : Str))=false:=by decide)
  (hcd:(x == ("__classdict__" : Str))=false:=by decide):PE X (.Name x pos) (tVar i):=wW hN hv hd hcd
end
theorem ite2 {c A B:Prop} [Decidable c] (h1:c->A) (h2:¬ c->B):if c then A else B:=by
 by_cases h:c
 ·rw [if_pos h];exact h1 h
 ·rw [if_neg h];exact h2 h
def Same (H H':Hp):Prop:=∀ b o,H b=some o->H' b=some o
theorem Same.refl (H:Hp):Same H H:=fun _ _ h=>h
theorem Same.trans {H H1 H2:Hp} (a:Same H H1) (b:Same H1 H2):Same H H2:=fun c o h=>b c o (a c o h)
theorem Same.free {H H':Hp} (e:Same H H') {l:Addr} (h:H' l=Option.none):H l=Option.none:=by
 cases q:H l with
 | none=>rfl
 | some o=>
  rw [e l o q] at h;cases h
theorem Same.seq {K:Frag} {H H':Hp} {a:Addr} {xs:List V} (e:Same H H') (h:SqL K H a xs):SqL K H' a xs:=by
 rcases h with (h | ⟨o,h⟩) | h
 ·exact .inl (.inl (e _ _ h))
 ·exact .inl (.inr ⟨o,e _ _ h⟩)
 ·exact .inr h
section
variable {X:Cx} {pins:List (Addr × Obj)} {σ:St} {H H':Hp} {s:Shared} {h':Heap}
theorem Inv.turnedL {t':Nat} {its:List Addr} (I:Inv X pins σ H s) (k:∀ b o,b ∉ its->s.heap.get? b=some o->h'.get? b=some o) (hf:∀ b ∈ its,FpOk X pins H b) (ht:0 < t':=by first | assumption | exact Nat.succ_pos _ | (apply Inv.tk; assumption) | omega):Inv X pins σ H { s with heap:=h',toks:=t' }:=by
 have nit:∀ b u,H b=some u->b ∉ its:=fun b u e z=>by
  have q:=(hf b z).1;rw [q] at e;cases e
 refine I.step (g':=s.gens) (d':=s.drawn) (ch:=its) (fun b hb=>?_) (fun b o _ _ hc e _=>k b o hc e) (fun b o _ _ hc e _=>⟨o.slots,k b o hc e⟩) (fun _ _ _ _ n=>n)
  (fun b o hc e=>⟨o,k b o hc e⟩) (fun _ _ e=>e) (fun _ _ _ e=>e) (fun b ps e=>⟨#[],by rw [e]; simp⟩) (fun m hm=>?_) (fun b u e=>?_) I.bare
 ·obtain ⟨f0,f1,f2,f3,f4,f5⟩:=hf b hb;exact ⟨f3,f1,f4,f5⟩
 ·obtain ⟨o,es,ep,ho,r⟩:=hm;exact ⟨o,es,ep,k _ o (fun z=>(hf _ z).2.1 rfl) ho,r⟩
 ·refine (I.hok b u e).stay (fun c v hc q=>k c v ?_ q) (fun _ q=>q) fun _ _ q=>q
  rcases hc with z | z
  ·rw [z]; exact nit b u e
  ·exact nit c _ z
end
theorem tF (x:Str):["enumerate", "zip", "dict_itemiterator", "dict_reverseitemiterator", "odict_iterator", "itertools.zip_longest", "itertools.pairwise"].contains (strIterType x)=false:=by
 unfold strIterType;split <;> decide
section
variable {prog:Program} {w:World} {A:Around} {E:Value->Shared->Prop} {s:Shared}
theorem bA (x:Str):strIterType x = "str_ascii_iterator" \/ strIterType x = "str_iterator" := by
 unfold strIterType;split
 ·exact .inl rfl
 ·exact .inr rfl
theorem oE {it:Addr} {x:Str} {t:Tok} {i c:Nat} {Q:Option Value->Shared->Prop} (hit:s.heap.IsStrIter it (strIterType x) x t i) (hx:x.cps[i]? = some c)
  (hQ:∀ h',h'.IsStrIter it (strIterType x) x t (i+1)->Heap.SameBut it s.heap h'->Q (some (.str ⟨#[c]⟩ s.toks)) { s with heap:=h',toks:=s.toks+1 }):
  wpAny (model prog w) A (pyNext (.ref it)) Q E s:=by
 rcases bA x with e | e
 ·rw [e] at hit;simp only [e] at hQ;exact wpAny_pyNext_ascii_item hit hx hQ
 ·rw [e] at hit;simp only [e] at hQ;exact wpAny_pyNext_wide_item hit hx hQ
theorem qj {it:Addr} {x:Str} {t:Tok} {i:Nat} {Q:Option Value->Shared->Prop} (hh:A.handled=none) (hit:s.heap.IsStrIter it (strIterType x) x t i) (hx:x.cps[i]? = none)
  (hQ:∀ h',Heap.ExtBut it s.heap h'->Q none { s with heap:=h' }):wpAny (model prog w) A (pyNext (.ref it)) Q E s:=by
 rcases bA x with e | e
 ·rw [e] at hit;exact wpAny_pyNext_ascii_end hh hit hx hQ
 ·rw [e] at hit;exact wpAny_pyNext_wide_end hh hit hx hQ
theorem oi {it:Addr} {x:Str} {t:Tok} {i:Nat} {Q:Value->Shared->Prop} (hit:s.heap.IsStrIter it (strIterType x) x t i) (h:Q (.ref it) s):wpAny (model prog w) A (pyIter (.ref it)) Q E s:=by
 rcases bA x with e | e
 ·rw [e] at hit;exact wpAny_pyIter_striter_ascii hit h
 ·rw [e] at hit;exact wpAny_pyIter_striter_wide hit h
theorem lO {it:Addr} {x:Str} {t:Tok} {i c:Nat} {Q:Value->Shared->Prop} (hit:s.heap.IsStrIter it (strIterType x) x t i) (hx:x.cps[i]? = some c)
  (hQ:∀ h',h'.IsStrIter it (strIterType x) x t (i+1)->Heap.SameBut it s.heap h'->Q (.str ⟨#[c]⟩ s.toks) { s with heap:=h',toks:=s.toks+1 }):
  wpAny (model prog w) A (Builtin.SmallTypes.nextOf (.ref it)) Q E s:=by
 rcases bA x with e | e
 ·rw [e] at hit;simp only [e] at hQ;exact wpAny_nextOf_ascii_item hit hx hQ
 ·rw [e] at hit;simp only [e] at hQ;exact wpAny_nextOf_wide_item hit hx hQ
theorem mE {it:Addr} {x:Str} {t:Tok} {i:Nat} {Q:Value->Shared->Prop} (hh:A.handled=none) (hit:s.heap.IsStrIter it (strIterType x) x t i) (hx:x.cps[i]? = none)
  (hE:∀ h' e,Heap.ExtBut it s.heap h'->(∃ o,h'.get? e=some o/\o.cls=.type "StopIteration")->E (.ref e) { s with heap:=h' }):wpAny (model prog w) A (Builtin.SmallTypes.nextOf (.ref it)) Q E s:=by
 rcases bA x with e | e
 ·rw [e] at hit;exact wpAny_nextOf_ascii_end hh hit hx hE
 ·rw [e] at hit;exact wpAny_nextOf_wide_end hh hit hx hE
end
noncomputable def Its (x:Str):It:=⟨fun i _=>i < x.cps.size,fun i H v H'=>H'=H/\∃ c,x.cps[i]? = some c/\v=.str ⟨#[c]⟩,fun i _=>x.cps.size<=i⟩
theorem rB {h:Heap} {it:Addr} {ty:String} {x:Str} {t:Tok} {i:Nat} (st:h.IsStrIter it ty x t i):∃ o,h.get? it=some o/\∀ v,o.data≠.cell v:=by
 obtain ⟨o,e,c,d⟩:=st;exact ⟨o,e,fun v z=>by rw [d] at z; cases z⟩
theorem wn {P:Program} {w:World} {K:Frag} {tg:Expr} (x:Str) (t:Tok) (it:Addr):Turn P w K tg (Its x) [it] it (fun i h=>h.IsStrIter it (strIterType x) x t i) where
 mem:=by simp
 obj:=fun i h st b hb=>by
  have e:b=it:=by simpa using hb
  subst e;exact rB st
 keep:=fun i h h' st k=>by
  obtain ⟨o,e,r⟩:=st;exact ⟨o,k it (by simp) o e,r⟩
 item:=by
  intro X hP hw hK hc i pins s σ H E I hf st hg;subst hP hw hK;have hi:i < x.cps.size:=hg;refine oE st (c:=x.cps[i]) (by simp [hi]) fun h' st' sb=>?_
  have I1:Inv X pins σ H { s with heap:=h',toks:=s.toks+1 }:=I.turnedL (its:=[it]) (fun b o hb e=>(sb.2 b (by simpa using hb)).trans e) hf;obtain ⟨o,e,c,d⟩:=id st';exact ⟨_,rfl,qV (s:={ s with heap:=h',toks:=s.toks+1 }) e c d (tF x) ⟨.str ⟨#[x.cps[i]]⟩,H,I1,⟨_,rfl⟩,⟨rfl,_,by simp [hi],rfl⟩,st',fun b hb=>(hf b hb).1⟩⟩
 done:=by
  intro X hP hw hK hc i pins s σ H E I hf st hg;subst hP hw hK;have hi:x.cps.size<=i:=hg;exact qj (I.ok.hd hc) st (by simp [hi]) fun h' eb=>⟨rfl,I.turnedL (t':=s.toks) (its:=[it]) (fun b o hb e=>eb b o (by simpa using hb) e) hf⟩
 self:=fun _ _ _ _ _ st h=>oi st h
section
variable {X:Cx} {tg e:Expr} {te:TE}
end
theorem sO {J:It} {n:Nat} {g:TG} {tb:TS} {D:Ends} {σ:St} {H:Hp} (Pv:Nat->St->Hp->Prop) (h0:Pv 0 σ H) (hgo:∀ i σ H,i < n->Pv i σ H->J.go i H) (hst:∀ σ H,Pv n σ H->J.stop n H)
  (hs:∀ i σ H x H',i < n->Pv i σ H->J.yld i H x H'->g x σ H' fun σ2 H2=>tb { D with nx:=Pv (i+1),ct:=Pv (i+1),bk:=D.nx } σ2 H2) (hd:∀ σ H,Pv n σ H->D.nx σ H):
  ∃ W:Nat->Nat->St->Hp->Prop,(∃ m,W 0 m σ H)/\∀ i m σ H,W i m σ H ->
   (J.stop i H/\D.nx σ H)\/(J.go i H/\∃ N:St->Hp->Prop,(∀ σ' H',N σ' H'->∃ m',m' < m/\W (i+1) m' σ' H')/\∀ x H',J.yld i H x H'->g x σ H' fun σ2 H2=>tb { D with nx:=N,ct:=N,bk:=D.nx } σ2 H2):=by
 refine ⟨fun i m σ H=>m=n - i/\i<=n/\Pv i σ H,⟨n,by simp,Nat.zero_le _,h0⟩,?_⟩;rintro i m σ H ⟨rfl,hi,p⟩;by_cases hlt:i < n
 ·exact .inr ⟨hgo i σ H hlt p,Pv (i+1),fun σ' H' p'=>⟨n - (i+1),by omega,rfl,hlt,p'⟩,fun x H' y=>hs i σ H x H' hlt p y⟩
 ·have e:i=n:=by omega
  subst e;exact .inl ⟨hst σ H p,hd σ H p⟩
structure Nx (prog:Program) (w:World) (A:Around) (it:Addr) (f:List Addr) (Sa Sb:Heap->Prop) (P:Value->Prop):Prop where
 fra:∀ h h',Sa h->(∀ b ∈ f,∀ o,h.get? b=some o->h'.get? b=some o)->Sa h'
 frb:∀ h h',Sb h->(∀ b ∈ f,∀ o,h.get? b=some o->h'.get? b=some o)->Sb h'
 step:∀ (s:Shared) (Q:Value->Shared->Prop) (E:Value->Shared->Prop),Sa s.heap->(∀ x h' tk,P x->Sb h'->Heap.SameBut it s.heap h'->Q x { s with heap:=h',toks:=tk })->wpAny (model prog w) A (Builtin.SmallTypes.nextOf (.ref it)) Q E s
structure Nd (prog:Program) (w:World) (A:Around) (it:Addr) (f:List Addr) (Sa:Heap->Prop):Prop where
 fra:∀ h h',Sa h->(∀ b ∈ f,∀ o,h.get? b=some o->h'.get? b=some o)->Sa h'
 step:∀ (s:Shared) (Q:Value->Shared->Prop) (E:Value->Shared->Prop),Sa s.heap->(∀ h' e,Heap.ExtBut it s.heap h'->(∃ o,h'.get? e=some o/\o.cls=.type "StopIteration")->E (.ref e) { s with heap:=h' })->wpAny (model prog w) A (Builtin.SmallTypes.nextOf (.ref it)) Q E s
structure ZAp (z TI TO i1 i2:Addr):Prop where
 TIz:TI≠z
 TOz:TO≠z
 i1z:i1≠z
 i2z:i2≠z
 TITO:TI≠TO
 TIi1:TI≠i1
 TIi2:TI≠i2
 TOi1:TO≠i1
 TOi2:TO≠i2
 i12:i1≠i2
section
variable {prog:Program} {w:World} {A:Around} {E:Value->Shared->Prop} {s:Shared}
theorem nC {z TI TO i1 i2:Addr} {f1 f2:List Addr} {Sa Sb Sc Sd:Heap->Prop} {P1 P2:Value->Prop} {a b:Value} {Q:Value->Shared->Prop} (D:ZAp z TI TO i1 i2)
  (n1:Nx prog w A i1 f1 Sa Sb P1) (n2:Nx prog w A i2 f2 Sc Sd P2) (hf1:∀ c ∈ f1,c≠z/\c≠TO/\c≠i2) (hf2:∀ c ∈ f2,c≠z/\c≠TO/\c≠i1)
  (hz:IsZip s.heap z TI TO .none) (hTI:IsPair s.heap TI (.ref i1) (.ref i2)) (hTO:IsPair s.heap TO a b) (h1:Sa s.heap) (h2:Sc s.heap)
  (hQ:∀ x y h' tk,P1 x->P2 y->IsZip h' z TI TO (rawInt s.heap.objs.size)->IsPair h' TO x y->Sb h'->Sd h'->IsPair h' s.heap.objs.size x y->h'.objs.size=s.heap.objs.size+1 ->
   (∀ c o,c≠z->c≠TO->c≠i1->c≠i2->s.heap.get? c=some o->h'.get? c=some o)->Q (.ref s.heap.objs.size) { s with heap:=h',toks:=tk }):
  wpAny (model prog w) A (Builtin.«zip.__next__» ⟨[.ref z],[]⟩) (fun fin s'=>∃ v,fin=.done (.ret v)/\Q v s') E s:=by
 obtain ⟨hp,gs,dr,k0,os⟩:=s;refine wpAny_bind (m:=slotArgs "__next__" 0 _) (wpAny_of_eq (a:=(Value.ref _,[])) rfl ?_);refine wpAny_bind (m:=field _ 2) (wpAny_field hz rfl (x:=Value.bool false) rfl (wpAny_bind (m:=field _ 3) (wpAny_field hz rfl (x:=Value.ref TI) rfl (wpAny_bind (m:=seqItems? _) (wpAny_seqItems hTI rfl ?_)))));refine wpAny_bind (m:=Builtin.SmallTypes.ownedTupleIsFree _) (wpAny_bind (wpAny_field hz rfl (x:=Value.none) rfl (wpAny_pure ?_)));refine wpAny_bind (wpAny_rule (wpAny_bind (wpAny_field hz rfl (x:=Value.ref TO) rfl (wpAny_bind (wpAny_setField_rec hz (by simp) fun g1 zg sg=>wpAny_bind ?_)))));simp only [List.zipIdx_cons,List.zipIdx_nil,List.forIn_cons,List.forIn_nil];have zg:IsZip g1 z TI TO .ellipsis:=zg;have sg:Heap.SameBut z hp g1:=sg;refine wpAny_bind (wpAny_bind (wpAny_onRaise (wpAny_bind (m:=Builtin.SmallTypes.nextOf (.ref i1)) (n1.step _ _ _ (n1.fra hp g1 h1 fun c hc o=>sg.extBut _ _ (hf1 c hc).1) fun x g2 k1 p1 b2 t2=>wpAny_pure ?_))));have t2:Heap.SameBut i1 g1 g2:=t2;have o2:IsPair g2 TO a b:=t2.extBut _ _ D.TOi1 (sg.extBut _ _ D.TOz hTO);refine wpAny_bind (wpAny_seqItems o2 rfl (wpAny_bind (wpAny_updateSeq_pair o2 fun g3 o3 t3=>wpAny_bind (wpAny_letGo (wpAny_pure ?_)))));have o3:IsPair g3 TO x b:=o3;have t3:Heap.SameBut TO g2 g3:=t3;have to3:∀ c o,c≠z->c≠TO->c≠i1->hp.get? c=some o->g3.get? c=some o:=fun c o e1 e2 e3 q=>t3.extBut _ _ e2 (t2.extBut _ _ e3 (sg.extBut _ _ e1 q))
 refine wpAny_bind (wpAny_bind (wpAny_onRaise (wpAny_bind (m:=Builtin.SmallTypes.nextOf (.ref i2)) (n2.step _ _ _ (n2.fra hp g3 h2 fun c hc o=>to3 c o (hf2 c hc).1 (hf2 c hc).2.1 (hf2 c hc).2.2) fun y g4 k2 p2 b4 t4=>wpAny_pure ?_))));have t4:Heap.SameBut i2 g3 g4:=t4;have o4:IsPair g4 TO x b:=t4.extBut _ _ D.TOi2 o3;refine wpAny_bind (wpAny_seqItems o4 rfl (wpAny_bind (wpAny_updateSeq_pair o4 fun g5 o5 t5=>wpAny_bind (wpAny_letGo (wpAny_pure (wpAny_pure ?_))))));have o5:IsPair g5 TO x y:=o5;have t5:Heap.SameBut TO g4 g5:=t5;have size5:g5.objs.size=hp.objs.size:=t5.1.trans (t4.1.trans (t3.1.trans (t2.1.trans sg.1)));have z5:IsZip g5 z TI TO .ellipsis:=t5.extBut _ _ D.TOz.symm (t4.extBut _ _ D.i2z.symm (t3.extBut _ _ D.TOz.symm (t2.extBut _ _ D.i1z.symm zg)));have zlt:z < g5.objs.size:=Heap.lt_size z5;refine wpAny_bind (wpAny_seqItems o5 rfl (wpAny_bind (wpAny_newTuple (wpAny_bind (m:=Builtin.SmallTypes.ownedTupleHandOut _ _) ?_))));refine wpAny_bind (wpAny_setField_rec (Heap.get?_push_of_some _ z5) (by simp) fun g6 z6 t6=>wpAny_setField_rec z6 (by simp) fun g7 z7 t7=>wpAny_pure ⟨_,rfl,?_⟩);have t6:Heap.SameBut z (g5.push { cls:=.type "tuple",data:=.seq #[x,y] }) g6:=t6;have t7:Heap.SameBut z g6 g7:=t7;have z7:IsZip g7 z TI TO (rawInt g5.objs.size):=z7;have over:∀ c o,c≠z->g5.get? c=some o->g7.get? c=some o:=fun c o e q=>t7.extBut _ _ e (t6.extBut _ _ e (Heap.get?_push_of_some _ q))
 have pair7:IsPair g7 g5.objs.size x y:=t7.extBut _ _ (Nat.ne_of_gt zlt) (t6.extBut _ _ (Nat.ne_of_gt zlt) (Heap.get?_push_size _ rfl));have size7:g7.objs.size=g5.objs.size+1:=t7.1.trans (t6.1.trans (Heap.size_push ..));show Q (.ref g5.objs.size) _;rw [size5] at z7 pair7 size7 ⊢;refine hQ x y g7 k2 p1 p2 z7 (over _ _ D.TOz o5) (n1.frb g2 g7 b2 fun c hc o q=>?_) (n2.frb g4 g7 b4 fun c hc o q=>?_) pair7 size7 fun c o e1 e2 e3 e4 q=>over c o e1 (t5.extBut _ _ e2 (t4.extBut _ _ e4 (to3 c o e1 e2 e3 q)))
 ·obtain ⟨e1,e2,e3⟩:=hf1 c hc;exact over c o e1 (t5.extBut _ _ e2 (t4.extBut _ _ e3 (t3.extBut _ _ e2 q)))
 ·obtain ⟨e1,e2,_⟩:=hf2 c hc;exact over c o e1 (t5.extBut _ _ e2 q)
theorem oF {z TI TO i1 i2:Addr} {f1:List Addr} {Sa:Heap->Prop} {Q:Fin->Shared->Prop} (D:ZAp z TI TO i1 i2)
  (n1:Nd prog w A i1 f1 Sa) (hf1:∀ c ∈ f1,c≠z/\c≠TO/\c≠i2)
  (hz:IsZip s.heap z TI TO .none) (hTI:IsPair s.heap TI (.ref i1) (.ref i2)) (h1:Sa s.heap)
  (hE:∀ h' e tk,(∀ c o,c≠z->c≠TO->c≠i1->c≠i2->s.heap.get? c=some o->h'.get? c=some o)->(∃ o,h'.get? e=some o/\o.cls=.type "StopIteration")->E (.ref e) { s with heap:=h',toks:=tk }):
  wpAny (model prog w) A (Builtin.«zip.__next__» ⟨[.ref z],[]⟩) Q E s:=by
 obtain ⟨hp,gs,dr,k0,os⟩:=s;refine wpAny_bind (m:=slotArgs "__next__" 0 _) (wpAny_of_eq (a:=(Value.ref _,[])) rfl ?_);refine wpAny_bind (m:=field _ 2) (wpAny_field hz rfl (x:=Value.bool false) rfl (wpAny_bind (m:=field _ 3) (wpAny_field hz rfl (x:=Value.ref TI) rfl (wpAny_bind (m:=seqItems? _) (wpAny_seqItems hTI rfl ?_)))));refine wpAny_bind (m:=Builtin.SmallTypes.ownedTupleIsFree _) (wpAny_bind (wpAny_field hz rfl (x:=Value.none) rfl (wpAny_pure ?_)));refine wpAny_bind (wpAny_rule (wpAny_bind (wpAny_field hz rfl (x:=Value.ref TO) rfl (wpAny_bind (wpAny_setField_rec hz (by simp) fun g1 zg sg=>wpAny_bind ?_)))));simp only [List.zipIdx_cons,List.zipIdx_nil,List.forIn_cons,List.forIn_nil];have zg:IsZip g1 z TI TO .ellipsis:=zg;have sg:Heap.SameBut z hp g1:=sg;refine wpAny_bind (wpAny_bind (wpAny_onRaise (wpAny_bind (m:=Builtin.SmallTypes.nextOf (.ref i1)) (n1.step _ _ _ (n1.fra hp g1 h1 fun c hc o=>sg.extBut _ _ (hf1 c hc).1) fun g2 e t2 ⟨oe,qe,ce⟩=>?_))));have t2:Heap.ExtBut i1 g1 g2:=t2;have z2:IsZip g2 z TI TO .ellipsis:=t2 _ _ D.i1z.symm zg;have ne:e≠z:=fun q=>by subst q; rw [z2] at qe; cases qe; simp at ce
 refine wpAny_setField_rec z2 (by simp) fun g3 _ t3=>?_
 have t3:Heap.SameBut z g2 g3:=t3;exact hE g3 e k0 (fun c o e1 _ e3 _ q=>t3.extBut _ _ e1 (t2 _ _ e3 (sg.extBut _ _ e1 q))) ⟨oe,t3.extBut _ _ ne qe,ce⟩
theorem oB {z TI TO i1 i2:Addr} {f1 f2:List Addr} {Sa Sb Sc:Heap->Prop} {P1:Value->Prop} {a b:Value} {Q:Fin->Shared->Prop} (D:ZAp z TI TO i1 i2)
  (n1:Nx prog w A i1 f1 Sa Sb P1) (n2:Nd prog w A i2 f2 Sc) (hf1:∀ c ∈ f1,c≠z/\c≠TO/\c≠i2) (hf2:∀ c ∈ f2,c≠z/\c≠TO/\c≠i1)
  (hz:IsZip s.heap z TI TO .none) (hTI:IsPair s.heap TI (.ref i1) (.ref i2)) (hTO:IsPair s.heap TO a b) (h1:Sa s.heap) (h2:Sc s.heap)
  (hE:∀ h' e tk,(∀ c o,c≠z->c≠TO->c≠i1->c≠i2->s.heap.get? c=some o->h'.get? c=some o)->(∃ o,h'.get? e=some o/\o.cls=.type "StopIteration")->E (.ref e) { s with heap:=h',toks:=tk }):
  wpAny (model prog w) A (Builtin.«zip.__next__» ⟨[.ref z],[]⟩) Q E s:=by
 obtain ⟨hp,gs,dr,k0,os⟩:=s;refine wpAny_bind (m:=slotArgs "__next__" 0 _) (wpAny_of_eq (a:=(Value.ref _,[])) rfl ?_);refine wpAny_bind (m:=field _ 2) (wpAny_field hz rfl (x:=Value.bool false) rfl (wpAny_bind (m:=field _ 3) (wpAny_field hz rfl (x:=Value.ref TI) rfl (wpAny_bind (m:=seqItems? _) (wpAny_seqItems hTI rfl ?_)))));refine wpAny_bind (m:=Builtin.SmallTypes.ownedTupleIsFree _) (wpAny_bind (wpAny_field hz rfl (x:=Value.none) rfl (wpAny_pure ?_)));refine wpAny_bind (wpAny_rule (wpAny_bind (wpAny_field hz rfl (x:=Value.ref TO) rfl (wpAny_bind (wpAny_setField_rec hz (by simp) fun g1 zg sg=>wpAny_bind ?_)))));simp only [List.zipIdx_cons,List.zipIdx_nil,List.forIn_cons,List.forIn_nil];have zg:IsZip g1 z TI TO .ellipsis:=zg;have sg:Heap.SameBut z hp g1:=sg;refine wpAny_bind (wpAny_bind (wpAny_onRaise (wpAny_bind (m:=Builtin.SmallTypes.nextOf (.ref i1)) (n1.step _ _ _ (n1.fra hp g1 h1 fun c hc o=>sg.extBut _ _ (hf1 c hc).1) fun x g2 k1 p1 b2 t2=>wpAny_pure ?_))));have t2:Heap.SameBut i1 g1 g2:=t2;have o2:IsPair g2 TO a b:=t2.extBut _ _ D.TOi1 (sg.extBut _ _ D.TOz hTO);refine wpAny_bind (wpAny_seqItems o2 rfl (wpAny_bind (wpAny_updateSeq_pair o2 fun g3 _ t3=>wpAny_bind (wpAny_letGo (wpAny_pure ?_)))));have t3:Heap.SameBut TO g2 g3:=t3;have to3:∀ c o,c≠z->c≠TO->c≠i1->hp.get? c=some o->g3.get? c=some o:=fun c o e1 e2 e3 q=>t3.extBut _ _ e2 (t2.extBut _ _ e3 (sg.extBut _ _ e1 q))
 refine wpAny_bind (wpAny_bind (wpAny_onRaise (wpAny_bind (m:=Builtin.SmallTypes.nextOf (.ref i2)) (n2.step _ _ _ (n2.fra hp g3 h2 fun c hc o=>to3 c o (hf2 c hc).1 (hf2 c hc).2.1 (hf2 c hc).2.2) fun g4 e t4 ⟨oe,qe,ce⟩=>?_))));have t4:Heap.ExtBut i2 g3 g4:=t4;have z4:IsZip g4 z TI TO .ellipsis:=t4 _ _ D.i2z.symm (t3.extBut _ _ D.TOz.symm (t2.extBut _ _ D.i1z.symm zg));have ne:e≠z:=fun q=>by subst q; rw [z4] at qe; cases qe; simp at ce
 refine wpAny_setField_rec z4 (by simp) fun g5 _ t5=>?_
 have t5:Heap.SameBut z g4 g5:=t5;exact hE g5 e k1 (fun c o e1 e2 e3 e4 q=>t5.extBut _ _ e1 (t4 _ _ e4 (to3 c o e1 e2 e3 q))) ⟨oe,t5.extBut _ _ ne qe,ce⟩
theorem lW {z:Addr} {o:Obj} {Q:Option Value->Shared->Prop} (hz:s.heap.get? z=some o) (hc:o.cls=.type "zip")
  (h:wpAny (model prog w) A.in1 (Builtin.«zip.__next__» ⟨[.ref z],[]⟩) (fun fin s'=>∃ v,fin=.done (.ret v)/\Q (some v) s') (fun _ _=>False) s):wpAny (model prog w) A (pyNext (.ref z)) Q E s:=by
 have hT:s.TypeIs (.ref z) "zip" := ⟨_,hz,hc⟩;unfold pyNext;exact wpAny_bind (wpAny_attempt (wpAny_callSpecial?_slot (name:=Str.ofString "__next__") hT F.slot_zip_next
  (wpAny_call_entry F.slot_zip_next hT F.entry_zip_next (wpAny_mono h (fun fin s' ⟨v,e,q⟩=>⟨v,e,wpAny_pure q⟩) fun _ _ f=>f.elim) (F.args_zip_next_1 _))))
theorem iA {z:Addr} {o:Obj} {Q:Option Value->Shared->Prop} (hz:s.heap.get? z=some o) (hc:o.cls=.type "zip")
  (h:wpAny (model prog w) A.in1 (Builtin.«zip.__next__» ⟨[.ref z],[]⟩) (fun _ _=>False) (fun e s'=>∃ a,e=.ref a/\(∃ o,s'.heap.get? a=some o/\o.cls=.type "StopIteration")/\Q none s') s):wpAny (model prog w) A (pyNext (.ref z)) Q E s:=by
 have hT:s.TypeIs (.ref z) "zip" := ⟨_,hz,hc⟩;unfold pyNext;refine wpAny_bind (wpAny_attempt (wpAny_callSpecial?_slot (name:=Str.ofString "__next__") hT F.slot_zip_next
  (wpAny_call_entry F.slot_zip_next hT F.entry_zip_next (wpAny_mono h (fun _ _ f=>f.elim) fun e s' he=>?_) (F.args_zip_next_1 _))))
 obtain ⟨a,rfl,⟨o,ho,hc⟩,q⟩:=he;refine wpAny_bind (wpAny_isInstance (T := "StopIteration") (b:=true) ⟨o,ho,hc⟩ isSubtype_stop ?_);exact wpAny_pure q
end
inductive Src where
 | str (x:Str) | lst (a:Addr)
noncomputable def SrcGo (K:Frag) (H:Hp):Src->Nat->Prop
 | .str x,i=>i < x.cps.size
 | .lst a,i=>∃ xs v,SqL K H a xs/\xs[i]? = some v
noncomputable def SrcAt (K:Frag) (H:Hp):Src->Nat->V->Prop
 | .str x,i,v=>∃ c,x.cps[i]? = some c/\v=.str ⟨#[c]⟩
 | .lst a,i,v=>∀ xs,SqL K H a xs->xs[i]? = some v
noncomputable def SrcEnd (K:Frag) (H:Hp):Src->Nat->Prop
 | .str x,i=>x.cps.size<=i
 | .lst a,i=>∃ xs,SqL K H a xs/\xs.length<=i
noncomputable def SrcIt (h:Heap):Src->Addr->Nat->Prop
 | .str x,it,i=>∃ t,h.IsStrIter it (strIterType x) x t i
 | .lst a,it,i=>h.IsListIter it a i
noncomputable def SrcOf (K:Frag) (H:Hp):Src->V->Prop
 | .str x,v=>v=.str x
 | .lst a,v=>v=.ref a/\∃ xs,SqL K H a xs
theorem SrcIt.obj {h:Heap} {S:Src} {it:Addr} {i:Nat} (st:SrcIt h S it i):∃ o,h.get? it=some o/\(∀ v,o.data≠.cell v)/\o.cls≠.type "list" /\ o.cls≠.type "zip" /\ o.cls≠.type "tuple" := by
 cases S with
 | str x=>
  obtain ⟨t,o,e,c,d⟩:=st;refine ⟨o,e,(fun v z=>by rw [d] at z; cases z),?_⟩;rw [c];rcases bA x with q | q <;> rw [q] <;> decide
 | lst a=>
  obtain ⟨o,e,c,d⟩:=(show h.IsListIter it a i from st);refine ⟨o,e,(fun v z=>by rw [d] at z; cases z),?_⟩;rw [c];decide
theorem SrcIt.keep {h h':Heap} {S:Src} {it:Addr} {i:Nat} (st:SrcIt h S it i) (k:∀ o,h.get? it=some o->h'.get? it=some o):SrcIt h' S it i:=by
 cases S with
 | str x=>
  obtain ⟨t,o,e,r⟩:=st;exact ⟨t,o,k o e,r⟩
 | lst a=>exact Heap.IsListIter.at (show h.IsListIter it a i from st) k
section
variable {X:Cx} {pins:List (Addr × Obj)} {σ:St} {H:Hp} {s:Shared} {A:Around}
theorem tK (I:Inv X pins σ H s) (S:Src) {it:Addr} {i:Nat} (st:SrcIt s.heap S it i) (go:SrcGo X.K H S i):
  ∃ (f:List Addr) (Sa Sb:Heap->Prop) (P:Value->Prop),Nx X.prog X.w A it f Sa Sb P/\Sa s.heap/\(∀ c ∈ f,c=it\/∃ o,s.heap.get? c=some o/\o.cls=.type "list")/\(∀ h,Sb h->SrcIt h S it (i+1))/\∀ v,P v->∃ x,RelV x v/\SrcAt X.K H S i x:=by
 cases S with
 | str x=>
  obtain ⟨t,st⟩:=st;have hi:i < x.cps.size:=go;refine ⟨[it],fun h=>h.IsStrIter it (strIterType x) x t i,fun h=>h.IsStrIter it (strIterType x) x t (i+1),fun v=>∃ u,v=.str ⟨#[x.cps[i]]⟩ u,⟨?_,?_,?_⟩,st,fun c hc=>.inl (by simpa using hc),fun h q=>⟨t,q⟩,?_⟩
  ·rintro h h' ⟨o,e,r⟩ k;exact ⟨o,k it (by simp) o e,r⟩
  ·rintro h h' ⟨o,e,r⟩ k;exact ⟨o,k it (by simp) o e,r⟩
  ·intro s Q E st hQ;exact lO st (c:=x.cps[i]) (by simp [hi]) fun h' st' sb=>hQ _ h' _ ⟨_,rfl⟩ st' sb
  ·rintro v ⟨u,rfl⟩;exact ⟨.str ⟨#[x.cps[i]]⟩,⟨u,rfl⟩,_,by simp [hi],rfl⟩
 | lst a=>
  obtain ⟨xs,v,hq,hv⟩:=go;obtain ⟨its,rv,pl,hz⟩:=I.list hq;obtain ⟨u,hu,ru⟩:=rv.get hv;have st':s.heap.IsListIter it a i:=st;obtain ⟨o,e,c,n,hd⟩:=id pl.isList;have hne:a≠it:=by
   rintro rfl;obtain ⟨o',e',c',_⟩:=st';rw [e] at e';cases e';rw [c] at c';exact absurd c' (by decide)
  refine ⟨[it,a],fun h=>h.IsListIter it a i/\h.IsList a its.toArray,fun h=>h.IsListIter it a (i+1)/\h.IsList a its.toArray,fun z=>z=u,⟨?_,?_,?_⟩,⟨st',pl.isList⟩,?_,fun h q=>q.1,?_⟩
  ·rintro h h' ⟨s1,s2⟩ k;exact ⟨s1.at fun o e=>k it (by simp) o e,s2.at fun o e=>k a (by simp) o e⟩
  ·rintro h h' ⟨s1,s2⟩ k;exact ⟨s1.at fun o e=>k it (by simp) o e,s2.at fun o e=>k a (by simp) o e⟩
  ·intro s Q E st hQ;exact wpAny_nextOf_list_item st.1 st.2 (x:=u) (by simpa using hu) fun h' st' sb=>hQ _ h' s.toks rfl ⟨st',st.2.extBut sb.extBut hne⟩ sb
  ·intro c' hc;rcases (by simpa using hc:c'=it\/c'=a) with z | z
   ·exact .inl z
   ·subst z;exact .inr ⟨o,e,c⟩
  ·rintro z rfl;exact ⟨v,ru,fun ys hy=>by rw [I.list_inj hy hq]; exact hv⟩
theorem x6 (I:Inv X pins σ H s) (hh:A.handled=none) (S:Src) {it:Addr} {i:Nat} (st:SrcIt s.heap S it i) (en:SrcEnd X.K H S i):
  ∃ (f:List Addr) (Sa:Heap->Prop),Nd X.prog X.w A it f Sa/\Sa s.heap/\(∀ c ∈ f,c=it\/∃ o,s.heap.get? c=some o/\o.cls=.type "list"):=by
 cases S with
 | str x=>
  obtain ⟨t,st⟩:=st;have hi:x.cps.size<=i:=en;refine ⟨[it],fun h=>h.IsStrIter it (strIterType x) x t i,⟨?_,?_⟩,st,fun c hc=>.inl (by simpa using hc)⟩
  ·rintro h h' ⟨o,e,r⟩ k;exact ⟨o,k it (by simp) o e,r⟩
  ·intro s Q E st hE;exact mE hh st (by simp [hi]) hE
 | lst a=>
  obtain ⟨xs,hq,hv⟩:=en;obtain ⟨its,rv,pl,hz⟩:=I.list hq;have st':s.heap.IsListIter it a i:=st;obtain ⟨o,e,c,n,hd⟩:=id pl.isList;have hl:=rv.length;refine ⟨[it,a],fun h=>h.IsListIter it a i/\h.IsList a its.toArray,⟨?_,?_⟩,⟨st',pl.isList⟩,?_⟩
  ·rintro h h' ⟨s1,s2⟩ k;exact ⟨s1.at fun o e=>k it (by simp) o e,s2.at fun o e=>k a (by simp) o e⟩
  ·intro s Q E st hE;exact wpAny_nextOf_list_end hh st.1 st.2 (by simp; lia) hE
  ·intro c' hc;rcases (by simpa using hc:c'=it\/c'=a) with z | z
   ·exact .inl z
   ·subst z;exact .inr ⟨o,e,c⟩
theorem Inv.turnedLaid {t':Nat} {its:List Addr} {h':Heap} {a:Addr} {o:HO} (I:Inv X pins σ H s) (k:∀ b ob,b ∉ its->s.heap.get? b=some ob->h'.get? b=some ob) (hf:∀ b ∈ its,FpOk X pins H b) (hp:s.heap.objs.size<=a)
  (new:ObjOk X.prog X.w (upd H a o) h' a o) (ht:0 < t':=by first | assumption | exact Nat.succ_pos _ | (apply Inv.tk; assumption) | lia):Inv X pins σ (upd H a o) { s with heap:=h',toks:=t' }:=by
 have hn:H a=none:=I.hok.fresh hp;have nit:∀ b u,H b=some u->b ∉ its:=fun b u e z=>by
  have q:=(hf b z).1;rw [q] at e;cases e
 have nea:∀ b ob,s.heap.get? b=some ob->b≠a:=fun b ob e=>Nat.ne_of_lt (Nat.lt_of_lt_of_le (Heap.lt_size e) hp)
 refine I.step (g':=s.gens) (d':=s.drawn) (ch:=its) (fun b hb=>?_) (fun b o _ _ hc e _=>k b o hc e) (fun b o _ _ hc e _=>⟨o.slots,k b o hc e⟩) (fun b ob _ e n=>by rw [ao (nea b ob e)]; exact n)
  (fun b o hc e=>⟨o,k b o hc e⟩) (fun _ _ e=>by rw [ao (aX e hn)]; exact e) (fun _ _ _ e=>by rw [ao (aX e hn)]; exact e) (fun b ps e=>⟨#[],by rw [ao (aX e hn),e]; simp⟩) (fun m hm=>?_) (fun b u e=>?_) I.bare
 ·obtain ⟨f0,f1,f2,f3,f4,f5⟩:=hf b hb;exact ⟨f3,f1,f4,f5⟩
 ·obtain ⟨o,es,ep,ho,r⟩:=hm;exact ⟨o,es,ep,k _ o (fun z=>(hf _ z).2.1 rfl) ho,r⟩
 ·by_cases hb:b=a
  ·subst hb;rw [upd_same] at e;cases e;exact new
  ·rw [ao hb] at e;refine (I.hok b u e).stay (fun c v hc q=>k c v ?_ q) (fun c q=>by rw [ao (aX q hn)]; exact q) fun c xs q=>by rw [ao (aX q hn)]; exact q
   rcases hc with z | z
   ·rw [z]; exact nit b u e
   ·exact nit c _ z
end
noncomputable def Itz (K:Frag) (S1 S2:Src):It:=⟨fun i H=>SrcGo K H S1 i/\SrcGo K H S2 i,fun i H v H'=>∃ T x y,v=.ref T/\H T=none/\H'=upd H T (.tup [x,y])/\SrcAt K H S1 i x/\SrcAt K H S2 i y,
 fun i H=>SrcEnd K H S1 i\/(SrcGo K H S1 i/\SrcEnd K H S2 i)⟩
def ZipSt (z TI TO i1 i2:Addr) (S1 S2:Src) (i:Nat) (h:Heap):Prop:=∃ a b,IsZip h z TI TO .none/\IsPair h TI (.ref i1) (.ref i2)/\IsPair h TO a b/\SrcIt h S1 i1 i/\SrcIt h S2 i2 i
theorem mq {h:Heap} {f:List Addr} {z TI TO i1 i2:Addr} {a b:Value} {S2:Src} {k:Nat} (hz:IsZip h z TI TO .none) (hTO:IsPair h TO a b) (h2:SrcIt h S2 i2 k) (n1:i1≠z) (n2:i1≠TO) (n3:i1≠i2)
  (m:∀ c ∈ f,c=i1\/∃ o,h.get? c=some o/\o.cls=.type "list"):∀ c ∈ f,c≠z/\c≠TO/\c≠i2:=fun c hc=>by
 rcases m c hc with e | ⟨o,e,c1⟩
 ·subst e;exact ⟨n1,n2,n3⟩
 ·refine ⟨?_,?_,?_⟩
  ·rintro rfl;rw [hz] at e;cases e;exact absurd (show Value.type "zip" = Value.type "list" from c1) (by decide)
  ·rintro rfl;rw [hTO] at e;cases e;exact absurd (show Value.type "tuple" = Value.type "list" from c1) (by decide)
  ·rintro rfl;obtain ⟨o',e',_,q,_⟩:=h2.obj;rw [e] at e';cases e';exact q c1
theorem xu {P:Program} {w:World} {K:Frag} {elts:List Expr} {kk:Nat} {pos:Pos} {z TI TO i1 i2:Addr} (D:ZAp z TI TO i1 i2) (S1 S2:Src):
  Turn P w K (.Tuple elts kk pos) (Itz K S1 S2) [z,TI,TO,i1,i2] z (ZipSt z TI TO i1 i2 S1 S2) where
 mem:=by simp
 obj:=fun i h st b hb=>by
  obtain ⟨a,c,hz,hTI,hTO,h1,h2⟩:=st;simp only [List.mem_cons,List.not_mem_nil,or_false] at hb;rcases hb with rfl | rfl | rfl | rfl | rfl
  ·exact ⟨_,hz,fun v q=>by have q':Data.fields _=Data.cell v:=q; cases q'⟩
  ·exact ⟨_,hTI,fun v q=>by have q':Data.seq _ _=Data.cell v:=q; cases q'⟩
  ·exact ⟨_,hTO,fun v q=>by have q':Data.seq _ _=Data.cell v:=q; cases q'⟩
  ·obtain ⟨o,e,q,_⟩:=h1.obj;exact ⟨o,e,q⟩
  ·obtain ⟨o,e,q,_⟩:=h2.obj;exact ⟨o,e,q⟩
 keep:=fun i h h' st k=>by
  obtain ⟨a,c,hz,hTI,hTO,h1,h2⟩:=st;exact ⟨a,c,k z (by simp) _ hz,k TI (by simp) _ hTI,k TO (by simp) _ hTO,h1.keep fun o e=>k i1 (by simp) o e,h2.keep fun o e=>k i2 (by simp) o e⟩
 item:=by
  intro X hP hw hK hc i pins s σ H E I hf st hg;subst hP hw hK;obtain ⟨a,b,hz,hTI,hTO,h1,h2⟩:=st;obtain ⟨g1,g2⟩:=hg;obtain ⟨f1,Sa,Sb,P1,n1,a1,m1,b1,r1⟩:=tK (A:=X.A.in1) I S1 h1 g1;obtain ⟨f2,Sc,Sd,P2,n2,a2,m2,b2,r2⟩:=tK (A:=X.A.in1) I S2 h2 g2;refine tokQ I.tk (lW hz rfl (nC D n1 n2 (mq hz hTO h2 D.i1z D.TOi1.symm D.i12 m1) (mq hz hTO h1 D.i2z D.TOi2.symm D.i12.symm m2) hz hTI hTO a1 a2 fun x y h' tk p1 p2 z1 z2 q1 q2 z3 z4 kp (htk:0 < tk)=>?_));obtain ⟨vx,rx,ax⟩:=r1 x p1;obtain ⟨vy,ry,ay⟩:=r2 y p2;have fresh:H s.heap.objs.size=none:=I.hok.fresh (Nat.le_refl _);have off:∀ {c o},s.heap.get? c=some o->c≠s.heap.objs.size:=fun e=>Nat.ne_of_lt (Heap.lt_size e)
  refine ⟨_,rfl,wpAny_letOwnedTupleGo_zip z1 fun h'' z1' sb=>?_⟩
  replace sb:Heap.SameBut z h' h'':=sb
  have hT:IsPair h'' s.heap.objs.size x y:=sb.extBut _ _ (Ne.symm (off hz)) z3;have I1:Inv X pins σ (upd H s.heap.objs.size (.tup [vx,vy])) { s with heap:=h'',toks:=tk }:=by
   refine I.turnedLaid (its:=[z,TO,i1,i2]) (fun c o hc' e=>?_) (fun c hc'=>hf c ?_) (Nat.le_refl _) ?_
   ·simp only [List.mem_cons,List.not_mem_nil,or_false,not_or] at hc';exact sb.extBut _ _ hc'.1 (kp c o hc'.1 hc'.2.1 hc'.2.2.1 hc'.2.2.2 e)
   ·simp only [List.mem_cons,List.not_mem_nil,or_false] at hc' ⊢;rcases hc' with q | q | q | q
    ·exact .inl q
    ·exact .inr (.inr (.inl q))
    ·exact .inr (.inr (.inr (.inl q)))
    ·exact .inr (.inr (.inr (.inr q)))
   ·exact ⟨by show 2<=sizeLine; decide,[x,y],.cons rx (.cons ry .nil),_,hT,rfl,_,rfl⟩
  refine ⟨.ref s.heap.objs.size,_,I1,rfl,⟨_,vx,vy,rfl,fresh,rfl,ax,ay⟩,⟨x,y,z1',?_,?_,?_,?_⟩,fun c hc'=>?_⟩
  ·exact sb.extBut _ _ D.TIz (kp _ _ D.TIz D.TITO D.TIi1 D.TIi2 hTI)
  ·exact sb.extBut _ _ D.TOz z2
  ·exact (b1 h' q1).keep fun o e=>sb.extBut _ _ D.i1z e
  ·exact (b2 h' q2).keep fun o e=>sb.extBut _ _ D.i2z e
  ·have ne:c≠s.heap.objs.size:=by
    simp only [List.mem_cons,List.not_mem_nil,or_false] at hc';rcases hc' with rfl | rfl | rfl | rfl | rfl
    ·exact off hz
    ·exact off hTI
    ·exact off hTO
    ·obtain ⟨o,e,_⟩:=h1.obj;exact off e
    ·obtain ⟨o,e,_⟩:=h2.obj;exact off e
   rw [ao ne];exact (hf c hc').1
 done:=by
  intro X hP hw hK hc i pins s σ H E I hf st hg;subst hP hw hK;obtain ⟨a,b,hz,hTI,hTO,h1,h2⟩:=st;have hh:X.A.in1.handled=none:=I.ok.hd hc;have fin:∀ (h':Heap) (tk:Nat),0 < tk->(∀ c o,c≠z->c≠TO->c≠i1->c≠i2->s.heap.get? c=some o->h'.get? c=some o)->Inv X pins σ H { s with heap:=h',toks:=tk }:=fun h' tk htk kp=>
   I.turnedL (its:=[z,TO,i1,i2]) (fun c o hc' e=>by
    simp only [List.mem_cons,List.not_mem_nil,or_false,not_or] at hc';exact kp c o hc'.1 hc'.2.1 hc'.2.2.1 hc'.2.2.2 e) (fun c hc'=>hf c (by
    simp only [List.mem_cons,List.not_mem_nil,or_false] at hc' ⊢;rcases hc' with q | q | q | q
    ·exact .inl q
    ·exact .inr (.inr (.inl q))
    ·exact .inr (.inr (.inr (.inl q)))
    ·exact .inr (.inr (.inr (.inr q)))))
  rcases hg with e1 | ⟨g1,e2⟩
  ·obtain ⟨f1,Sa,n1,a1,m1⟩:=x6 I hh S1 h1 e1;exact tokQ I.tk (iA hz rfl (oF D n1 (mq hz hTO h2 D.i1z D.TOi1.symm D.i12 m1) hz hTI a1 fun h' e tk kp he=>⟨e,rfl,he,fun htk=>⟨rfl,fin h' tk htk kp⟩⟩))
  ·obtain ⟨f1,Sa,Sb,P1,n1,a1,m1,b1,r1⟩:=tK (A:=X.A.in1) I S1 h1 g1;obtain ⟨f2,Sc,n2,a2,m2⟩:=x6 I hh S2 h2 e2;exact tokQ I.tk (iA hz rfl (oB D n1 n2 (mq hz hTO h2 D.i1z D.TOi1.symm D.i12 m1) (mq hz hTO h1 D.i2z D.TOi2.symm D.i12.symm m2) hz hTI hTO a1 a2 fun h' e tk kp he=>⟨e,rfl,he,fun htk=>⟨rfl,fin h' tk htk kp⟩⟩))
 self:=fun _ _ _ _ _ st h=>by
  obtain ⟨a,b,hz,_⟩:=st;exact wpAny_pyIter_zip hz h
noncomputable def srcVal:Src->Tok->Value
 | .str x,t=>.str x t
 | .lst a,_=>.ref a
noncomputable def srcObj:Src->Tok->Obj
 | .str x,t=>{ cls:=.type (strIterType x),data:=.fields #[.str x t,.int 0 0] }
 | .lst a,_=>{ cls:=.type "list_iterator",data:=.fields #[.ref a,.int 0 0] }
noncomputable def srcOk (h:Heap):Src->Prop
 | .str _=>True
 | .lst a=>∃ its,h.IsList a its
theorem srcOk.push {h:Heap} {S:Src} (ok:srcOk h S) (o:Obj):srcOk (h.push o) S:=by
 cases S with
 | str x=>trivial
 | lst a=>
  obtain ⟨its,q⟩:=ok;exact ⟨its,Heap.IsList.push q _⟩
theorem j0 (S:Src) (t:Tok):(srcObj S t).isFreed=false:=by cases S <;> rfl
theorem pz {h:Heap} {S:Src} {t:Tok} {it:Addr} (e:h.get? it=some (srcObj S t)):SrcIt h S it 0:=by
 cases S with
 | str x=>exact ⟨t,_,e,rfl,rfl⟩
 | lst a=>exact ⟨_,e,rfl,rfl⟩
section
variable {prog:Program} {w:World} {A:Around} {E:Value->Shared->Prop} {s:Shared}
theorem nE {S:Src} {t:Tok} {Q:Value->Shared->Prop} (ok:srcOk s.heap S) (hQ:Q (.ref s.heap.objs.size) { s with heap:=s.heap.push (srcObj S t) }):wpAny (model prog w) A (pyIter (srcVal S t)) Q E s:=by
 cases S with
 | str x=>exact wpAny_pyIter_strU hQ
 | lst a=>
  obtain ⟨its,q⟩:=ok;exact wpAny_pyIter_list q hQ
end
noncomputable abbrev zH1 (h:Heap) (S1:Src) (t1:Tok):Heap:=h.push (srcObj S1 t1)
noncomputable abbrev zH2 (h:Heap) (S1 S2:Src) (t1 t2:Tok):Heap:=(zH1 h S1 t1).push (srcObj S2 t2)
noncomputable abbrev zH3 (h:Heap) (S1 S2:Src) (t1 t2:Tok):Heap:=(zH2 h S1 S2 t1 t2).push { cls:=.type "tuple",data:=.seq #[.ref h.objs.size,.ref (zH1 h S1 t1).objs.size] }
noncomputable abbrev zH4 (h:Heap) (S1 S2:Src) (t1 t2:Tok):Heap:=(zH3 h S1 S2 t1 t2).push { cls:=.type "tuple",data:=.seq #[.none,.none] }
noncomputable abbrev zH5 (h:Heap) (S1 S2:Src) (t1 t2:Tok):Heap:=(zH4 h S1 S2 t1 t2).push { cls:=.type "zip",data:=.fields #[.none,.bool false,.bool false,.ref (zH2 h S1 S2 t1 t2).objs.size,.ref (zH3 h S1 S2 t1 t2).objs.size] }
theorem nH (S1 S2:Src) (t1 t2:Tok):
  Meets (Builtin.«zip.__new__» ⟨[.type "zip",srcVal S1 t1,srcVal S2 t2],[]⟩) (fun _ R s=>srcOk s.heap S1/\srcOk s.heap S2 /\
   R (.ok (.ret (.ref (zH4 s.heap S1 S2 t1 t2).objs.size))) { s with heap:=zH5 s.heap S1 S2 t1 t2 }):=
 .of_wp fun prog w A R s h=>by
  obtain ⟨hp,g,d,tk,os⟩:=s; obtain ⟨hl1,hl2,h⟩:=h;have hsub:=sub_zip;have hL1:srcOk (Shared.heap ⟨hp,g,d,tk,os⟩) S1:=hl1;have hL2:srcOk (Shared.heap ⟨hp.push (srcObj S1 t1),g,d,tk,os⟩) S2:=hl2.push _
  wp_walk using nE hL1,nE hL2
  exact ⟨_,rfl,h⟩
section
variable {prog:Program} {w:World} {A:Around} {E:Value->Shared->Prop} {s:Shared}
theorem v3 {S1 S2:Src} {t1 t2:Tok} {Q:Value->Shared->Prop} (hl1:srcOk s.heap S1) (hl2:srcOk s.heap S2)
  (h:∀ h',ZipSt (s.heap.objs.size+4) (s.heap.objs.size+2) (s.heap.objs.size+3) s.heap.objs.size (s.heap.objs.size+1) S1 S2 0 h'->(∀ c o,s.heap.get? c=some o->h'.get? c=some o)->Q (.ref (s.heap.objs.size+4)) { s with heap:=h' }):
  wpAny (model prog w) A (call (.type "zip") [srcVal S1 t1,srcVal S2 t2]) Q E s:=by
 refine callType_new F.called_zip (by decide) (F.typeCall_zip_2 _ _) (F.newCall_zip_2 _ _) (fun obj=>F.args_object_init_3 obj _ _) F.entry_zip_new
  (nH S1 S2 t1 t2) ⟨hl1,hl2,?_⟩
 have z1:(zH1 s.heap S1 t1).objs.size=s.heap.objs.size+1:=Heap.size_push ..;have z2:(zH2 s.heap S1 S2 t1 t2).objs.size=s.heap.objs.size+2:=by rw [Heap.size_push,z1]
 have z3:(zH3 s.heap S1 S2 t1 t2).objs.size=s.heap.objs.size+3:=by rw [Heap.size_push,z2]
 have z4:(zH4 s.heap S1 S2 t1 t2).objs.size=s.heap.objs.size+4:=by rw [Heap.size_push,z3]
 have g5:(zH5 s.heap S1 S2 t1 t2).get? (zH4 s.heap S1 S2 t1 t2).objs.size=some _:=Heap.get?_push_size _ rfl;have g4:(zH5 s.heap S1 S2 t1 t2).get? (zH3 s.heap S1 S2 t1 t2).objs.size=some _:=Heap.get?_push_of_some _ (Heap.get?_push_size _ rfl);have g3:(zH5 s.heap S1 S2 t1 t2).get? (zH2 s.heap S1 S2 t1 t2).objs.size=some _:=Heap.get?_push_of_some _ (Heap.get?_push_of_some _ (Heap.get?_push_size _ rfl));have g2:(zH5 s.heap S1 S2 t1 t2).get? (zH1 s.heap S1 t1).objs.size=some (srcObj S2 t2):=Heap.get?_push_of_some _ (Heap.get?_push_of_some _ (Heap.get?_push_of_some _ (Heap.get?_push_size _ (j0 _ _))));have g1:(zH5 s.heap S1 S2 t1 t2).get? s.heap.objs.size=some (srcObj S1 t1):=Heap.get?_push_of_some _ (Heap.get?_push_of_some _ (Heap.get?_push_of_some _ (Heap.get?_push_of_some _ (Heap.get?_push_size _ (j0 _ _)))));show _/\_;rw [z2,z3,z4] at g5;rw [z1,z2] at g3;rw [z3] at g4;rw [z1] at g2;rw [z4];exact ⟨⟨_,g5,rfl⟩,h _ ⟨_,_,g5,g3,g4,pz g1,pz g2⟩ fun c o x=>
  Heap.get?_push_of_some _ (Heap.get?_push_of_some _ (Heap.get?_push_of_some _ (Heap.get?_push_of_some _ (Heap.get?_push_of_some _ x))))⟩
theorem zQ (n:Nat):ZAp (n+4) (n+2) (n+3) n (n+1):=by
 constructor <;> exact fun h=>absurd (show (_:Nat)=_ from h) (by lia)
end
noncomputable def iZip (K:Frag) (ta:TA):TI:=fun σ H R=>ta σ H fun vs H1=>∃ S1 S2 v1 v2,vs=[v1,v2]/\SrcOf K H1 S1 v1/\SrcOf K H1 S2 v2/\R (Itz K S1 S2) H1
section
variable {X:Cx}
theorem oY {pins:List (Addr × Obj)} {σ:St} {H:Hp} {s:Shared} {S:Src} {v:V} {u:Value} (I:Inv X pins σ H s) (h:SrcOf X.K H S v) (r:RelV v u):∃ t,u=srcVal S t/\srcOk s.heap S:=by
 cases S with
 | str x=>
  have e:v=.str x:=h;subst e;obtain ⟨t,rfl⟩:=r;exact ⟨t,rfl,trivial⟩
 | lst a=>
  obtain ⟨e,xs,hq⟩:=h;subst e;cases r;obtain ⟨its,rv,pl,hz⟩:=I.list hq;exact ⟨0,rfl,_,pl.isList⟩
theorem xE:bootBuiltins "zip" = some (.type "zip"):=by decide +kernel
theorem Bs {a b:Expr} {ta:TA} {elts:List Expr} {kk:Nat} {tpos p pos:Pos} (hg:Gl X "zip") (hm:X.mg "zip" = none) (ha:PA X [a,b] ta) (hs:starEach [a,b] X.env=[(false,eval a X.env),(false,eval b X.env)]:=by rfl) (hs2:starEach [b] X.env=[(false,eval b X.env)]:=by rfl):
  PI X (.Tuple elts kk tpos) (.Call (.Name "zip" p) [a,b] [] pos) (iZip X.K ta):=by
 intro pins s σ H R I h;refine Call_ (gW I hg hm xE (PyProof.Rows.callWith_type1 (thn (ha pos pins s σ H _ I h) fun us s1 ⟨vs,H1,I1,r1,q1⟩=>?_) (by rw [hs,hs2]) (by rw [hs2]; rfl)));obtain ⟨S1,S2,v1,v2,e,o1,o2,q⟩:=q1;subst e;cases r1 with
 | cons r rr=>
  cases rr with
  | cons r' rr=>
   cases rr;obtain ⟨t1,rfl,k1⟩:=oY I1 o1 r;obtain ⟨t2,rfl,k2⟩:=oY I1 o2 r';refine v3 k1 k2 fun h' st kp=>?_
   have I2:Inv X pins σ H1 { s1 with heap:=h' }:=I1.kept (t':=s1.toks) kp;have st':=st;obtain ⟨_,_,hz,_⟩:=st';refine wpAny_pyIter_zip hz ?_;refine ⟨_,_,_,Itz X.K S1 S2,H1,rfl,I2,xu (zQ _) S1 S2,st,fun c hc=>?_,q⟩;have hc':s1.heap.objs.size<=c:=by
    simp only [List.mem_cons,List.not_mem_nil,or_false] at hc;rcases hc with rfl | rfl | rfl | rfl | rfl <;> lia
   exact I1.fpOk hc' (I1.hok.fresh hc')
end
noncomputable def clOf (cells:List (Str × Addr)):List (Str × NameKind)->List (Str × Addr)->List (Str × Addr)
 | [],cs=>cs
 | (n,k)::r,cs=>clOf cells r (if (k == NameKind.free)=true then (n,(cells.lookup n).getD 0)::cs else cs)
theorem ie {scope:Scope} {env:Env} (h:∀ y ∈ scope.names,y.2=.free->∃ c,env.cells.lookup y.1=some c):closureFor scope env=pure (clOf env.cells scope.names []):=by
 unfold closureFor;have key:∀ (names:List (Str × NameKind)) (cs:List (Str × Addr)),(∀ y ∈ names,y.2=.free->∃ c,env.cells.lookup y.1=some c) ->
   (forIn names cs (fun x r=>match x with
    | (name,kind)=>if (kind == NameKind.free)=true then (do let __do_lift <- cellOf env name; pure (ForInStep.yield ((name,__do_lift)::r))) else pure (ForInStep.yield r)):Sem (List (Str × Addr)))=pure (clOf env.cells names cs):=by
  intro names
  induction names with
  | nil=>intro cs _; rfl
  | cons y r ih=>
   intro cs hy;obtain ⟨n,k⟩:=y;rw [List.forIn_cons];have hr:∀ y ∈ r,y.2=.free->∃ c,env.cells.lookup y.1=some c:=fun y hm=>hy y (List.mem_cons_of_mem _ hm)
   cases hk:(k == NameKind.free) with
   | true=>
    have hk':k=.free:=by simpa using hk
    obtain ⟨c,hc⟩:=hy (n,k) List.mem_cons_self hk';have ec:cellOf env n=pure c:=by unfold cellOf; rw [hc]
    have e1:(clOf env.cells ((n,k)::r) cs)=clOf env.cells r ((n,c)::cs):=by
     show clOf env.cells r (if (k == NameKind.free)=true then (n,(env.cells.lookup n).getD 0)::cs else cs)=_;rw [hk,if_pos rfl,show env.cells.lookup n=some c from hc];rfl
    rw [e1,<- ih _ hr];simp only [ec,hk,if_true,pure_bind]
   | false=>
    have e1:(clOf env.cells ((n,k)::r) cs)=clOf env.cells r cs:=by
     show clOf env.cells r (if (k == NameKind.free)=true then (n,(env.cells.lookup n).getD 0)::cs else cs)=_;rw [hk,if_neg Bool.false_ne_true]
    rw [e1,<- ih _ hr];simp only [hk,Bool.false_eq_true,if_false,pure_bind]
 have q:=key scope.names [] h
 first
  | exact q
  | (simp only [bind_pure]; exact q)
  | (rw [q]; rfl)
theorem mV {cells:List (Str × Addr)} {x:Str} {c:Addr}:∀ (names:List (Str × NameKind)) (cs:List (Str × Addr)),(∀ y ∈ names,y.2=.free->∃ c,cells.lookup y.1=some c)->(∀ x c,cs.lookup x=some c->cells.lookup x=some c) ->
  (clOf cells names cs).lookup x=some c->cells.lookup x=some c
 | [],cs,_,h,e=>h x c e
 | (n,k)::r,cs,hn,h,e=>by
  unfold clOf at e;refine mV r _ (fun y hm=>hn y (List.mem_cons_of_mem _ hm)) (fun x c q=>?_) e;split at q
  ·rename_i hk;have hk':k=.free:=by simpa using hk
   obtain ⟨c',hc⟩:=hn (n,k) List.mem_cons_self hk';rw [List.lookup_cons] at q;cases hx:(x == n) with
   | true=>
    rw [hx] at q;have hx':x=n:=by simpa using hx
    subst hx';rw [hc] at q;simp at q;rw [hc,q]
   | false=>
    rw [hx] at q;exact h x c q
  ·exact h x c q
theorem nK {cells:List (Str × Addr)} {x:Str}:∀ (names:List (Str × NameKind)) (cs:List (Str × Addr)),(cs.lookup x).isSome=true->((clOf cells names cs).lookup x).isSome=true
 | [],cs,h=>h
 | (n,k)::r,cs,h=>by
  unfold clOf;refine nK r _ ?_;split
  ·rw [List.lookup_cons];split
   ·rfl
   ·exact h
  ·exact h
theorem mn {cells:List (Str × Addr)} {x:Str}:∀ (names:List (Str × NameKind)) (cs:List (Str × Addr)),(x,NameKind.free) ∈ names->((clOf cells names cs).lookup x).isSome=true
 | [],_,h=>by cases h
 | (n,k)::r,cs,h=>by
  unfold clOf;rcases List.mem_cons.mp h with e | e
  ·cases e;refine nK r _ ?_;simp
  ·exact mn r _ e
theorem eR (env:Env) (x:Str):∀ names:List (Str × NameKind),
  (names.map fun (n,k)=>if (k == NameKind.free && env.scope.kind == .function && env.kindOf n == some .cell) then (n,NameKind.cell) else (n,k)).lookup x =
   (names.lookup x).map fun k=>if (k == NameKind.free && env.scope.kind == .function && env.kindOf x == some .cell)=true then .cell else k
 | []=>rfl
 | (n,k)::r=>by
  have ih:=eR env x r;simp only [List.map_cons];cases hx:(x == n) with
  | true=>
   have hx':x=n:=by simpa using hx
   subst hx';by_cases hc:(k == NameKind.free && env.scope.kind == .function && env.kindOf x == some .cell)=true
   ·rw [if_pos hc,List.lookup_cons,List.lookup_cons,hx];show some NameKind.cell=some (if (k == NameKind.free && env.scope.kind == .function && env.kindOf x == some .cell)=true then NameKind.cell else k);rw [if_pos hc]
   ·rw [if_neg hc,List.lookup_cons,List.lookup_cons,hx];show some k=some (if (k == NameKind.free && env.scope.kind == .function && env.kindOf x == some .cell)=true then NameKind.cell else k);rw [if_neg hc]
  | false=>
   by_cases hc:(k == NameKind.free && env.scope.kind == .function && env.kindOf n == some .cell)=true
   ·rw [if_pos hc];simp only [List.lookup_cons,hx];exact ih
   ·rw [if_neg hc];simp only [List.lookup_cons,hx];exact ih
structure CScope (scope:Scope):Prop where
 kind:scope.kind=.function
 nocell:∀ y ∈ scope.names,y.2≠.cell
 loc:∀ y ∈ scope.names,y.2=.local->scope.names.lookup y.1=some .local
noncomputable def cxC (X:Cx) (scope:Scope) (cl:List (Str × Addr)) (N':List Str) (C:Addr) (s:Shared) (H:Hp) (ex:List Addr):Cx:=
 { X with N:=N',s₀:=s,H₀:=H,env:=compEnvC scope cl C X.env,outer:=X.stack,ex:=ex,fn:=fun _=>false,pn:=[],xe:=fun _ _=>False }
noncomputable def compσ (nt:Nat) (fi:List Nat) (σ:St):St:=List.replicate nt none++fi.map fun j=>(σ[j]?).getD none
structure CNames (X:Cx) (scope:Scope) (nt:Nat) (fi:List Nat) (N':List Str):Prop where
 len:N'.length=nt+fi.length
 cap:∀ k j:Nat,fi[k]? = some j->∃ x,N'[nt+k]? = some x/\X.N[j]? = some x/\scope.names.lookup x=some .free
 fre:∀ y ∈ scope.names,y.2=.free->X.env.scope.names.lookup y.1=some .cell\/X.env.scope.names.lookup y.1=some .free
def GK (nt:Nat) (g:TG):Prop:=∀ x σ H Q,g x σ H Q->g x σ H fun σ' H'=>Q σ' H'/\σ'.length=σ.length/\σ'.drop nt=σ.drop nt
def PIf (X:Cx) (ifs:List Expr) (t:TT):Prop:=
 ∀ (pins:List (Addr × Obj)) (s:Shared) (σ:St) (H:Hp) (Q:Bool->Hp->Prop),Inv X pins σ H s->t σ H Q ->
  wpAny (model X.prog X.w) X.A (forIn ifs true fun c r=>if r=true then do let ok <- isTrue c X.env (eval c X.env); pure (ForInStep.yield ok) else pure (ForInStep.yield r)) (TP X pins σ Q) X.xe s
noncomputable def tYes:TT:=fun _ H Q=>Q true H
theorem aU {X:Cx}:PIf X [] tYes:=fun pins s σ H Q I h=>wpAny_tests_nil ⟨H,I,h⟩
theorem d4 {X:Cx} {c:Expr} {t:TT} (h:PT X c t):PIf X [c] t:=fun pins s σ H Q I q=>wpAny_tests_one (h pins s σ H Q I q)
theorem aT {nt i:Nat} (hi:i < nt):GK nt (gName i):=fun x σ H Q h=>by
 refine ⟨h,?_,?_⟩
 ·rw [List.length_set]
 ·rw [List.drop_set_of_lt hi]
theorem dS {K:Frag} {nt i j n:Nat} (hi:i < nt) (hj:j < nt):GK nt (gTup K n (gCons (gName i) (gCons (gName j) gNil))):=fun x σ H Q h=>by
 obtain ⟨a,xs,e,hq,hl,v,r,e1,v',r',e2,e3,q⟩:=h;refine ⟨a,xs,e,hq,hl,v,r,e1,v',r',e2,e3,q,?_,?_⟩
 ·rw [List.length_set,List.length_set]
 ·rw [List.drop_set_of_lt hj,List.drop_set_of_lt hi]
section
variable {prog:Program} {w:World} {A:Around} {R:Result->Shared->Prop} {s:Shared}
theorem thnF {α:Type} {t:Sem α} {Q Q':α -> Shared->Prop} {M:Model} {E:Value->Shared->Prop} (h:wpAny M A t Q (fun _ _=>False) s) (hQ:∀ a s,Q a s->Q' a s):wpAny M A t Q' E s:=wpAny_mono h hQ fun _ _ f=>f.elim
theorem jS {elt target iter:Expr} {ifs:List Expr} {scope:Scope} {pos:Pos} {it acc:Value} {env:Env} (I:Nat->Shared->Prop)
  (turn:∀ n s,I n s->wpAny (model prog w) A (pyNext it) (fun r s₁=>match r with
   | none=>R (.ok .next) s₁
   | some v=>wpAny (model prog w) A (letOwnedTupleGo target it v) (fun _ s₂=>wpAny (model prog w) A (assign target env v) (fun _ s₃=>
     wpAny (model prog w) A (forIn ifs true fun c r=>if r=true then do let ok <- isTrue c env (eval c env); pure (ForInStep.yield ok) else pure (ForInStep.yield r)) (fun ok s₄=>
      if ok=true then wpAny (model prog w) A (eval elt env) (fun x s₅=>wpAny (model prog w) A (call (.builtin "list.append") [acc,x]) (fun _ s₆=>∃ m,m < n/\I m s₆) (fun _ _=>False) s₅) (fun _ _=>False) s₄
      else ∃ m,m < n/\I m s₄) (fun _ _=>False) s₃) (fun _ _=>False) s₂) (fun _ _=>False) s₁) (fun _ _=>False) s)
  (n:Nat) (h:I n s):codeAny (model prog w) A (.compLoop (.ListComp elt [⟨target,iter,ifs,0⟩] scope pos) 0 it acc env) R s:=by
 refine codeAny_loop rfl I (fun n s hI=>?_) n h;show wpAny _ A ((compTurn (.ListComp elt [⟨target,iter,ifs,0⟩] scope pos) 0 it acc env).onRaise (fun x=>do noteFrame x env; theTreesLotGoes x)) _ _ s;refine wpAny_noted ?_;rw [compTurn_list];refine wpAny_bind (wpAny_standAt (wpAny_bind (thnF (turn n s hI) fun r s₁ h₁=>?_)));cases r with
 | none=>exact wpAny_pure h₁
 | some v=>
  refine wpAny_bind (thnF h₁ fun _ s₂ h₂=>wpAny_bind (thnF h₂ fun _ s₃ h₃=>wpAny_bind (thnF h₃ fun ok s₄ h₄=>?_)));cases ok with
  | false=>exact wpAny_pure ⟨rfl,h₄⟩
  | true=>exact wpAny_bind (wpAny_bind (thnF h₄ fun x s₅ h₅=>wpAny_bind (thnF h₅ fun _ s₆ h₆=>wpAny_pure (wpAny_pure ⟨rfl,h₆⟩))))
end
noncomputable def tComp (nt:Nat) (fi:List Nat) (wi:TI) (g:TG) (tc:TT) (te:TE):TE:=fun σ H Q=>wi σ H fun J H1=>∀ D,H1 D=none ->
 ∃ W:Nat->Nat->List V->Hp->Prop,(∃ m,W 0 m [] (upd H1 D (.lst [])))/\∀ i m acc H2,W i m acc H2 ->
  (J.stop i H2/\Q (.ref D) H2)\/(J.go i H2/\∀ x H3,J.yld i H2 x H3->g x (compσ nt fi σ) H3 fun σ4 H4=>tc σ4 H4 fun b H5=>if b=true then
   te σ4 H5 fun v H6=>H6 D=some (.lst acc)/\acc.length < sizeLine/\∃ m',m' < m/\W (i+1) m' (acc++[v]) (upd H6 D (.lst (acc++[v]))) else ∃ m',m' < m/\W (i+1) m' acc H5)
theorem compσ_weak {nt:Nat} {fi:List Nat} {σ σ':St} (hl:σ'.length=(compσ nt fi σ).length) (hd:σ'.drop nt=(compσ nt fi σ).drop nt):∀ (i:Nat) v,(compσ nt fi σ)[i]? = some (some v)->σ'[i]? = some (some v):=fun i v e=>by
 by_cases hi:i < nt
 ·unfold compσ at e;rw [List.getElem?_append_left (by simpa using hi),List.getElem?_replicate] at e;split at e <;> cases e
 ·have ei:i=nt+(i - nt):=by lia
  have q:=congrArg (fun l=>l[i - nt]?) hd;simp only [List.getElem?_drop] at q;rw [<- ei] at q;rw [q];exact e
section
variable {X:Cx}
theorem qW {pins:List (Addr × Obj)} {σ:St} {H:Hp} {s:Shared} {scope:Scope} {nt:Nat} {fi:List Nat} {N':List Str} {fp:List Addr} {h₁:Heap} {m:Str->Option Value} {tk:Nat}
  (I:Inv X pins σ H s) (S:CScope scope) (cn:CNames X scope nt fi N') (hf:∀ b ∈ fp,FpOk X pins H b) (ho:∀ b ∈ fp,∃ o,s.heap.get? b=some o)
  (hns:h₁.Ns s.heap.objs.size m) (kp:∀ b o,s.heap.get? b=some o->h₁.get? b=some o) (htk:0 < tk):
  Inv (cxC X scope (clOf X.env.cells scope.names []) N' s.heap.objs.size s H fp) (X.pn++pins) (compσ nt fi σ) H { s with heap:=h₁,toks:=tk }:=by
 have hfr:∀ y ∈ scope.names,y.2=.free->∃ c,X.env.cells.lookup y.1=some c:=fun y hy e=>I.ok.has y.1 (cn.fre y hy e)
 have snd:∀ x c,(clOf X.env.cells scope.names []).lookup x=some c->X.env.cells.lookup x=some c:=fun x c e=>mV scope.names [] hfr (fun _ _ q=>by simp at q) e
 have offstk:∀ b,b≠X.env.locals->b ∉ X.fs->b ∉ frs X.stack:=fun b h1 h2 h3=>by
  rcases List.mem_cons.mp (I.stkSub b h3) with e | e
  ·exact h1 e
  ·exact h2 e
 have lt:∀ {b o},s.heap.get? b=some o->b≠s.heap.objs.size:=fun e=>Nat.ne_of_lt (Heap.lt_size e)
 have kinds:∀ x k,(relabel scope X.env).names.lookup x=some k->(k=.cell\/k=.free)->(x,NameKind.free) ∈ scope.names:=fun x k e hk=>by
  have e':(scope.names.map fun (n,k)=>if (k == NameKind.free && X.env.scope.kind == .function && X.env.kindOf n == some .cell) then (n,NameKind.cell) else (n,k)).lookup x=some k:=e;rw [eR] at e';cases q:scope.names.lookup x with
  | none=>rw [q] at e'; cases e'
  | some k'=>
   have mem:(x,k') ∈ scope.names:=PySem.mem_of_lookup q;rw [q] at e';simp only [Option.map_some,Option.some.injEq] at e';split at e'
   ·rename_i hc;simp only [Bool.and_eq_true,beq_iff_eq] at hc;rw [hc.1.1] at mem;exact mem
   ·subst e';rcases hk with z | z
    ·subst z;exact absurd rfl (S.nocell _ mem)
    ·subst z;exact mem
 refine ⟨⟨I.ok.mod,S.kind,I.ok.glob,I.ok.blt,Nat.le_refl _,fun x y c e1 e2=>I.ok.inj x y c (snd x c e1) (snd y c e2),fun x hx=>?_,fun x c e=>(nomatch e),I.ok.hd,I.ok.frames,.inl rfl,fun b hb=>⟨?_,fun x c e=>(hf b hb).2.2.2.2.1 x c (snd x c e)⟩,I.bs,?_,fun b o e hb=>?_,fun b hb=>offstk b (hf b hb).2.1 (hf b hb).2.2.1,I.stack,I.stkFree⟩,
  rfl,I.bare,Un.kept kp,⟨m,hns,fun i x v e1 e2 e3=>?_⟩,fun x c e=>?_,I.hok.fresh (Nat.le_refl _),fun x c e=>I.freeC x c (snd x c e),fun p hp=>?_,I.hok.kept kp,?_,htk⟩
 ·have hx':(relabel scope X.env).names.lookup x=some .cell\/(relabel scope X.env).names.lookup x=some .free:=hx;have mem:(x,NameKind.free) ∈ scope.names:=by
   rcases hx' with q | q
   ·exact kinds x _ q (.inl rfl)
   ·exact kinds x _ q (.inr rfl)
  exact Option.isSome_iff_exists.mp (mn scope.names [] mem)
 ·obtain ⟨o,e⟩:=ho b hb;exact lt e
 ·exact Nat.le_trans I.ok.bsz I.sz
 ·rcases (hf b hb).2.2.2.1 with q | q
  ·exact I.ok.noex b o e q
  ·exact absurd (Nat.lt_of_lt_of_le (Heap.lt_size e) (Nat.le_trans I.ok.bsz q)) (Nat.lt_irrefl _)
 ·have hi:¬ i < nt:=fun hi=>by
   unfold compσ at e2;rw [List.getElem?_append_left (by simpa using hi),List.getElem?_replicate] at e2;split at e2 <;> cases e2
  have ei:i=nt+(i - nt):=by lia
  have e2':(fi.map fun j=>(σ[j]?).getD none)[i - nt]? = some (some v):=by
   unfold compσ at e2;rw [List.getElem?_append_right (by simpa using Nat.le_of_not_lt hi)] at e2;simpa using e2
  rw [List.getElem?_map] at e2';cases ej:fi[i - nt]? with
  | none=>rw [ej] at e2'; cases e2'
  | some j=>
   rw [ej] at e2';obtain ⟨x',n1,n2,n3⟩:=cn.cap (i - nt) j ej;rw [<- ei] at n1;have e1':N'[i]? = some x:=e1;rw [n1] at e1';cases e1';have ev:σ[j]? = some (some v):=by
    have e2':some ((σ[j]?).getD none)=some (some v):=e2';cases q:σ[j]? with
    | none=>rw [q] at e2'; simp at e2'
    | some w=>rw [q] at e2'; simp at e2'; rw [e2']
   have mem:(x,NameKind.free) ∈ scope.names:=PySem.mem_of_lookup n3;have vis:=cn.fre _ mem rfl;obtain ⟨m0,hn0,hl0⟩:=I.loc;obtain ⟨u,ru,lk⟩:=hl0 j x v n2 ev (.inr vis);refine ⟨u,ru,?_⟩;rcases lk with ⟨q,_⟩ | ⟨q,c,ec,o,hoc,hod⟩
   ·have q':X.env.scope.names.lookup x=some .local:=q;rcases vis with z | z
    ·have z':X.env.scope.names.lookup x=some .cell:=z;rw [q'] at z'; cases z'
    ·have z':X.env.scope.names.lookup x=some .free:=z;rw [q'] at z'; cases z'
   ·obtain ⟨c',ec'⟩:=Option.isSome_iff_exists.mp (mn (cells:=X.env.cells) scope.names [] mem);have ecc:=snd x c' ec';rw [ec] at ecc;cases ecc;refine .inr ⟨?_,c,ec',o,kp c o hoc,hod⟩;show (relabel scope X.env).names.lookup x=some .cell\/(relabel scope X.env).names.lookup x=some .free;have e4:(relabel scope X.env).names.lookup x=(scope.names.lookup x).map fun k=>if (k == NameKind.free && X.env.scope.kind == .function && X.env.kindOf x == some .cell)=true then .cell else k:=eR X.env x scope.names
    rw [e4,n3];simp only [Option.map_some];split
    ·exact .inl rfl
    ·exact .inr rfl
 ·obtain ⟨v,o,hoc,hod⟩:=I.cell x c (snd x c e);exact ⟨v,o,kp c o hoc,hod⟩
 ·have hp':p ∈ X.pn++pins:=by
   have hp'':p ∈ ([]:List (Addr × Obj))++(X.pn++pins):=hp;simpa using hp''
  obtain ⟨e,n,ne,nf,d⟩:=I.pin p hp';exact ⟨kp _ _ e,n,lt e,offstk _ ne nf,d⟩
 ·show (compσ nt fi σ).length=N'.length;unfold compσ;rw [cn.len,List.length_append,List.length_replicate,List.length_map]
theorem rV {pins:List (Addr × Obj)} {σ σ':St} {H H':Hp} {s s':Shared} {scope:Scope} {cl:List (Str × Addr)} {N':List Str} {fp:List Addr} {C:Addr} {P:List (Addr × Obj)} {h'':Heap}
  (I:Inv X pins σ H s) (hf:∀ b ∈ fp,FpOk X pins H b) (hC:s.heap.objs.size<=C) (J:Inv (cxC X scope cl N' C s H fp) P σ' H' s') (sb:Heap.SameBut C s'.heap h''):Inv X pins σ H' { s' with heap:=h'' }:=by
 have ne:∀ {b o},s.heap.get? b=some o->b≠C:=fun e=>Nat.ne_of_lt (Nat.lt_of_lt_of_le (Heap.lt_size e) hC)
 have u:Un (frs X.stack) fp H H' s.heap s'.heap:=J.base;refine I.call' (s':={ s' with heap:=h'' }) (ch:=fp) J.os ⟨fun b o e n hb hx=>?_,fun b o e n hb hx=>?_,u.free,fun b o e hx=>?_,u.tups,u.frzs,u.tbls⟩ (fun b o e=>?_) J.bare (fun b hb=>?_) J.tk
 ·exact (sb.2 b (ne e)).trans (u.keep b o e n hb hx)
 ·obtain ⟨sl,q⟩:=u.slot b o e n hb hx;exact ⟨sl,(sb.2 b (ne e)).trans q⟩
 ·obtain ⟨o',q⟩:=u.there b o e hx;exact ⟨o',(sb.2 b (ne e)).trans q⟩
 ·have fr:H' C=none:=J.free;refine (J.hok b o e).stay (fun c v hc q=>(sb.2 c ?_).trans q) (fun _ q=>q) fun _ _ q=>q
  rintro rfl;rcases hc with z | z
  ·subst z;rw [fr] at e;cases e
  ·rw [fr] at z;cases z
 ·obtain ⟨f0,f1,f2,f3,f4,f5⟩:=hf b hb;exact ⟨f3,f1,f4,f5⟩
theorem y8 {elt tg iter:Expr} {ifs:List Expr} {scope:Scope} {pos:Pos} {wi:TI} {g:TG} {tc:TT} {te:TE} {nt:Nat} {fi:List Nat} {N':List Str} (hcalm:X.calm=true)
  (S:CScope scope) (cn:CNames X scope nt fi N') (gk:GK nt g) (hi:PI X tg iter wi)
  (hg:∀ cl C s H ex,PG (cxC X scope cl N' C s H ex) tg g) (hc:∀ cl C s H ex,PIf (cxC X scope cl N' C s H ex) ifs tc) (he:∀ cl C s H ex,PE (cxC X scope cl N' C s H ex) elt te)
  (hs:∀ x,foldedSetIterable iter X.env x=pure x:=by intro _; rfl):PE X (.ListComp elt [⟨tg,iter,ifs,0⟩] scope pos) (tComp nt fi wi g tc te):=by
 intro pins s σ H Q I h;have hfr:∀ y ∈ scope.names,y.2=.free->∃ c,X.env.cells.lookup y.1=some c:=fun y hy e=>I.ok.has y.1 (cn.fre y hy e)
 rw [eval_ListComp];refine wpAny_comprehension_free (use:=none) rfl hs (ie hfr) S.kind S.loc (thn (hi pins s σ H _ I h) fun v s1 h1=>thn h1 fun itv s2 h2=>?_);obtain ⟨it,fp,tn,J,H2,e,I2,T,st2,f2,hW⟩:=h2;subst e;have fD:H2 s2.heap.objs.size=none:=I2.hok.fresh (Nat.le_refl _);obtain ⟨W,⟨m0,w0⟩,turn⟩:=hW s2.heap.objs.size fD;refine wpAny_newObj_type (wpAny_newFunctionEnv S.nocell (by intro y hy; simp at hy) (fun h₁ hns₁ hsb₁=>?_) S.kind);have I3:Inv X pins σ (upd H2 s2.heap.objs.size (.lst [])) { s2 with heap:=s2.heap.push { cls:=.type "list",dict:=none,data:=.seq ([]:List Value).toArray } }:=I2.lnew (its:=[]) (t':=s2.toks) .nil (Nat.zero_le _);generalize hs3:({ s2 with heap:=s2.heap.push { cls:=.type "list",dict:=none,data:=.seq ([]:List Value).toArray } }:Shared)=s3 at I3 hns₁ hsb₁ ⊢;have hsz:s3.heap.objs.size=s2.heap.objs.size+1:=by rw [<- hs3]; exact Heap.size_push ..
 have ob2:∀ b ∈ fp,∃ o,s3.heap.get? b=some o:=fun b hb=>by
  obtain ⟨o,e,_⟩:=T.obj _ _ st2 b hb;rw [<- hs3];exact ⟨o,Heap.get?_push_of_some _ e⟩
 have f3:∀ b ∈ fp,FpOk X pins (upd H2 s2.heap.objs.size (.lst [])) b:=fun b hb=>by
  obtain ⟨o,e,_⟩:=T.obj _ _ st2 b hb;refine ⟨?_,(f2 b hb).2⟩;rw [ao (Nat.ne_of_lt (Heap.lt_size e))];exact (f2 b hb).1
 have kp:∀ b o,s3.heap.get? b=some o->h₁.get? b=some o:=fun b o e=>hsb₁.extBut b o (Nat.ne_of_lt (Heap.lt_size e)) (Heap.get?_push_of_some _ e)
 have st3:tn 0 h₁:=T.keep _ _ _ st2 fun b _ o e=>kp b o (by rw [<- hs3]; exact Heap.get?_push_of_some _ e)
 have J4:Inv (cxC X scope (clOf X.env.cells scope.names []) N' s3.heap.objs.size s3 (upd H2 s2.heap.objs.size (.lst [])) fp) (X.pn++pins) (compσ nt fi σ) (upd H2 s2.heap.objs.size (.lst [])) { s3 with heap:=h₁,toks:=s3.toks+([]:List (Str × Value)).length }:=
  qW I3 S cn f3 ob2 hns₁ kp I3.tk
 generalize hcl:clOf X.env.cells scope.names []=cl at J4 ⊢;generalize hH3:upd H2 s2.heap.objs.size (.lst [])=H3 at J4 I3 f3 w0;have stat:∀ {H':Hp},(∀ b ∈ fp,H' b=none)->∀ b ∈ fp,FpOk (cxC X scope cl N' s3.heap.objs.size s3 H3 fp) (X.pn++pins) H' b:=fun {H'} hn b hb=>by
  obtain ⟨g0,g1,g2,g3,g4,g5⟩:=f3 b hb;have ok:=J4.ok;refine ⟨hn b hb,(ok.exf b hb).1,ok.exfs b hb,.inl hb,(ok.exf b hb).2,fun p hp=>g5 p ?_⟩;have hp':p ∈ ([]:List (Addr × Obj))++(X.pn++pins):=hp;simpa using hp'
 have loop:∀ s₃:Shared,s₃ = { s3 with heap:=h₁,toks:=s3.toks+([]:List (Str × Value)).length } ->
   codeAny (model X.prog X.w) X.A (.compLoop (.ListComp elt [⟨tg,iter,ifs,0⟩] scope pos) 0 (.ref it) (.ref s2.heap.objs.size) (compEnvC scope cl s3.heap.objs.size X.env))
    (compPost (model X.prog X.w) X.A X.xe none (EP X pins σ Q) (.ref s2.heap.objs.size) s3.heap.objs.size) s₃:=by
  rintro s₃ rfl;refine jS (fun n s'=>∃ i acc H',Inv (cxC X scope cl N' s3.heap.objs.size s3 H3 fp) (X.pn++pins) (compσ nt fi σ) H' s'/\tn i s'.heap/\(∀ b ∈ fp,H' b=none)/\W i n acc H') ?_ m0
   ⟨0,[],H3,J4,st3,fun b hb=>(f3 b hb).1,w0⟩
  rintro n s5 ⟨i,acc,H5,I5,st5,fr5,w5⟩;rcases turn i n acc H5 w5 with ⟨stop,qn⟩ | ⟨go,step⟩
  ·refine thn (T.done (cxC X scope cl N' s3.heap.objs.size s3 H3 fp) rfl rfl rfl hcalm i (X.pn++pins) s5 (compσ nt fi σ) H5 (fun _ _=>False) I5 (stat fr5) st5 stop) fun r s6 ⟨hr,I6⟩=>?_
   subst hr;obtain ⟨m6,hn6,_⟩:=I6.loc;exact ⟨m6,hn6,fun h' sb=>⟨.ref s2.heap.objs.size,H5,rV I3 f3 (Nat.le_refl _) I6 sb,rfl,qn⟩⟩
  ·refine thn (T.item (cxC X scope cl N' s3.heap.objs.size s3 H3 fp) rfl rfl rfl hcalm i (X.pn++pins) s5 (compσ nt fi σ) H5 (fun _ _=>False) I5 (stat fr5) st5 go) fun r s6 ⟨u,hr,h6⟩=>?_
   subst hr;refine thn h6 fun _ s7 ⟨x,H7,I7,r7,y7,st7,fr7⟩=>?_
   have I7':=I7.pinned (stat fr7) (T.obj _ _ st7);refine thn (hg _ _ _ _ _ _ s7 (compσ nt fi σ) H7 x u _ I7' r7 (gk _ _ _ _ (step x H7 y7))) fun _ s8 ⟨σ8,H8,I8,q8,l8,d8⟩=>?_
   refine thn (hc _ _ _ _ _ _ s8 σ8 H8 _ I8 q8) fun b s9 ⟨H9,I9,q9⟩=>?_
   have again:∀ {s':Shared} {H':Hp} {m':Nat} {acc':List V},Inv (cxC X scope cl N' s3.heap.objs.size s3 H3 fp) ((X.pn++pins)++pinsAt fp s7.heap) σ8 H' s'->m' < n->W (i+1) m' acc' H' ->
     ∃ m,m < n/\∃ i acc H',Inv (cxC X scope cl N' s3.heap.objs.size s3 H3 fp) (X.pn++pins) (compσ nt fi σ) H' s'/\tn i s'.heap/\(∀ b ∈ fp,H' b=none)/\W i m acc H':=fun {s' H' m' acc'} I' hm w'=>by
    refine ⟨m',hm,i+1,acc',H',I'.unpinned.weak l8.symm (compσ_weak l8 d8),T.keep _ _ _ st7 fun b hb o e=>(I'.pin (b,o) (List.mem_append_right _ (List.mem_append_right _ (dh hb e)))).1,fun b hb=>?_,w'⟩;obtain ⟨o,e,d⟩:=T.obj _ _ st7 b hb;exact (I'.pin (b,o) (List.mem_append_right _ (List.mem_append_right _ (dh hb e)))).2.1
   cases b with
   | false=>
    rw [if_neg Bool.false_ne_true] at q9 ⊢;obtain ⟨m',hm,w'⟩:=q9;exact again I9 hm w'
   | true=>
    rw [if_pos rfl] at q9 ⊢;refine thn (he _ _ _ _ _ _ s9 σ8 H9 _ I9 q9) fun uv s10 ⟨v10,H10,I10,r10,hD,hlt,m',hm,w'⟩=>?_
    refine thn (kO (X:=cxC X scope cl N' s3.heap.objs.size s3 H3 fp) _ s10 σ8 H10 (.ref s2.heap.objs.size) [v10] (.ref s2.heap.objs.size) [uv] (fun _ H'=>H'=upd H10 s2.heap.objs.size (.lst (acc++[v10]))) I10 rfl (.cons r10 .nil) ⟨_,acc,v10,rfl,rfl,hD,hlt,rfl⟩) fun _ s11 ⟨_,H11,I11,_,e11⟩=>?_
    subst e11;exact again I11 hm w'
 exact codeAny_compStart_list (loop _ rfl) (T.self _ 0 _ _ _ st3 (loop _ rfl))
end
noncomputable abbrev st (l:List Nat):Str:=⟨l.toArray⟩
theorem qd (l:List Nat):(st l).length=l.length:=by simp [Str.length]
theorem bM (l:List Nat):(st l).cps.toList=l:=rfl
theorem Ba (l m:List Nat):st l++st m=st (l++m):=by
 show Str.append (st l) (st m)=_;simp [Str.append]
theorem qD {l m:List Nat}:st l=st m ↔ l=m:=by simp
theorem sK {ys:List Str}:∀ {us:List Value},Vals (ys.map V.str) us->StrsAre us ys:=by
 induction ys with
 | nil=>intro us r; cases r; exact .nil
 | cons y r ih=>
  intro us h;cases h with
  | cons r1 r2=>
   obtain ⟨t,rfl⟩:=r1;exact .cons y t (ih r2)
theorem om (l:List Nat):Txt.join ⟨#[]⟩ (l.map fun k=>(⟨#[k]⟩:Str))=st l:=by
 have h:=join_plain_closes ⟨#[]⟩ (l.map fun k=>(⟨#[k]⟩:Str));rw [eq_of_beq h];exact join_ones l
section
variable {X:Cx}
noncomputable def rJoin (K:Frag):V->List V->Hp->VK->Prop:=fun x vs H Q=>∃ sep l ys,x=.str sep/\vs=[.ref l]/\SqL K H l (ys.map V.str)/\(ys.map (·.length)).sum+ys.length*sep.length<=16777216/\Q (.str (Txt.join sep ys)) H
theorem yC:MtR X "str.join" (rJoin X.K):=by
 intro pins s σ H x vs v us Q I rx rv h;obtain ⟨sep,l,ys,rfl,rfl,hq,hz,q⟩:=h;obtain ⟨t,rfl⟩:=rx;obtain ⟨u,rfl,ru⟩:=rv.one;cases ru;obtain ⟨its,r,pl,_⟩:=I.list hq;exact tokQ I.tk (join_list pl.isList (sK r) hz fun t' k (htk:0 < k)=>⟨.str _,H,I.tok _,⟨_,rfl⟩,q⟩)
theorem xZ (l:List Nat):((l.map fun k=>(⟨#[k]⟩:Str)).map (·.length)).sum=l.length:=by
 induction l with
 | nil=>rfl
 | cons a r ih=>
  rw [List.map_cons,List.map_cons,List.sum_cons,ih,List.length_cons];show 1+r.length=r.length+1
  lia
noncomputable def rJoin1 (K:Frag):V->List V->Hp->VK->Prop:=fun x vs H Q=>∃ l cs,x=.str (Str.ofString "")/\vs=[.ref l]/\SqL K H l (cs.map fun k=>V.str ⟨#[k]⟩)/\cs.length<=10000/\Q (.str (st cs)) H
theorem jV:Str.ofString "" = ⟨#[]⟩:=by decide +kernel
theorem xr:MtR X "str.join" (rJoin1 X.K):=by
 intro pins s σ H x vs v us Q I rx rv h;obtain ⟨l,cs,rfl,rfl,hq,hz,q⟩:=h;refine yC pins s σ H _ _ v us Q I rx rv ⟨_,l,cs.map fun k=>⟨#[k]⟩,rfl,rfl,?_,?_,?_⟩
 ·rw [List.map_map];exact hq
 ·rw [xZ,List.length_map,jV];show cs.length+cs.length*0<=16777216
  lia
 ·rw [jV,om];exact q
noncomputable def rSlS:V->Option Int->Option Int->Hp->VK->Prop:=fun x lo hi H Q=>∃ z,x=.str z/\z.length<=sizeLine/\Q (.str (Txt.slice z lo hi)) H
theorem v9:SlR X rSlS:=by
 intro pins s σ H x v vl vu lo hi sl Q I rx hs pl pu h;obtain ⟨z,rfl,hz,q⟩:=h;obtain ⟨t,rfl⟩:=rx;have fin:∀ t' k,0 < k->EP X pins σ Q (.str (Txt.slice z lo hi) t') { s with toks:=k }:=fun t' k htk=>⟨.str _,H,I.tok _,⟨_,rfl⟩,q⟩
 refine ⟨"str",_,F.slot_str_getitem.lookup,typeIs_str _ _ _,tokQ I.tk ?_⟩;obtain ⟨o,e1,e2,e3⟩:=id hs;cases pl with
 | none=>
  cases pu with
  | none=>exact wpAny_getItem_str_slice (l:=none) (u:=none) (st:=none) ⟨o,e1,e2,e3⟩ rfl (post_val_or_str ⟨Nat.le_trans (Txt.slice_le z _ _) hz,fin⟩)
  | int j tj=>exact wpAny_getItem_str_slice (l:=none) (u:=some (j,tj)) (st:=none) ⟨o,e1,e2,e3⟩ rfl (post_val_or_str ⟨Nat.le_trans (Txt.slice_le z _ _) hz,fin⟩)
 | int i ti=>
  cases pu with
  | none=>exact wpAny_getItem_str_slice (l:=some (i,ti)) (u:=none) (st:=none) ⟨o,e1,e2,e3⟩ rfl (post_val_or_str ⟨Nat.le_trans (Txt.slice_le z _ _) hz,fin⟩)
  | int j tj=>exact wpAny_getItem_str_slice (l:=some (i,ti)) (u:=some (j,tj)) (st:=none) ⟨o,e1,e2,e3⟩ rfl (post_val_or_str ⟨Nat.le_trans (Txt.slice_le z _ _) hz,fin⟩)
theorem wx (l:List Nat) (k:Nat) (h:k<=l.length):Txt.slice (st l) none (some (k:Int))=st (l.take k):=by
 have q:=slice_closes_to (x:=st l) (j:=(k:Int)) ⟨by lia,by simpa using h⟩;rw [eq_of_beq q];simp
theorem su (l:List Nat) (k:Nat) (h:k<=l.length):Txt.slice (st l) (some (k:Int)) none=st (l.drop k):=by
 have q:=slice_from_eq (x:=st l) (i:=(k:Int)) (b:=(l.length:Int)) (by lia) (by simpa [Str.length] using h) (by simp [Str.length]);rw [q];simp only [bM,Int.toNat_natCast];rw [List.take_of_length_le (by rw [List.length_drop]; lia)]
theorem tS:OpR X (binaryOp .Mult) (fun x y H Q=>∃ z n,x=.str z/\y=.int n/\MulOk z n/\Q (.str (Txt.mul z n)) H):=by
 intro pins s σ H x y v u Q I rx ry h;obtain ⟨z,n,rfl,rfl,hok,q⟩:=h;obtain ⟨t,rfl⟩:=rx;obtain ⟨t',rfl⟩:=ry;exact tokQ I.tk (SB.mul hok fun t' k (htk:0 < k)=>⟨.str _,H,I.tok _,⟨_,rfl⟩,q⟩)
theorem mul1 (k n:Nat):Txt.mul ⟨#[k]⟩ (n:Int)=st (List.replicate n k):=by
 have q:=mul_one_list k (n:Int);rw [Int.toNat_natCast] at q;have e:∀ x:Str,x=⟨x.cps.toList.toArray⟩:=fun x=>by simp
 rw [e (Txt.mul ⟨#[k]⟩ (n:Int)),q]
theorem rL:CallR X (.builtin "isinstance") (fun xs H Q=>∃ x n t b,xs=[x,.ty n]/\TyOf X.K H x t/\PySem.W.kitOne X.K t (.type n)=some b/\Q (.bl b) H):=by
 intro pins s σ H xs us Q I r h;obtain ⟨x,n,t,b,rfl,ty,e,q⟩:=h;obtain ⟨u,w',rfl,r1,r2⟩:=vals2 r;cases r2;exact tokQ I.tk (vn I r1 ty e fun tk (htk:0 < tk)=>⟨.bl b,H,I.tok _,rfl,q⟩)
theorem uW (hu:X.A.units < cLine):OpR X (compareOp .Eq) (fun x y H Q=>∃ a b xs,x=.ref a/\y=.ref b/\SqL X.K H a xs/\SqL X.K H b []/\Q (.bl (decide (xs=[]))) H):=by
 intro pins s σ H x y v u Q I rx ry h;obtain ⟨a,b,xs,rfl,rfl,ha,hb,q⟩:=h;cases rx;cases ry;obtain ⟨its,r1,p1,_⟩:=I.list ha;obtain ⟨its2,r2,p2,_⟩:=I.list hb;cases r2;cases r1 with
 | nil=>exact SeqAt.eq_listAt (e:=fun _=>true) p1.isList p2.isList rfl hu (fun j h1 _=>absurd h1 (by simp)) ⟨.bl true,H,I,rfl,q⟩
 | cons rx rr=>exact SeqAt.eq_list_lengthsAt p1.isList p2.isList (by simp) hu ⟨.bl false,H,I,rfl,by simpa using q⟩
end
def Fn (K:Frag) (mg:Str->Option Value) (x:Str) (st:Stmt):Prop:=∃ f fd,Fun K x x st f fd/\mg x=some (.ref f)
def Callee (P:Program) (w:World) (K:Frag) (mg:Str->Option Value) (base:Heap) (k:Nat) (x:Str) (ps:List Str) (sp:Sp):Prop:=
 ∃ f fd,FnOk P w K mg base CX0 k f fd ps sp/\Binds K fd ps []/\keepIn K (.ref f)=true/\mg x=some (.ref f)
theorem Fn.cal {P:Program} {w:World} {K:Frag} {mg:Str->Option Value} {base:Heap} {x:Str} {st:Stmt} {N ps:List Str} {k:Nat} {sp:Sp} (F:Fn K mg x st) (S:FnScope N ps (defScope st)) (len:∀ vs H Q E,sp vs H Q E->vs.length=ps.length)
  (hb:∀ (kV doc pm:Value) (an:Option Addr) (cdv ct:Value) (us:List Value),us.length=ps.length->bindArgs (fnOf x x (defArgs st) (defBody st) (defScope st) .none kV doc pm an cdv ct) ⟨us,[]⟩=pure (ps.zip us))
  (hbody:∀ (f:Addr) (cdv:Value) (A:Around) (outer:List Env) (s:Shared) (H:Hp) (vs:List V) (Q:VK) (E:XK),Room k (A.deeper (envOfC x (defScope st) s.heap.objs.size f cdv))->sp vs H Q E ->
   ∃ t,PSs (cxOf CX0 P w K mg base N x (defScope st) f cdv A outer s H E).nox (defBody st) t/\t { nx:=fun _ H'=>Q .non H',rt:=Q } (start N vs) H):Callee P w K mg base (k+1) x ps sp:=by
 obtain ⟨f,fd,F,m⟩:=F;exact ⟨f,fd,F.ok S len (hbody f),F.binds hb,F.kp,m⟩
section
variable {X:Cx} {k:Nat} {x:Str} {ps:List Str} {sp:Sp} {p pos:Pos} {e:Expr} {es:List Expr} {t:TA}
theorem aw (C:Callee X.prog X.w X.K X.mg X.base k x ps sp) (hr:Room k X.A) (hg:Gl X x) (ha:PA X (e::es) t)
  (he:starEach (e::es) X.env=(false,eval e X.env)::starEach es X.env:=by rfl) (hpl:(backTo pos (starEach es X.env)).any (·.1)=false:=by rfl) (hd:(x == ("__debug__" : Str))=false:=by decide):PE X (.Call (.Name x p) (e::es) [] pos) (tCall sp [] E0 t):=by
 obtain ⟨f,fd,F,b,kp,m⟩:=C;exact uq F hr hg m kp b .nil pass0 ha (hdb:=hd) (he:=he) (hpl:=hpl)
end
noncomputable def tJoin (t u:TS):TS:=fun D σ H=>∃ J:St->Hp->Prop,t { D with nx:=J } σ H/\∀ σ' H',J σ' H'->u D σ' H'
theorem cX {X:Cx} {st:Stmt} {rest:List Stmt} {t u:TS} (h1:PS X st t) (h2:PSs X rest u):PSs X (st::rest) (tJoin t u):=by
 intro pins s σ H D I h;obtain ⟨J,hj,hr⟩:=h;refine wpAny_execs_cons (thn (h1 pins s σ H { D with nx:=J } I hj) fun f s1 q=>?_);cases f with
 | next=>
  obtain ⟨σ',H',I',q⟩:=q;exact h2 pins s1 σ' H' D I' (hr σ' H' q)
 | ret v=>exact q
 | brk=>exact q
 | cont=>exact q
theorem ah {H:Hp} {p:Addr} (h:H p=none) (o:HO):Same H (upd H p o):=fun b u q=>by rw [ao (aX q h)]; exact q
theorem aE {H H':Hp} {p:Addr} {o:HO} (s:Same H H') (h:H p=none):Same H (upd H' p o):=fun b u q=>by rw [ao (aX q h)]; exact s b u q
theorem sizeBig {n:Nat} (h:n<=100000):n < sizeLine:=Nat.lt_of_le_of_lt h (by decide)
section
variable {X:Cx}
theorem PE.imp {e:Expr} {t t':TE} (h:PE X e t) (k:∀ σ H Q,t' σ H Q->t σ H Q):PE X e t':=fun pins s σ H Q I q=>h pins s σ H Q I (k σ H Q q)
theorem PT.imp {e:Expr} {t t':TT} (h:PT X e t) (k:∀ σ H Q,t' σ H Q->t σ H Q):PT X e t':=fun pins s σ H Q I q=>h pins s σ H Q I (k σ H Q q)
theorem PI.imp {tg e:Expr} {t t':TI} (h:PI X tg e t) (k:∀ σ H Q,t' σ H Q->t σ H Q):PI X tg e t':=fun pins s σ H Q I q=>h pins s σ H Q I (k σ H Q q)
theorem OpR.imp {f:Value->Value->Sem Value} {r r':R2} (h:OpR X f r) (k:∀ x y H Q,r' x y H Q->r x y H Q):OpR X f r':=fun pins s σ H x y v u Q I rx ry q=>h pins s σ H x y v u Q I rx ry (k x y H Q q)
theorem IxR.imp {r r':R2} (h:IxR X r) (k:∀ x y H Q,r' x y H Q->r x y H Q):IxR X r':=fun a b pins s σ H x y v u Q I rx ry q=>h a b pins s σ H x y v u Q I rx ry (k x y H Q q)
theorem SlR.imp {r r':V->Option Int->Option Int->Hp->VK->Prop} (h:SlR X r) (k:∀ x a b H Q,r' x a b H Q->r x a b H Q):SlR X r':=fun pins s σ H x v vl vu lo hi sl Q I rx hs pl pu q=>h pins s σ H x v vl vu lo hi sl Q I rx hs pl pu (k x lo hi H Q q)
noncomputable def cVar (i:Nat):TE:=fun σ H Q=>match σ[i]? with | some (some v)=>Q v H | _=>False
theorem qv (i:Nat) {x:Str} {pos:Pos} (hN:X.N[i]? = some x:=by rfl) (hv:Vis X.env.scope x:=by first | exact Or.inl rfl | exact Or.inr (Or.inl rfl) | exact Or.inr (Or.inr rfl)) (hd:(x == ("__debug__" : Str))=false:=by decide)
  (hcd:(x == ("__classdict__" : Str))=false:=by decide):PE X (.Name x pos) (cVar i):=(wW hN hv hd hcd).imp fun σ H Q q=>by
 unfold cVar at q;split at q
 ·exact ⟨_,by assumption,q⟩
 ·exact q.elim
theorem qs (l:List Nat) {x:Str} {j pos} (h:x=st l:=by decide +kernel):PE X (.Constant (.str x) j pos) (tC (.str (st l))):=by
 rw [<- h];exact xa
theorem b8 (a:Str):st a.cps.toList=a:=by simp
noncomputable def kAdd:R2:=fun x y H Q=>match x,y with
 | .int i,.int j=>Q (.int (i+j)) H
 | .str a,.str b=>a.cps.toList.length+b.cps.toList.length<=100000/\Q (.str (st (a.cps.toList++b.cps.toList))) H
 | .ref l,.ref b=>∃ xs zs,H l=some (.lst xs)/\H b=some (.lst zs)/\xs.length+zs.length<=sizeLine/\∀ p,H p=none->Q (.ref p) (upd H p (.lst (xs++zs)))
 | _,_=>False
theorem aj:OpR X (binaryOp .Add) kAdd:=by
 intro pins s σ H x y v u Q I rx ry q;unfold kAdd at q;split at q
 ·exact AW pins s σ H _ _ v u Q I rx ry ⟨_,_,rfl,rfl,q⟩
 ·obtain ⟨h,q⟩:=q;refine sM pins s σ H _ _ v u Q I rx ry ⟨_,_,rfl,rfl,?_,?_⟩
  ·have:(100000:Nat)<=sizeLine:=by decide
   simp only [Array.length_toList] at h;simp only [Str.length]
   lia
  ·rename_i a b;have e:a++b=st (a.cps.toList++b.cps.toList):=by
    rw [<- Ba,b8,b8]
   rw [e];exact q
 ·obtain ⟨xs,zs,h1,h2,h3,q⟩:=q;exact AU pins s σ H _ _ v u Q I rx ry ⟨_,_,_,_,rfl,rfl,h1,h2,h3,q⟩
 ·exact q.elim
noncomputable def kI (C:Int->Int->Prop) (g:Int->Int->V):R2:=fun x y H Q=>match x,y with
 | .int i,.int j=>C i j/\Q (g i j) H
 | _,_=>False
noncomputable def kI0 (g:Int->Int->V):R2:=fun x y H Q=>match x,y with
 | .int i,.int j=>Q (g i j) H
 | _,_=>False
theorem xC {C:Int->Int->Prop} {g:Int->Int->V}:∀ x y H Q,kI C g x y H Q->rI C g x y H Q:=fun x y H Q q=>by
 unfold kI at q;split at q
 ·exact ⟨_,_,rfl,rfl,q.1,q.2⟩
 ·exact q.elim
theorem qF {g:Int->Int->V}:∀ x y H Q,kI0 g x y H Q->rI0 g x y H Q:=fun x y H Q q=>by
 unfold kI0 at q;split at q
 ·exact ⟨_,_,rfl,rfl,q⟩
 ·exact q.elim
noncomputable abbrev kSub:R2:=kI0 fun i j=>.int (i - j)
noncomputable abbrev kMod:R2:=kI (fun _ j=>0 < j) fun i j=>.int (i % j)
noncomputable abbrev kFdiv:R2:=kI CDiv fun i j=>.int (i / j)
theorem j4:OpR X (binaryOp .Sub) kSub:=Aq.imp qF
theorem gT:OpR X (binaryOp .Mod) kMod:=Av.imp xC
theorem xV:OpR X (binaryOp .FloorDiv) kFdiv:=zS.imp xC
noncomputable def kMul:R2:=fun x y H Q=>match x,y with
 | .int i,.int j=>CMul i j/\Q (.int (i*j)) H
 | .str a,.int n=>∃ c,a.cps.toList=[c]/\0<=n/\n<=10000/\Q (.str (st (List.replicate n.toNat c))) H
 | .ref l,.int k=>∃ xs,H l=some (.lst xs)/\0<=k/\k<=10000/\xs.length=1/\∀ p,H p=none->Q (.ref p) (upd H p (.lst (List.replicate k.toNat xs).flatten))
 | _,_=>False
theorem vI (k n:Nat) (hn:n<=10000):MulOk ⟨#[k]⟩ (n:Int):=by
 have hl:(⟨#[k]⟩:Str).length=1:=rfl;refine ⟨?_,fun _ _=>?_,fun _ _=>?_⟩
 ·rw [decide_eq_false (by lia),decide_eq_false (by lia)];rfl
 ·rw [hl];intro z;have:(2 ^ 63 - 1) / (n:Int) < 1:=by lia
  have h2:(n:Int)<=10000:=by lia
  have h1:¬ (n:Int) < 1:=by assumption
  have h3:1<=(2 ^ 63 - 1) / (n:Int):=by
   rw [Int.le_ediv_iff_mul_le (by lia)]
   lia
  lia
 ·rw [hl];unfold PySem.Builtin.Str.tooLong sizeLine;exact decide_eq_false (by rw [Int.toNat_natCast]; have:(2:Nat) ^ 24=16777216:=(by decide); lia)
theorem be:OpR X (binaryOp .Mult) kMul:=by
 intro pins s σ H x y v u Q I rx ry q;unfold kMul at q;split at q
 ·exact Am pins s σ H _ _ v u Q I rx ry ⟨_,_,rfl,rfl,q.1,q.2⟩
 ·obtain ⟨c,e,h0,h1,q⟩:=q;rename_i a n;obtain ⟨k,rfl⟩:∃ k:Nat,n=k:=⟨n.toNat,by lia⟩;have ea:a=⟨#[c]⟩:=by rw [<- b8 a,e]
  subst ea;refine tS pins s σ H _ _ v u Q I rx ry ⟨_,_,rfl,rfl,vI c k (by lia),?_⟩;rw [mul1];exact q
 ·obtain ⟨xs,h1,h2,h3,h4,q⟩:=q;refine Ay pins s σ H _ _ v u Q I rx ry ⟨_,_,_,rfl,rfl,h1,by lia,by lia,?_,q⟩;have:(10000:Nat)<=sizeLine:=by decide
  rw [h4]
  lia
 ·exact q.elim
noncomputable def kEq (neg:Bool):R2:=fun x y H Q=>match x,y with
 | .int i,.int j=>Q (.bl (neg ^^ decide (i=j))) H
 | .str a,.str b=>Q (.bl (neg ^^ decide (a.cps.toList=b.cps.toList))) H
 | .bl a,.bl b=>Q (.bl (neg ^^ decide (a=b))) H
 | .non,.non=>Q (.bl (neg ^^ true)) H
 | .non,.int _=>Q (.bl (neg ^^ false)) H
 | .int _,.non=>Q (.bl (neg ^^ false)) H
 | .non,.str _=>Q (.bl (neg ^^ false)) H
 | .str _,.non=>Q (.bl (neg ^^ false)) H
 | _,_=>False
theorem rK (a b:Str):decide (V.str a=V.str b)=decide (a.cps.toList=b.cps.toList):=by
 by_cases h:a.cps.toList=b.cps.toList
 ·have:a=b:=by rw [<- b8 a,h,b8]
  subst this;simp
 ·rw [decide_eq_false h,decide_eq_false (fun z=>h (by cases z; rfl))]
theorem BD:∀ x y H Q,kEq false x y H Q->rEq x y H Q:=fun x y H Q q=>by
 unfold kEq at q;split at q <;> first
  | exact q.elim
  | (refine ⟨rfl,?_⟩; first | (rw [rK]; simpa using q) | simpa using q)
theorem A2:∀ x y H Q,kEq true x y H Q->rNe x y H Q:=fun x y H Q q=>by
 unfold kEq at q;split at q <;> first
  | exact q.elim
  | (refine ⟨rfl,?_⟩; first | (rw [rK]; simpa using q) | simpa using q)
theorem dM:OpR X (compareOp .Eq) (kEq false):=BK.imp BD
theorem iz:OpR X (compareOp .NotEq) (kEq true):=BY.imp A2
noncomputable abbrev kLt:R2:=kI0 fun i j=>.bl (decide (i < j))
noncomputable abbrev kGt:R2:=kI0 fun i j=>.bl (decide (j < i))
theorem Bx:OpR X (compareOp .Lt) kLt:=BU.imp qF
theorem qN:OpR X (compareOp .Gt) kGt:=BL.imp qF
noncomputable def kIs (neg:Bool):R2:=fun x y H Q=>match y with
 | .non=>Q (.bl (neg ^^ decide (x=.non))) H
 | _=>False
theorem A8:OpR X (compareOp .Is) (kIs false):=Ah.imp fun x y H Q q=>by
 unfold kIs at q;split at q
 ·exact ⟨rfl,by simpa using q⟩
 ·exact q.elim
theorem iZ:OpR X (compareOp .IsNot) (kIs true):=yR.imp fun x y H Q q=>by
 unfold kIs at q;split at q
 ·exact ⟨rfl,by simpa using q⟩
 ·exact q.elim
noncomputable def kIn (K:Frag) (neg:Bool):R2:=fun x y H Q=>match x,y with
 | .str a,.str b=>∃ c,a.cps.toList=[c]/\Q (.bl (neg ^^ decide (c ∈ b.cps.toList))) H
 | x,.ref p=>∃ xs,(SqL K H p xs\/SqT K H p xs)/\flatV x=true/\xs.all flatV=true/\Q (.bl (neg ^^ inV x xs)) H
 | _,_=>False
theorem Bz:OpR X (compareOp .In) (kIn X.K false):=by
 intro pins s σ H x y v u Q I rx ry q;unfold kIn at q;split at q
 ·obtain ⟨c,e,q⟩:=q;rename_i a b;have ea:a=⟨#[c]⟩:=by rw [<- b8 a,e]
  subst ea;refine uV pins s σ H _ _ v u Q I rx ry ⟨_,_,rfl,rfl,?_⟩;rw [StrLaws.found_one];simpa using q
 ·obtain ⟨xs,h1,h2,h3,q⟩:=q;exact vT pins s σ H _ _ v u Q I rx ry ⟨_,_,rfl,h1,h2,h3,by simpa using q⟩
 ·exact q.elim
theorem vC:OpR X (compareOp .NotIn) (kIn X.K true):=by
 intro pins s σ H x y v u Q I rx ry q;unfold kIn at q;split at q
 ·obtain ⟨c,e,q⟩:=q;rename_i a b;have ea:a=⟨#[c]⟩:=by rw [<- b8 a,e]
  subst ea;refine qE pins s σ H _ _ v u Q I rx ry ⟨_,_,rfl,rfl,?_⟩;rw [StrLaws.found_one];simpa using q
 ·obtain ⟨xs,h1,h2,h3,q⟩:=q;exact qa pins s σ H _ _ v u Q I rx ry ⟨_,_,rfl,h1,h2,h3,by simpa using q⟩
 ·exact q.elim
noncomputable def kIx (K:Frag):R2:=fun x y H Q=>match x,y with
 | .str z,.int i=>z.cps.toList.length<=100000/\∃ c,atI z.cps.toList i=some c/\Q (.str (st [c])) H
 | .ref p,.int i=>∃ xs v,(SqL K H p xs\/SqT K H p xs)/\atI xs i=some v/\Q v H
 | _,_=>False
theorem big5:(100000:Nat)<=sizeLine:=by decide
theorem strlen (z:Str):z.length=z.cps.toList.length:=by simp [Str.length]
theorem B3:IxR X (kIx X.K):=Bj.imp fun x y H Q q=>by
 unfold kIx at q;split at q
 ·obtain ⟨h,c,e,q⟩:=q;exact .inr (.inr ⟨_,_,c,rfl,rfl,by rw [strlen]; exact Nat.le_trans h big5,e,q⟩)
 ·obtain ⟨xs,v,h | h,e,q⟩:=q
  ·exact .inl ⟨_,_,_,_,rfl,rfl,h,e,q⟩
  ·exact .inr (.inl ⟨_,_,_,_,rfl,rfl,h,e,q⟩)
 ·exact q.elim
noncomputable def kLen (K:Frag):List V->Hp->VK->Prop:=fun xs H Q=>match xs with
 | [.str z]=>z.cps.toList.length<=100000/\Q (.int z.cps.toList.length) H
 | [.ref p]=>∃ ys,(SqL K H p ys\/SqT K H p ys)/\Q (.int ys.length) H
 | _=>False
theorem uU:CallR X (.builtin "len") (kLen X.K):=by
 intro pins s σ H xs us Q I r q;unfold kLen at q;split at q
 ·obtain ⟨h,q⟩:=q;refine ql pins s σ H _ us Q I r ⟨_,rfl,by rw [strlen]; exact Nat.le_trans h big5,?_⟩;rw [strlen];exact q
 ·obtain ⟨ys,h,q⟩:=q;exact qk pins s σ H _ us Q I r ⟨_,_,rfl,h,q⟩
 ·exact q.elim
noncomputable def up (t:TE):TE:=fun σ H Q=>∃ Q0:VK,t σ H Q0/\∀ v H',Q0 v H'->Q v H'
noncomputable def up2 (r:R2):R2:=fun x y H Q=>∃ Q0:VK,r x y H Q0/\∀ v H',Q0 v H'->Q v H'
theorem EP.imp {pins:List (Addr × Obj)} {σ:St} {Q Q':VK} {u:Value} {s:Shared} (h:EP X pins σ Q u s) (k:∀ v H',Q v H'->Q' v H'):EP X pins σ Q' u s:=by
 obtain ⟨v,H',I,r,q⟩:=h;exact ⟨v,H',I,r,k v H' q⟩
theorem PE.mono {e:Expr} {t:TE} (h:PE X e t):PE X e (up t):=fun pins s σ H Q I ⟨Q0,q,k⟩=>thn (h pins s σ H Q0 I q) fun u s' z=>z.imp k
theorem OpR.mono {f:Value->Value->Sem Value} {r:R2} (h:OpR X f r):OpR X f (up2 r):=fun pins s σ H x y v u Q I rx ry ⟨Q0,q,k⟩=>thn (h pins s σ H x y v u Q0 I rx ry q) fun u s' z=>z.imp k
noncomputable def blK (Q:Bool->Hp->Prop):VK:=fun x H'=>match x with | .bl k=>Q k H' | _=>False
theorem pW {Q:Bool->Hp->Prop} {x:V} {H':Hp} (h:blK Q x H'):∃ k,x=.bl k/\Q k H':=by
 unfold blK at h;split at h
 ·exact ⟨_,rfl,h⟩
 ·exact h.elim
noncomputable def cTest (t:TE):TT:=fun σ H Q=>t σ H (blK Q)
theorem im {e:Expr} {t:TE} (h:PE X e t) (he:∀ whole,isTrue e X.env whole=(do let v <- whole; standAt e.pos; holding [v] (truthy v)):=by intro _; rfl):PT X e (cTest t):=
 (Bb h.mono he).imp fun σ H Q q=>⟨_,q,fun v H' z=>pW z⟩
variable {a b c:Expr} {ta tb tc:TE} {pos:Pos} {rest:List Expr}
theorem aF {op:CmpOp} {r:R2} (ho:OpR X (compareOp op) r) (ha:PE X a ta) (hb:PE X b tb) (hm:behindInMarks op b=false:=by first | exact nomark _ | rfl):PT X (.Compare a [op] [b] pos) (cTest (tOp r ta tb)):=
 (yQ ho.mono ha.mono hb.mono hm).imp fun σ H Q q=>⟨_,q,fun x H1 z=>⟨_,z,fun y H2 z2=>⟨_,z2,fun v H' z3=>pW z3⟩⟩⟩
theorem sD {op:CmpOp} {r:R2} (ho:OpR X (compareOp op) r) (ha:PE X a ta) (hb:PE X b tb) (hm:behindInMarks op b=false:=by first | exact nomark _ | rfl):PE X (.Compare a [op] [b] pos) (tOp r ta tb):=zE ho ha hb hm
noncomputable def cAndV (ta tb:TE):TE:=fun σ H Q=>ta σ H (blK fun c H1=>if c=true then tb σ H1 Q else Q (.bl false) H1)
theorem wm (ha:PE X a ta) (hb:PE X (.BoolOp .And (b::rest) pos) tb):PE X (.BoolOp .And (a::b::rest) pos) (cAndV ta tb):=(Aj ha.mono hb).imp fun σ H Q q=>⟨_,q,fun v H' z=>pW z⟩
variable {o e:Expr} {to te:TE} {apos cpos:Pos}
noncomputable def cApp (to te:TE):TE:=fun σ H Q=>to σ H fun x H1=>match x with
 | .ref l=>(∃ xs,H1 l=some (.lst xs))/\te σ H1 fun y H2=>∃ xs,H2 l=some (.lst xs)/\xs.length < sizeLine/\Q .non (upd H2 l (.lst (xs++[y])))
 | _=>False
theorem ba (ho:PE X o to) (he:PE X e te) (hbase:attributeBase o "append" X.env (eval o X.env)=eval o X.env:=by rfl)
  (hfew:((backTo cpos (starEach [e] X.env)).all (fun x=>!x.1) && (backToKw cpos (keywordEach [] X.env)).all (fun x=>x.1.isSome)
   && decide ([e].length+([]:List Keyword).length+(if ([]:List Keyword).isEmpty then 0 else 1) < 30))=true:=by rfl)
  (hline:(apos.endLine == cpos.line)=true:=by rfl) (hs:starEach [e] X.env=(false,eval e X.env)::starEach [] X.env:=by rfl) (hplain:(backTo cpos (starEach [] X.env)).any (·.1)=false:=by rfl):
  PE X (.Call (.Attribute o "append" apos) [e] [] cpos) (cApp to te):=
 (uB PySem.F.plainAttrs_list PySem.F.slot_list_append PySem.F.type_list_append kO ho.mono (aa he.mono ad hs) hbase hfew hline hs hplain).imp fun σ H Q q=>⟨_,q,fun x H1 z=>by
  split at z
  ·rename_i l;obtain ⟨⟨xs,h⟩,z⟩:=z;refine ⟨.inl ⟨rfl,_,SqL.of h⟩,_,z,fun y H2 z2=>?_⟩;obtain ⟨xs2,h2,h3,z3⟩:=z2;exact ⟨l,xs2,y,rfl,rfl,h2,h3,z3⟩
  ·exact z.elim⟩
noncomputable def cJoin1 (K:Frag) (te:TE):TE:=fun σ H Q=>te σ H fun x H1=>match x with
 | .ref l=>∃ cs:List Nat,SqL K H1 l (cs.map fun k=>V.str (st [k]))/\cs.length<=10000/\Q (.str (st cs)) H1
 | _=>False
theorem wI {j:Nat} {p1:Pos} (he:PE X e te) (hfew:((backTo cpos (starEach [e] X.env)).all (fun x=>!x.1) && (backToKw cpos (keywordEach [] X.env)).all (fun x=>x.1.isSome)
   && decide ([e].length+([]:List Keyword).length+(if ([]:List Keyword).isEmpty then 0 else 1) < 30))=true:=by rfl)
  (hline:(apos.endLine == cpos.line)=true:=by rfl) (hs:starEach [e] X.env=(false,eval e X.env)::starEach [] X.env:=by rfl) (hplain:(backTo cpos (starEach [] X.env)).any (·.1)=false:=by rfl)
  (hbase:attributeBase (.Constant (.str (Str.ofString "")) j p1) "join" X.env (eval (.Constant (.str (Str.ofString "")) j p1) X.env)=eval (.Constant (.str (Str.ofString "")) j p1) X.env:=by rfl):
  PE X (.Call (.Attribute (.Constant (.str (Str.ofString "")) j p1) "join" apos) [e] [] cpos) (cJoin1 X.K te):=
 (uB PySem.F.plainAttrs_str PySem.F.slot_str_join PySem.F.type_str_join xr xa (aa he.mono ad hs) hbase hfew hline hs hplain).imp fun σ H Q q=>⟨rfl,_,q,fun x H1 z=>by
  split at z
  ·obtain ⟨cs,h,h2,z⟩:=z;exact ⟨_,cs,rfl,rfl,h,h2,z⟩
  ·exact z.elim⟩
end
section
variable {X:Cx} {tg a b e:Expr} {te ta tb:TE} {pos p:Pos}
noncomputable def cIter (K:Frag) (te:TE):TI:=fun σ H R=>te σ H fun x H1=>match x with
 | .str z=>R (Its z) H1
 | .ref a=>((∃ xs,SqL K H1 a xs)/\R (Itl K a) H1)\/((∃ xs,SqT K H1 a xs)/\R (Itt K a) H1)
 | _=>False
theorem yN (he:PE X e te):PI X tg e (cIter X.K te):=by
 intro pins s σ H R I h;refine thn (he pins s σ H _ I h) fun v s1 ⟨y,H1,I1,r1,q1⟩=>?_
 dsimp only at q1;split at q1
 ·rename_i x;obtain ⟨t,rfl⟩:=r1;refine wpAny_pyIter_strU ?_;refine ⟨s1.heap.objs.size,[s1.heap.objs.size],_,Its x,H1,rfl,I1.kept (t':=s1.toks) fun b o e=>Heap.get?_push_of_some _ e,wn x t _,⟨_,Heap.get?_push_size _ rfl,rfl,rfl⟩,fun b hb=>?_,q1⟩;have e:b=s1.heap.objs.size:=by simpa using hb
  subst e;exact I1.fpOk (Nat.le_refl _) (I1.hok.fresh (Nat.le_refl _))
 ·rename_i l;cases r1;rcases q1 with ⟨⟨xs,hq⟩,q⟩ | ⟨⟨xs,hq⟩,q⟩
  ·obtain ⟨its,rv,p,hz⟩:=I1.list hq;refine wpAny_pyIter_list p.isList ?_;refine ⟨s1.heap.objs.size,[s1.heap.objs.size],_,_,H1,rfl,I1.kept (t':=s1.toks) fun b o e=>Heap.get?_push_of_some _ e,vE l _,⟨_,Heap.get?_push_size _ rfl,rfl,rfl⟩,fun b hb=>?_,q⟩;have e:b=s1.heap.objs.size:=by simpa using hb
   subst e;exact I1.fpOk (Nat.le_refl _) (I1.hok.fresh (Nat.le_refl _))
  ·obtain ⟨its,rv,p,hz⟩:=I1.tuple hq;refine wpAny_pyIter_tuple (show s1.heap.IsTuple l its.toArray from p) ?_;refine ⟨s1.heap.objs.size,[s1.heap.objs.size],_,_,H1,rfl,I1.kept (t':=s1.toks) fun b o e=>Heap.get?_push_of_some _ e,tU l _,⟨_,Heap.get?_push_size _ rfl,rfl,rfl⟩,fun b hb=>?_,q⟩;have e:b=s1.heap.objs.size:=by simpa using hb
   subst e;exact I1.fpOk (Nat.le_refl _) (I1.hok.fresh (Nat.le_refl _))
 ·exact q1.elim
noncomputable def cRng1 (te:TE):TI:=fun σ H R=>te σ H fun x H1=>match x with
 | .int j=>-1000000<=j/\j<=1000000/\R (Itr 0 j.toNat) H1
 | _=>False
theorem bC (hg:Gl X "range") (hm:X.mg "range" = none) (ha:PE X a ta) (hs:starEach [a] X.env=[(false,eval a X.env)]:=by rfl):PI X tg (.Call (.Name "range" p) [a] [] pos) (cRng1 ta):=
 (v6 hg hm (aa ha.mono ad hs) hs).imp fun σ H R q=>⟨_,q,fun x H1 z=>by
  split at z
  ·exact ⟨_,rfl,by omega,by omega,z.2.2⟩
  ·exact z.elim⟩
def srcK (K:Frag) (H:Hp) (v:V) (R:Src->Prop):Prop:=match v with
 | .str x=>R (.str x)
 | .ref a=>(∃ xs,SqL K H a xs)/\R (.lst a)
 | _=>False
theorem ui {K:Frag} {H:Hp} {v:V} {R:Src->Prop} (h:srcK K H v R):∃ S,SrcOf K H S v/\R S:=by
 unfold srcK at h;split at h
 ·exact ⟨.str _,rfl,h⟩
 ·exact ⟨.lst _,⟨rfl,h.1⟩,h.2⟩
 ·exact h.elim
noncomputable def cZip (K:Frag) (ta tb:TE):TI:=fun σ H R=>ta σ H fun x H1=>tb σ H1 fun y H2=>srcK K H2 x fun S1=>srcK K H2 y fun S2=>R (Itz K S1 S2) H2
theorem AE {elts:List Expr} {kk:Nat} {tpos:Pos} (hg:Gl X "zip") (hm:X.mg "zip" = none) (ha:PE X a ta) (hb:PE X b tb) (hs:starEach [a,b] X.env=[(false,eval a X.env),(false,eval b X.env)]:=by rfl) (hs2:starEach [b] X.env=[(false,eval b X.env)]:=by rfl):
  PI X (.Tuple elts kk tpos) (.Call (.Name "zip" p) [a,b] [] pos) (cZip X.K ta tb):=
 (Bs hg hm (aa ha.mono (aa hb.mono ad hs2) (by rw [hs,hs2])) hs hs2).imp fun σ H R q=>⟨_,q,fun x H1 z=>⟨_,z,fun y H2 z=>by
  obtain ⟨S1,o1,z⟩:=ui z;obtain ⟨S2,o2,z⟩:=ui z;exact ⟨S1,S2,x,y,rfl,o1,o2,z⟩⟩⟩
end
def loopW (J:It) (g:TG) (tb:TS) (D:Ends) (σ:St) (H:Hp):Prop:=∃ W:Nat->Nat->St->Hp->Prop,(∃ m,W 0 m σ H)/\∀ i m σ H,W i m σ H ->
 (J.stop i H/\D.nx σ H)\/(J.go i H/\∃ N:St->Hp->Prop,(∀ σ' H',N σ' H'->∃ m',m' < m/\W (i+1) m' σ' H')/\∀ x H',J.yld i H x H'->g x σ H' fun σ2 H2=>tb { D with nx:=N,ct:=N,bk:=D.nx } σ2 H2)
noncomputable def cFor (wi:TI) (g:TG) (tb:TS):TS:=fun D σ H=>wi σ H fun J H1=>loopW J g tb D σ H1
theorem cu {X:Cx} {tg iter:Expr} {body:List Stmt} {wi:TI} {g:TG} {tb:TS} {pos:Pos} (hp:PassesOwn (model X.prog X.w) X.A X.env X.xe) (hc:X.calm=true) (hi:PI X tg iter wi) (hg:PG X tg g) (hb:PSs X body tb)
  (hs:∀ x,foldedSetIterable iter X.env x=pure x:=by intro _; rfl):PS X (.For tg iter body [] pos) (cFor wi g tb):=AX hp hc hi hg hb hs
section
variable {K:Frag} {g:TG} {tb:TS} {D:Ends} {σ:St} {H:Hp}
noncomputable abbrev Ends.turn (D:Ends) (N:St->Hp->Prop):Ends:={ D with nx:=N,ct:=N,bk:=D.nx }
theorem cC {p:Addr} {xs:List V} (Pv:Nat->St->Hp->Prop) (h0:Pv 0 σ H) (hl:∀ i σ H,i<=xs.length->Pv i σ H->SqL K H p xs)
  (hs:∀ i x σ H,xs[i]? = some x->Pv i σ H->g x σ H fun σ2 H2=>tb (D.turn (Pv (i+1))) σ2 H2) (hd:∀ σ H,Pv xs.length σ H->D.nx σ H):loopW (Itl K p) g tb D σ H:=xI Pv h0 hl hs hd
theorem c9 {lo:Int} {n:Nat} (Pv:Nat->St->Hp->Prop) (h0:Pv 0 σ H) (hs:∀ i σ H,i < n->Pv i σ H->g (.int (lo+i)) σ H fun σ2 H2=>tb (D.turn (Pv (i+1))) σ2 H2) (hd:∀ σ H,Pv n σ H->D.nx σ H):
  loopW (Itr lo n) g tb D σ H:=uT Pv h0 hs hd
noncomputable def SrcVals (K:Frag) (H:Hp):Src->List V->Prop
 | .str x,xs=>xs=x.cps.toList.map fun c=>V.str (st [c])
 | .lst a,xs=>SqL K H a xs
theorem SrcVals.go {S:Src} {xs:List V} {i:Nat} (h:SrcVals K H S xs) (hi:i < xs.length):SrcGo K H S i:=by
 cases S with
 | str x=>
  have e:xs=x.cps.toList.map fun c=>V.str (st [c]):=h
  subst e;show i < x.cps.size;simpa using hi
 | lst a=>exact ⟨xs,xs[i],h,by simp [hi]⟩
theorem SrcVals.stop {S:Src} {xs:List V} {i:Nat} (h:SrcVals K H S xs) (hi:xs.length<=i):SrcEnd K H S i:=by
 cases S with
 | str x=>
  have e:xs=x.cps.toList.map fun c=>V.str (st [c]):=h
  subst e;show x.cps.size<=i;simpa using hi
 | lst a=>exact ⟨xs,h,hi⟩
theorem SrcVals.at {S:Src} {xs:List V} {i:Nat} {v:V} (h:SrcVals K H S xs) (q:SrcAt K H S i v):xs[i]? = some v:=by
 cases S with
 | str x=>
  have e:xs=x.cps.toList.map fun c=>V.str (st [c]):=h
  subst e;obtain ⟨c,hc,rfl⟩:=q;simp [hc]
 | lst a=>exact q xs h
theorem SqT.upd_same {p:Addr} {xs:List V}:SqT K (upd H p (.tup xs)) p xs:=SqT.of L2.upd_same
theorem wY {S1 S2:Src} {xs ys:List V} {j k:Nat} (Pv:Nat->St->Hp->Prop) (h0:Pv 0 σ H) (hl:∀ i σ H,Pv i σ H->SrcVals K H S1 xs/\SrcVals K H S2 ys)
  (hs:∀ i x y σ H T,xs[i]? = some x->ys[i]? = some y->Pv i σ H->H T=none->tb (D.turn (Pv (i+1))) ((σ.set j (some x)).set k (some y)) (upd H T (.tup [x,y]))) (hd:∀ σ H,Pv (min xs.length ys.length) σ H->D.nx σ H):
  loopW (Itz K S1 S2) (gTup K 2 (gCons (gName j) (gCons (gName k) gNil))) tb D σ H:=
 sO (n:=min xs.length ys.length) Pv h0 (fun i σ H hi p=>by
   obtain ⟨q1,q2⟩:=hl i σ H p;exact ⟨q1.go (by omega),q2.go (by omega)⟩)
  (fun σ H p=>by
   obtain ⟨q1,q2⟩:=hl _ σ H p;by_cases h:xs.length<=ys.length
   ·exact .inl (q1.stop (by omega))
   ·exact .inr ⟨q1.go (by omega),q2.stop (by omega)⟩)
  (fun i σ H v H' hi p y=>by
   obtain ⟨T,x,y,rfl,hT,rfl,s1,s2⟩:=y;obtain ⟨q1,q2⟩:=hl i σ H p;exact ⟨T,[x,y],rfl,SqT.upd_same,rfl,x,[y],rfl,y,[],rfl,rfl,hs i x y σ H T (q1.at s1) (q2.at s2) p hT⟩) hd
end
def compW (J:It) (g:TG) (tc:TT) (te:TE) (σc:St) (D:Addr) (Q:VK) (H:Hp):Prop:=
 ∃ W:Nat->Nat->List V->Hp->Prop,(∃ m,W 0 m [] (upd H D (.lst [])))/\∀ i m acc H2,W i m acc H2 ->
  (J.stop i H2/\Q (.ref D) H2)\/(J.go i H2/\∀ x H3,J.yld i H2 x H3->g x σc H3 fun σ4 H4=>tc σ4 H4 fun b H5=>if b=true then
   te σ4 H5 fun v H6=>H6 D=some (.lst acc)/\acc.length < sizeLine/\∃ m',m' < m/\W (i+1) m' (acc++[v]) (upd H6 D (.lst (acc++[v]))) else ∃ m',m' < m/\W (i+1) m' acc H5)
noncomputable def cComp (nt:Nat) (fi:List Nat) (wi:TI) (g:TG) (tc:TT) (te:TE):TE:=fun σ H Q=>wi σ H fun J H1=>∀ D,H1 D=none->compW J g tc te (compσ nt fi σ) D Q H1
theorem aQ {X:Cx} {elt tg iter:Expr} {ifs:List Expr} {scope:Scope} {pos:Pos} {wi:TI} {g:TG} {tc:TT} {te:TE} {nt:Nat} {fi:List Nat} {N':List Str} (hcalm:X.calm=true)
  (S:CScope scope) (cn:CNames X scope nt fi N') (gk:GK nt g) (hi:PI X tg iter wi)
  (hg:∀ cl C s H ex,PG (cxC X scope cl N' C s H ex) tg g) (hc:∀ cl C s H ex,PIf (cxC X scope cl N' C s H ex) ifs tc) (he:∀ cl C s H ex,PE (cxC X scope cl N' C s H ex) elt te)
  (hs:∀ x,foldedSetIterable iter X.env x=pure x:=by intro _; rfl):PE X (.ListComp elt [⟨tg,iter,ifs,0⟩] scope pos) (cComp nt fi wi g tc te):=y8 hcalm S cn gk hi hg hc he hs
section
variable {K:Frag} {J:It} {g:TG} {tc:TT} {te:TE} {σc:St} {D:Addr} {Q:VK} {H:Hp}
theorem dL {α:Type} (f:Nat->List α) (n:Nat):(List.range (n+1)).flatMap f=(List.range n).flatMap f++f n:=by
 rw [List.range_succ,List.flatMap_append];simp
theorem nA {α:Type} (f:Nat->List α) (hf:∀ i,(f i).length<=1) (n:Nat):((List.range n).flatMap f).length<=n:=by
 induction n with
 | zero=>simp
 | succ n ih=>
  rw [dL,List.length_append];have:=hf n;omega
theorem ur {n:Nat} (f:Nat->List V) (hfree:H D=none) (hn:n<=100000) (hf:∀ i,(f i).length<=1) (hy:∀ i H x H',J.yld i H x H'->Same H H')
  (hgo:∀ i H',i < n->Same H H'->J.go i H') (hst:∀ H',Same H H'->J.stop n H')
  (hs:∀ i H1 x H2 (out:VK) (non:Hp->Prop),i < n->Same H H1->J.yld i H1 x H2->(∀ v H6,f i=[v]->Same H2 H6->out v H6)->(∀ H5,f i=[]->Same H2 H5->non H5) ->
   g x σc H2 fun σ4 H4=>tc σ4 H4 fun b H5=>if b=true then te σ4 H5 out else non H5)
  (hq:∀ H',Same H H'->H' D=some (.lst ((List.range n).flatMap f))->Q (.ref D) H'):compW J g tc te σc D Q H:=by
 refine ⟨fun i m acc H2=>m=n - i/\i<=n/\acc=(List.range i).flatMap f/\Same H H2/\H2 D=some (.lst acc),⟨n,by simp,Nat.zero_le _,by simp,ah hfree _,upd_same⟩,?_⟩;rintro i m acc H2 ⟨rfl,hi,rfl,sm,hD⟩;by_cases hlt:i < n
 ·refine .inr ⟨hgo i H2 hlt sm,fun x H3 y=>?_⟩;have s23:=hy i H2 x H3 y;refine hs i H2 x H3 _ _ hlt sm y (fun v H6 e s6=>?_) fun H5 e s5=>?_
  ·refine ⟨s6 _ _ (s23 _ _ hD),Nat.lt_of_le_of_lt (nA f hf i) (sizeBig (by omega)),n - (i+1),by omega,rfl,hlt,?_,?_,upd_same⟩
   ·rw [dL,e]
   ·exact aE (sm.trans (s23.trans s6)) hfree
  ·refine ⟨n - (i+1),by omega,rfl,hlt,?_,sm.trans (s23.trans s5),s5 _ _ (s23 _ _ hD)⟩;rw [dL,e,List.append_nil]
 ·have e:i=n:=by omega
  subst e;exact .inl ⟨hst H2 sm,hq H2 sm hD⟩
noncomputable def atH {α β:Type} (xs:List α) (h:α -> List β) (i:Nat):List β:=((xs[i]?).map h).getD []
theorem wk {α β:Type} {xs:List α} {h:α -> List β} {i:Nat} {x:α} (e:xs[i]? = some x):atH xs h i=h x:=by simp [atH,e]
theorem yq {α β:Type} {xs:List α} {h:α -> List β} (hf:∀ x,(h x).length<=1) (i:Nat):(atH xs h i).length<=1:=by
 unfold atH;cases xs[i]? with
 | none=>simp
 | some x=>simpa using hf x
theorem yI {α β:Type} (xs:List α) (h:α -> List β):(List.range xs.length).flatMap (atH xs h)=xs.flatMap h:=by
 induction xs with
 | nil=>rfl
 | cons a xs ih=>
  rw [List.length_cons,List.range_succ_eq_map,List.flatMap_cons,List.flatMap_map,List.flatMap_cons,<- ih];rfl
section
variable {α:Type} (item:α -> V) (xs:List α) (h:α -> List V)
theorem bv {p:Addr} (hfree:H D=none) (hl:SqL K H p (xs.map item)) (hn:xs.length<=100000) (hf:∀ x,(h x).length<=1)
  (hs:∀ x H1 (out:VK) (non:Hp->Prop),x ∈ xs->Same H H1->(∀ v H6,h x=[v]->Same H1 H6->out v H6)->(∀ H5,h x=[]->Same H1 H5->non H5) ->
   g (item x) σc H1 fun σ4 H4=>tc σ4 H4 fun b H5=>if b=true then te σ4 H5 out else non H5)
  (hq:∀ H',Same H H'->H' D=some (.lst (xs.flatMap h))->Q (.ref D) H'):compW (Itl K p) g tc te σc D Q H:=by
 refine ur (n:=xs.length) (atH xs h) hfree hn (yq hf) (fun i H x H' y=>?_) (fun i H' hi s=>?_) (fun H' s=>?_) (fun i H1 x H2 out non hi s y ho hnn=>?_) fun H' s q=>?_
 ·rw [y.1];exact Same.refl _
 ·exact ⟨_,item xs[i],s.seq hl,by simp [hi]⟩
 ·exact ⟨_,s.seq hl,by simp⟩
 ·obtain ⟨rfl,y⟩:=y;have e:=y _ (s.seq hl);rw [List.getElem?_map,List.getElem?_eq_getElem hi] at e;have e2:item xs[i]=x:=Option.some.inj e;subst e2;simp only [wk (List.getElem?_eq_getElem hi)] at ho hnn;exact hs xs[i] _ out non (List.getElem_mem hi) s ho hnn
 ·rw [yI] at q;exact hq H' s q
theorem nL {lo:Int} {n:Nat} {h:Nat->List V} (hfree:H D=none) (hn:n<=100000) (hf:∀ x,(h x).length<=1)
  (hs:∀ i H1 (out:VK) (non:Hp->Prop),i < n->Same H H1->(∀ v H6,h i=[v]->Same H1 H6->out v H6)->(∀ H5,h i=[]->Same H1 H5->non H5) ->
   g (.int (lo+i)) σc H1 fun σ4 H4=>tc σ4 H4 fun b H5=>if b=true then te σ4 H5 out else non H5)
  (hq:∀ H',Same H H'->H' D=some (.lst ((List.range n).flatMap h))->Q (.ref D) H'):compW (Itr lo n) g tc te σc D Q H:=by
 refine ur (n:=n) h hfree hn hf (fun i H x H' y=>?_) (fun i H' hi s=>hi) (fun H' s=>Nat.le_refl _) (fun i H1 x H2 out non hi s y ho hnn=>?_) hq
 ·rw [y.1];exact Same.refl _
 ·obtain ⟨rfl,rfl⟩:=y;exact hs i _ out non hi s ho hnn
end
end
noncomputable def cnOk (N:List Str) (sc scope:Scope) (nt:Nat) (fi:List Nat) (N':List Str):Bool:=
 N'.length == nt+fi.length && ((List.range fi.length).all fun k=>match fi[k]? with
  | some j=>match N'[nt+k]?,N[j]? with
   | some x,some y=>x == y && scope.names.lookup x == some NameKind.free
   | _,_=>false
  | none=>false) && scope.names.all fun y=>y.2 != NameKind.free || (sc.names.lookup y.1 == some NameKind.cell || sc.names.lookup y.1 == some NameKind.free)
theorem cnames {X:Cx} {N:List Str} {sc scope:Scope} {nt:Nat} {fi:List Nat} {N':List Str} (hN:X.N=N) (hsc:X.env.scope=sc) (h:cnOk N sc scope nt fi N'=true):CNames X scope nt fi N':=by
 unfold cnOk at h;simp only [Bool.and_eq_true,List.all_eq_true,List.mem_range,beq_iff_eq] at h;obtain ⟨⟨h1,h2⟩,h3⟩:=h;refine ⟨h1,fun k j e=>?_,fun y hy e=>?_⟩
 ·have hk:k < fi.length:=(List.getElem?_eq_some_iff.mp e).1;have q:=h2 k hk;rw [e] at q;dsimp only at q;split at q
  ·rename_i x y e1 e2;simp only [Bool.and_eq_true,beq_iff_eq] at q;obtain ⟨rfl,q⟩:=q;exact ⟨_,e1,by rw [hN]; exact e2,q⟩
  ·cases q
 ·have q:=h3 y hy;rw [e] at q;rw [hsc];simpa using q
theorem cscope {scope:Scope} (hk:scope.kind=.function) (h:(scope.names.all fun y=>y.2 != NameKind.cell && (y.2 != NameKind.local || scope.names.lookup y.1 == some NameKind.local))=true):CScope scope:=by
 simp only [List.all_eq_true,Bool.and_eq_true] at h;refine ⟨hk,fun y hy e=>?_,fun y hy e=>?_⟩
 ·have:=(h y hy).1;rw [e] at this;exact absurd this (by decide)
 ·have:=(h y hy).2;rw [e] at this;simpa using this
theorem bD:bootBuiltins "len" = some (.builtin "len"):=by decide +kernel
theorem wM:bootBuiltins "sum" = some (.builtin "sum"):=by decide +kernel
theorem AN:bootBuiltins "any" = some (.builtin "any"):=by decide +kernel
theorem wz:bootBuiltins "max" = some (.builtin "max"):=by decide +kernel
theorem iX:bootBuiltins "sorted" = some (.builtin "sorted"):=by decide +kernel
theorem jg:bootBuiltins "isinstance" = some (.builtin "isinstance"):=by decide +kernel
theorem lY:bootBuiltins "list" = some (.type "list"):=by decide +kernel
theorem rn:bootBuiltins "tuple" = some (.type "tuple"):=by decide +kernel
inductive Ty where
 | bool | int | str | list | tuple
noncomputable def Ty.nm:Ty->String
 | .bool => "bool" | .int => "int" | .str => "str" | .list => "list" | .tuple => "tuple"
noncomputable def Ty.isBl:Ty->Bool
 | .bool=>true | .int=>true | _=>false
noncomputable def Ty.isInt:Ty->Bool
 | .int=>true | _=>false
noncomputable def Ty.isStr:Ty->Bool
 | .str=>true | _=>false
noncomputable def Ty.isLst:Ty->Bool
 | .list=>true | _=>false
noncomputable def Ty.isTup:Ty->Bool
 | .tuple=>true | _=>false
section
variable {K:Frag}
theorem zc (n:Ty):PySem.W.kitOne K (.type "NoneType") (.type n.nm)=some false:=by cases n <;> with_unfolding_all rfl
theorem AJ (n:Ty):PySem.W.kitOne K (.type "bool") (.type n.nm)=some n.isBl:=by cases n <;> with_unfolding_all rfl
theorem zR (n:Ty):PySem.W.kitOne K (.type "int") (.type n.nm)=some n.isInt:=by cases n <;> with_unfolding_all rfl
theorem yz (n:Ty):PySem.W.kitOne K (.type "str") (.type n.nm)=some n.isStr:=by cases n <;> with_unfolding_all rfl
theorem zD (n:Ty):PySem.W.kitOne K (.type "list") (.type n.nm)=some n.isLst:=by cases n <;> with_unfolding_all rfl
theorem ze (n:Ty):PySem.W.kitOne K (.type "tuple") (.type n.nm)=some n.isTup:=by cases n <;> with_unfolding_all rfl
end
section
variable {X:Cx} {a b e:Expr} {ta tb te:TE} {pos p p2:Pos}
theorem Ad {x:Str} {n:String} (hg:Gl X x) (hm:X.mg x=none) (hv:bootBuiltins x=some (.type n)) (hn:x ≠ "__name__" := by decide) (hd:(x == ("__debug__" : Str))=false:=by decide):PE X (.Name x pos) (tC (.ty n)):=yY (v:=.ty n) hg hm hv rfl hn hd
noncomputable def cIsI (n:Ty) (ta:TE):TE:=fun σ H Q=>ta σ H fun x H1=>match x with
 | .non=>Q (.bl false) H1
 | .bl _=>Q (.bl n.isBl) H1
 | .int _=>Q (.bl n.isInt) H1
 | .str _=>Q (.bl n.isStr) H1
 | .ref p=>((∃ xs,H1 p=some (.lst xs))/\Q (.bl n.isLst) H1)\/((∃ xs,H1 p=some (.tup xs))/\Q (.bl n.isTup) H1)
 | _=>False
theorem oU {x:Str} (n:Ty) (hg:Gl X "isinstance") (hm:X.mg "isinstance" = none) (ha:PE X a ta) (hg2:Gl X x) (hm2:X.mg x=none) (hv2:bootBuiltins x=some (.type n.nm)) (hn2:x ≠ "__name__" := by decide) (hd2:(x == ("__debug__" : Str))=false:=by decide)
  (hs:starEach [a,.Name x p2] X.env=(false,eval a X.env)::starEach [.Name x p2] X.env:=by rfl) (hpl:(backTo pos (starEach [.Name x p2] X.env)).any (·.1)=false:=by rfl):PE X (.Call (.Name "isinstance" p) [a,.Name x p2] [] pos) (cIsI n ta):=
 (aB rL hg hm jg (aa ha.mono (aa (Ad hg2 hm2 hv2 hn2 hd2) ad) hs) (he:=hs) (hpl:=hpl)).imp fun σ H Q q=>⟨_,q,fun v H1 z=>by
  show ∃ x n t b,[v,V.ty _]=[x,.ty n]/\TyOf X.K H1 x t/\PySem.W.kitOne X.K t (.type n)=some b/\Q (.bl b) H1;split at z
  ·exact ⟨_,_,_,_,rfl,.non,zc n,z⟩
  ·exact ⟨_,_,_,_,rfl,.bl _,AJ n,z⟩
  ·exact ⟨_,_,_,_,rfl,.int _,zR n,z⟩
  ·exact ⟨_,_,_,_,rfl,.str _,yz n,z⟩
  ·rcases z with ⟨⟨xs,h⟩,z⟩ | ⟨⟨xs,h⟩,z⟩
   ·exact ⟨_,_,_,_,rfl,.lst h,zD n,z⟩
   ·exact ⟨_,_,_,_,rfl,.tup h,ze n,z⟩
  ·exact z.elim⟩
noncomputable def kSl (K:Frag):V->Option Int->Option Int->Hp->VK->Prop:=fun x lo hi H Q=>match x with
 | .str z=>match lo,hi with
  | none,some j=>z.cps.toList.length<=100000/\0<=j/\j<=z.cps.toList.length/\Q (.str (st (z.cps.toList.take j.toNat))) H
  | some i,none=>z.cps.toList.length<=100000/\0<=i/\i<=z.cps.toList.length/\Q (.str (st (z.cps.toList.drop i.toNat))) H
  | _,_=>False
 | .ref a=>∃ xs,SqL K H a xs/\∀ p,H p=none->Q (.ref p) (upd H p (.lst (cutV xs lo hi)))
 | _=>False
theorem B2:SlR X (kSl X.K):=by
 refine (SlR.or v9 yt).imp fun x lo hi H Q q=>?_
 unfold kSl at q;split at q
 ·rename_i z;split at q
  ·obtain ⟨h,h0,h1,q⟩:=q;rename_i j;obtain ⟨k,rfl⟩:∃ k:Nat,j=k:=⟨j.toNat,by lia⟩;refine .inl ⟨z,rfl,by rw [strlen]; exact Nat.le_trans h big5,?_⟩;have e:=wx z.cps.toList k (by lia);rw [b8] at e;rw [e];simpa using q
  ·obtain ⟨h,h0,h1,q⟩:=q;rename_i j;obtain ⟨k,rfl⟩:∃ k:Nat,j=k:=⟨j.toNat,by lia⟩;refine .inl ⟨z,rfl,by rw [strlen]; exact Nat.le_trans h big5,?_⟩;have e:=su z.cps.toList k (by lia);rw [b8] at e;rw [e];simpa using q
  ·exact q.elim
 ·obtain ⟨xs,h,q⟩:=q;exact .inr ⟨_,_,rfl,h,q⟩
 ·exact q.elim
noncomputable def kEqNil (K:Frag):R2:=fun x y H Q=>match x,y with
 | .ref a,.ref b=>∃ xs,SqL K H a xs/\SqL K H b []/\Q (.bl (decide (xs=[]))) H
 | _,_=>False
theorem Bt (hu:X.A.units < cLine):OpR X (compareOp .Eq) (kEqNil X.K):=(uW hu).imp fun x y H Q q=>by
 unfold kEqNil at q;split at q
 ·obtain ⟨xs,h1,h2,q⟩:=q;exact ⟨_,_,_,rfl,rfl,h1,h2,q⟩
 ·exact q.elim
theorem hu1 {k:Nat} {A:Around} (hr:Room k A):A.units < cLine:=hr.units0
noncomputable def cNeg (ta:TE):TE:=fun σ H Q=>ta σ H fun x H1=>match x with
 | .int i=>Q (.int (-i)) H1
 | _=>False
theorem pX (ha:PE X a ta):PE X (.UnaryOp .USub a pos) (cNeg ta):=(BT AL ha.mono).imp fun σ H Q q=>⟨_,q,fun v H1 z=>by
 split at z
 ·exact ⟨_,rfl,z⟩
 ·exact z.elim⟩
end
section
variable {X:Cx} {a b e:Expr} {ta tb te:TE} {pos p apos cpos:Pos}
theorem ixE (K:Frag) (h:X.K=K):IxR X (kIx K):=by subst h; exact B3
theorem slE (K:Frag) (h:X.K=K):SlR X (kSl K):=by subst h; exact B2
theorem lenE (K:Frag) (h:X.K=K):CallR X (.builtin "len") (kLen K):=by subst h; exact uU
theorem inE (K:Frag) (h:X.K=K):OpR X (compareOp .In) (kIn K false):=by subst h; exact Bz
theorem notinE (K:Frag) (h:X.K=K):OpR X (compareOp .NotIn) (kIn K true):=by subst h; exact vC
theorem eqNilE (K:Frag) (h:X.K=K) (hu:X.A.units < cLine):OpR X (compareOp .Eq) (kEqNil K):=by subst h; exact Bt hu
theorem joinE (K:Frag) (h:X.K=K) {j:Nat} {p1:Pos} (he:PE X e te) (hfew:((backTo cpos (starEach [e] X.env)).all (fun x=>!x.1) && (backToKw cpos (keywordEach [] X.env)).all (fun x=>x.1.isSome)
   && decide ([e].length+([]:List Keyword).length+(if ([]:List Keyword).isEmpty then 0 else 1) < 30))=true:=by rfl)
  (hline:(apos.endLine == cpos.line)=true:=by rfl) (hs:starEach [e] X.env=(false,eval e X.env)::starEach [] X.env:=by rfl) (hplain:(backTo cpos (starEach [] X.env)).any (·.1)=false:=by rfl)
  (hbase:attributeBase (.Constant (.str (Str.ofString "")) j p1) "join" X.env (eval (.Constant (.str (Str.ofString "")) j p1) X.env)=eval (.Constant (.str (Str.ofString "")) j p1) X.env:=by rfl):
  PE X (.Call (.Attribute (.Constant (.str (Str.ofString "")) j p1) "join" apos) [e] [] cpos) (cJoin1 K te):=by subst h; exact wI he hfew hline hs hplain hbase
theorem iterE (K:Frag) (h:X.K=K) {tg:Expr} (he:PE X e te):PI X tg e (cIter K te):=by subst h; exact yN he
theorem zipE (K:Frag) (h:X.K=K) {elts:List Expr} {kk:Nat} {tpos:Pos} (hg:Gl X "zip") (hm:X.mg "zip" = none) (ha:PE X a ta) (hb:PE X b tb) (hs:starEach [a,b] X.env=[(false,eval a X.env),(false,eval b X.env)]:=by rfl) (hs2:starEach [b] X.env=[(false,eval b X.env)]:=by rfl):
  PI X (.Tuple elts kk tpos) (.Call (.Name "zip" p) [a,b] [] pos) (cZip K ta tb):=by subst h; exact AE hg hm ha hb hs hs2
theorem tupE (K:Frag) (h:X.K=K) {es:List Expr} {k:Nat} {t:TGs} {n:Nat} (hc:X.calm=true) (hp:PGs X es t) (hn:(assignEach es X.env).length=n:=by rfl) (hst:(assignEach es X.env).findIdx? (·.1)=none:=by rfl):PG X (.Tuple es k pos) (gTup K n t):=by subst h; exact xG hc hp hn hst
end
section
variable {t u:TS} {te ta tb:TE} {tc:TT} {D:Ends} {σ:St} {H:Hp} {Q:VK} {R:Bool->Hp->Prop} {i:Nat} {v:V}
theorem AO:cVar i σ H Q=(match σ[i]? with | some (some v)=>Q v H | _=>False):=rfl
theorem B1:tC v σ H Q=Q v H:=rfl
theorem BE {r:R2}:tOp r ta tb σ H Q=ta σ H fun x H1=>tb σ H1 fun y H2=>r x y H2 Q:=rfl
theorem yP {a b:Int}:kAdd (.int a) (.int b) H Q=Q (.int (a+b)) H:=rfl
theorem zT {a b:List Nat}:kAdd (.str (st a)) (.str (st b)) H Q=(a.length+b.length<=100000/\Q (.str (st (a++b))) H):=rfl
theorem y0 {a b:Addr}:kAdd (.ref a) (.ref b) H Q=∃ xs zs,H a=some (.lst xs)/\H b=some (.lst zs)/\xs.length+zs.length<=sizeLine/\∀ p,H p=none->Q (.ref p) (upd H p (.lst (xs++zs))):=rfl
theorem B0 {C:Int->Int->Prop} {g:Int->Int->V} {a b:Int}:kI C g (.int a) (.int b) H Q=(C a b/\Q (g a b) H):=rfl
theorem BO {g:Int->Int->V} {a b:Int}:kI0 g (.int a) (.int b) H Q=Q (g a b) H:=rfl
theorem zJ {a b:Int}:kMul (.int a) (.int b) H Q=(CMul a b/\Q (.int (a*b)) H):=rfl
theorem zn {c:Nat} {n:Int}:kMul (.str (st [c])) (.int n) H Q=(0<=n/\n<=10000/\Q (.str (st (List.replicate n.toNat c))) H):=by
 show (∃ d,[c]=[d]/\0<=n/\n<=10000/\Q (.str (st (List.replicate n.toNat d))) H)=_;refine propext ⟨?_,fun h=>⟨c,rfl,h⟩⟩;rintro ⟨d,e,h⟩;cases e;exact h
theorem ww {n:Bool} {a b:Int}:kEq n (.int a) (.int b) H Q=Q (.bl (n ^^ decide (a=b))) H:=rfl
theorem A7 {n:Bool} {a b:List Nat}:kEq n (.str (st a)) (.str (st b)) H Q=Q (.bl (n ^^ decide (a=b))) H:=rfl
theorem AR {n:Bool} {a b:Bool}:kEq n (.bl a) (.bl b) H Q=Q (.bl (n ^^ decide (a=b))) H:=rfl
theorem zZ {n:Bool} {b:Str}:kEq n .non (.str b) H Q=Q (.bl (n ^^ false)) H:=rfl
theorem zu {n:Bool} {b:Str}:kEq n (.str b) .non H Q=Q (.bl (n ^^ false)) H:=rfl
theorem zL {n:Bool}:kEq n .non .non H Q=Q (.bl (n ^^ true)) H:=rfl
theorem BP {n:Bool} {x:V}:kIs n x .non H Q=Q (.bl (n ^^ decide (x=.non))) H:=rfl
theorem Bm {K:Frag} {n:Bool} {c:Nat} {b:List Nat}:kIn K n (.str (st [c])) (.str (st b)) H Q=Q (.bl (n ^^ decide (c ∈ b))) H:=by
 show (∃ d,[c]=[d]/\Q (.bl (n ^^ decide (d ∈ b))) H)=_;refine propext ⟨?_,fun h=>⟨c,rfl,h⟩⟩;rintro ⟨d,e,h⟩;cases e;exact h
theorem A9 {K:Frag} {n:Bool} {x:V} {p:Addr}:kIn K n x (.ref p) H Q=∃ xs,(SqL K H p xs\/SqT K H p xs)/\flatV x=true/\xs.all flatV=true/\Q (.bl (n ^^ inV x xs)) H:=by
 cases x <;> rfl
theorem Be {K:Frag} {l:List Nat} {j:Int}:kIx K (.str (st l)) (.int j) H Q=(l.length<=100000/\∃ c,atI l j=some c/\Q (.str (st [c])) H):=rfl
theorem Bg {K:Frag} {p:Addr} {j:Int}:kIx K (.ref p) (.int j) H Q=∃ xs v,(SqL K H p xs\/SqT K H p xs)/\atI xs j=some v/\Q v H:=rfl
theorem zO {K:Frag} {l:List Nat}:kLen K [.str (st l)] H Q=(l.length<=100000/\Q (.int l.length) H):=rfl
theorem yU {K:Frag} {p:Addr}:kLen K [.ref p] H Q=∃ ys,(SqL K H p ys\/SqT K H p ys)/\Q (.int ys.length) H:=rfl
theorem zN {K:Frag} {l:List Nat} {j:Int}:kSl K (.str (st l)) none (some j) H Q=(l.length<=100000/\0<=j/\j<=l.length/\Q (.str (st (l.take j.toNat))) H):=rfl
theorem vL {K:Frag} {l:List Nat} {j:Int}:kSl K (.str (st l)) (some j) none H Q=(l.length<=100000/\0<=j/\j<=l.length/\Q (.str (st (l.drop j.toNat))) H):=rfl
theorem AM {K:Frag} {p:Addr} {lo hi:Option Int}:kSl K (.ref p) lo hi H Q=∃ xs,SqL K H p xs/\∀ q,H q=none->Q (.ref q) (upd H q (.lst (cutV xs lo hi))):=rfl
theorem BR {r:V->Option Int->Option Int->Hp->VK->Prop} {tl th:TO}:tSl r te tl th σ H Q=te σ H fun x H1=>tl σ H1 fun l H2=>th σ H2 fun u H3=>r x l u H3 Q:=rfl
theorem vg {Q:Option Int->Hp->Prop}:tNoPart σ H Q=Q none H:=rfl
noncomputable def cPart (t:TE):TO:=fun σ H Q=>t σ H fun x H1=>match x with | .int i=>Q (some i) H1 | _=>False
theorem y6 {Q:Option Int->Hp->Prop}:cPart te σ H Q=te σ H fun x H1=>match x with | .int i=>Q (some i) H1 | _=>False:=rfl
theorem BB:cNeg ta σ H Q=ta σ H fun x H1=>match x with | .int i=>Q (.int (-i)) H1 | _=>False:=rfl
theorem xF {K:Frag} {a b:Addr}:kEqNil K (.ref a) (.ref b) H Q=∃ xs,SqL K H a xs/\SqL K H b []/\Q (.bl (decide (xs=[]))) H:=rfl
theorem BA {n:Ty}:cIsI n ta σ H Q=ta σ H fun x H1=>match x with
 | .non=>Q (.bl false) H1
 | .bl _=>Q (.bl n.isBl) H1
 | .int _=>Q (.bl n.isInt) H1
 | .str _=>Q (.bl n.isStr) H1
 | .ref p=>((∃ xs,H1 p=some (.lst xs))/\Q (.bl n.isLst) H1)\/((∃ xs,H1 p=some (.tup xs))/\Q (.bl n.isTup) H1)
 | _=>False:=rfl
theorem zM:cTest te σ H R=te σ H (blK R):=rfl
theorem BZ {b:Bool}:blK R (.bl b) H=R b H:=rfl
theorem zx:cAndV ta tb σ H Q=ta σ H (blK fun c H1=>if c=true then tb σ H1 Q else Q (.bl false) H1):=rfl
theorem Bo {t u:TT}:tAnd t u σ H R=t σ H fun c H1=>if c=true then u σ H1 R else R false H1:=rfl
theorem BS {t u:TT}:tOr t u σ H R=t σ H fun c H1=>if c=true then R true H1 else u σ H1 R:=rfl
theorem Bc {t:TT}:tNot t σ H R=t σ H fun c H1=>R (!c) H1:=rfl
theorem Bv:tYes σ H R=R true H:=rfl
theorem BQ:tIf tc ta tb σ H Q=tc σ H fun c H1=>if c=true then ta σ H1 Q else tb σ H1 Q:=rfl
theorem AQ:cApp ta te σ H Q=ta σ H fun x H1=>match x with
 | .ref l=>(∃ xs,H1 l=some (.lst xs))/\te σ H1 fun y H2=>∃ xs,H2 l=some (.lst xs)/\xs.length < sizeLine/\Q .non (upd H2 l (.lst (xs++[y])))
 | _=>False:=rfl
theorem xQ {K:Frag}:cJoin1 K te σ H Q=te σ H fun x H1=>match x with
 | .ref l=>∃ cs:List Nat,SqL K H1 l (cs.map fun k=>V.str (st [k]))/\cs.length<=10000/\Q (.str (st cs)) H1
 | _=>False:=rfl
theorem BC {R:List V->Hp->Prop}:tNil σ H R=R [] H:=rfl
theorem zW {t:TA} {R:List V->Hp->Prop}:tCons ta t σ H R=ta σ H fun x H1=>t σ H1 fun xs H2=>R (x::xs) H2:=rfl
theorem yF {sp:Sp} {E:XK} {t:TA}:tCall sp [] E t σ H Q=t σ H fun vs H1=>sp vs H1 Q E:=by
 unfold tCall;simp only [List.append_nil]
theorem BN {r:List V->Hp->VK->Prop} {t:TA}:tCB r t σ H Q=t σ H fun vs H1=>r vs H1 Q:=rfl
theorem Ap {t:TA}:tLst t σ H Q=t σ H fun xs H1=>xs.length<=sizeLine/\∀ p,H1 p=none->Q (.ref p) (upd H1 p (.lst xs)):=rfl
theorem AS {t:TA}:tTup t σ H Q=t σ H fun xs H1=>xs.length<=sizeLine/\∀ p,H1 p=none->Q (.ref p) (upd H1 p (.tup xs)):=rfl
theorem zy:tNext D σ H=D.nx σ H:=rfl
theorem Al:tSeq t u D σ H=t { D with nx:=u D } σ H:=rfl
theorem yX:tDrop te D σ H=te σ H fun _ H1=>D.nx σ H1:=rfl
theorem A6:tRet te D σ H=te σ H D.rt:=rfl
theorem Bl:tIfS tc t u D σ H=tc σ H fun b H1=>if b=true then t D σ H1 else u D σ H1:=rfl
theorem As {g:TG}:tAsg te g D σ H=te σ H fun x H1=>g x σ H1 D.nx:=rfl
theorem zb {R:St->Hp->Prop}:gName i v σ H R=R (σ.set i (some v)) H:=rfl
theorem zq:tJoin t u D σ H=∃ J:St->Hp->Prop,t { D with nx:=J } σ H/\∀ σ' H',J σ' H'->u D σ' H':=rfl
theorem AD {wi:TI} {g:TG}:cFor wi g t D σ H=wi σ H fun J H1=>loopW J g t D σ H1:=rfl
theorem yG {K:Frag} {R:It->Hp->Prop}:cIter K te σ H R=te σ H fun x H1=>match x with
 | .str z=>R (Its z) H1
 | .ref a=>((∃ xs,SqL K H1 a xs)/\R (Itl K a) H1)\/((∃ xs,SqT K H1 a xs)/\R (Itt K a) H1)
 | _=>False:=rfl
theorem zX {R:It->Hp->Prop}:cRng1 te σ H R=te σ H fun x H1=>match x with
 | .int j=>-1000000<=j/\j<=1000000/\R (Itr 0 j.toNat) H1
 | _=>False:=rfl
theorem Bh {K:Frag} {R:It->Hp->Prop}:cZip K ta tb σ H R=ta σ H fun x H1=>tb σ H1 fun y H2=>srcK K H2 x fun S1=>srcK K H2 y fun S2=>R (Itz K S1 S2) H2:=rfl
theorem yK {K:Frag} {z:Str} {R:Src->Prop}:srcK K H (.str z) R=R (.str z):=rfl
theorem zw {K:Frag} {p:Addr} {R:Src->Prop}:srcK K H (.ref p) R=((∃ xs,SqL K H p xs)/\R (.lst p)):=rfl
theorem yi {nt:Nat} {fi:List Nat} {wi:TI} {g:TG}:cComp nt fi wi g tc te σ H Q=wi σ H fun J H1=>∀ D,H1 D=none->compW J g tc te (compσ nt fi σ) D Q H1:=rfl
end
theorem BW {CX:CXT} {P:Program} {w:World} {K:Frag} {mg:Str->Option Value} {base:Heap} {N:List Str} {qual:Str} {scope:Scope} {f:Addr} {cd:Value} {A:Around} {outer:List Env} {s:Shared} {H:Hp} {E:XK}:(cxOf CX P w K mg base N qual scope f cd A outer s H E).K=K:=rfl
theorem Az {X:Cx} {scope:Scope} {cl:List (Str × Addr)} {N':List Str} {C:Addr} {s:Shared} {H:Hp} {ex:List Addr}:(cxC X scope cl N' C s H ex).K=X.K:=rfl
theorem BX {a b:Nat}:(([a]:List Nat)=[b])=(a=b):=by simp
theorem bw {X:Cx} {e:Expr} {te:TE} (h:PE X e te):PO X (some e) (cPart te):=fun pins s σ H Q I q=>zp h.mono pins s σ H Q I ⟨_,q,fun v H1 z=>by
 split at z
 ·exact ⟨_,rfl,z⟩
 ·exact z.elim⟩
end L2
namespace Mir
open PySem L2
noncomputable def cell (ns:List Int) (k:Nat):Int:=(ns[k]?).getD 0
noncomputable def num (c:Int):Nat->Int
 | 0=>c % 2147483647+1
 | i+1=>(num c i*48271+7*(i:Int)*(i:Int)+3) % 2147483647
noncomputable def stream (c:Int) (n:Nat):List Int:=(List.range n).map fun i=>num c (i+1) / 16
noncomputable def bit (m:Int):Nat:=if m % 2=0 then 48 else 49
noncomputable def rowSign (l e:Int):Nat:=if e % l > 0 then 45 else bit (e / 64)
noncomputable def row (c:Int) (w:Nat) (l:Int):List Nat:=(stream c w).map (rowSign l)
noncomputable def within (one other:List Nat):Bool:=(one.zip other).all fun p=>p.2 == 45 || p.2 == p.1
end Mir
namespace L2
open PySem PySem.Spec PyProof.Rows
section
variable {prog:Program} {w:World} {A:Around} {E:Value->Shared->Prop} {s:Shared}
theorem IsList.extBut' {h h':Heap} {a l:Addr} {items:Array Value} (hl:h.IsList l items) (he:Heap.ExtBut a h h') (hne:l≠a):h'.IsList l items:=by
 obtain ⟨o,ho,r⟩:=hl;exact ⟨o,he l o hne ho,r⟩
theorem rJ {it t:Addr} {items:Array Value} (apart:t≠it):∀ (mid front back:List Value) (s:Shared) (Q:List Value->Shared->Prop),items.toList=front++(mid++back)->s.heap.IsListIter it t front.length->s.heap.IsList t items ->
  (∀ g:Heap,g.IsListIter it t (front.length+mid.length)->Heap.SameBut it s.heap g->Q mid { s with heap:=g })->wpAny (model prog w) A (draw (.ref it) mid.length) Q E s
 | [],front,_,s,Q,_,at0,_,k=>wpAny_pure (k s.heap at0 (Heap.SameBut.refl ..))
 | x::mid,front,back,s,Q,e,at0,il,k=>by
  have here:items[front.length]? = some x:=by
   rw [<- Array.getElem?_toList,e,List.getElem?_append_right (Nat.le_refl _),Nat.sub_self];rfl
  refine wpAny_bind (m:=pyNext (.ref it)) (wpAny_pyNext_list_item at0 il here fun g1 at1 t1=>?_);refine wpAny_bind (wpAny_holding (rJ apart mid (front++[x]) back _ _ (by rw [e]; simp) (by rw [List.length_append]; exact at1) (IsList.extBut' il t1.extBut apart) fun g2 at2 t2=>wpAny_pure (k g2 ?_ (t1.trans t2))));have sum:(front++[x]).length+mid.length=front.length+(x::mid).length:=by
   simp only [List.length_append,List.length_cons,List.length_nil]
   lia
  rw [sum] at at2;exact at2
theorem kM {t:Addr} {items:Array Value} {Q:List Value->Shared->Prop} (hh:A.handled=none) (ht:s.heap.IsList t items)
  (k:∀ g,Heap.ExtBut s.heap.objs.size s.heap g->Q items.toList { s with heap:=g }):wpAny (model prog w) A (unpackItems (.ref t) items.size none) Q E s:=by
 have below:t≠s.heap.objs.size:=Nat.ne_of_lt (let ⟨_,q,_⟩:=ht; Heap.lt_size q);have still:(s.heap.push { cls:=.type "list_iterator",data:=.fields #[.ref t,.int 0 0] }).IsList t items:=let ⟨o,q,r⟩:=ht; ⟨o,Heap.get?_push_of_some _ q,r⟩
 unfold unpackItems notIterableAtAll;refine wpAny_bind (wpAny_bind (wpAny_specialOf ht.typeIs slot_list_iter.lookup (wpAny_pure ?_)));rw [if_neg (by decide)];refine wpAny_bind (wpAny_holding (wpAny_pyIter_list ht ?_));have whole:=rJ (prog:=prog) (w:=w) (A:=A) (E:=E) (items:=items) below items.toList [] [] { s with heap:=s.heap.push { cls:=.type "list_iterator",data:=.fields #[.ref t,.int 0 0] } };rw [Array.length_toList] at whole;refine wpAny_bind (wpAny_holding (whole _ (by simp) ⟨_,Heap.get?_push_size _ rfl,rfl,rfl⟩ still fun g1 at1 t1=>?_));rw [if_neg (by simp)];refine wpAny_bind (wpAny_holding (wpAny_pyNext_list_end hh at1 (IsList.extBut' still t1.extBut below) (by simp) fun g2 t2=>?_));rw [if_neg (by simp)];exact wpAny_pure (k g2 fun b o nb q=>t2 b o nb (t1.extBut b o nb (Heap.get?_push_of_some _ q)))
theorem jT {env:Env} {elts:List Expr} {x1} {pos:Pos} {t:Addr} {items:Array Value} {Q:Unit->Shared->Prop} (hh:A.handled=none) (ht:s.heap.IsList t items)
  (hn:(assignEach elts env).length=items.size) (hstar:(assignEach elts env).findIdx? (·.1)=none)
  (h:∀ h',Heap.ExtBut s.heap.objs.size s.heap h'->wpAny (model prog w) A (assignInOrder ((assignEach elts env).map (·.2)) items.toList) Q E { s with heap:=h' }):
  wpAny (model prog w) A (assign (.Tuple elts x1 pos) env (.ref t)) Q E s:=by
 rw [assign_Tuple];refine wpAny_bind (wpAny_standAt ?_);unfold unpack;rw [hn,hstar];exact wpAny_bind (wpAny_holding (kM hh ht h))
end
section
variable {X:Cx} {pos:Pos}
noncomputable def gSeq (K:Frag) (n:Nat) (t:TGs):TG:=fun v σ H Q=>match v with
 | .ref a=>∃ xs,(SqL K H a xs\/SqT K H a xs)/\xs.length=n/\t xs σ H Q
 | _=>False
theorem seqE (K:Frag) (hK:X.K=K) {es:List Expr} {k:Nat} {t:TGs} {n:Nat} (hc:X.calm=true) (h:PGs X es t)
  (hn:(assignEach es X.env).length=n:=by rfl) (hst:(assignEach es X.env).findIdx? (·.1)=none:=by rfl):PG X (.Tuple es k pos) (gSeq K n t):=by
 subst hK;intro pins s σ H v u Q I r hw;unfold gSeq at hw;split at hw
 ·rename_i a;obtain ⟨xs,hq,hl,hw⟩:=hw;rcases hq with hq | hq
  ·cases r;obtain ⟨its,rv,ht,hz⟩:=I.list hq;refine jT (I.ok.hd hc) ht.isList (by simp [hn,<- hl,rv.length]) hst fun h' hx=>?_
   have I1:Inv X pins σ H { s with heap:=h' }:=I.kept (t':=s.toks) fun b o e=>hx b o (Nat.ne_of_lt (Heap.lt_size e)) e
   exact h pins _ σ H xs _ Q I1 (by simpa using rv) hw
  ·exact xG hc h hn hst pins s σ H _ u Q I r ⟨_,xs,rfl,hq,hl,hw⟩
 ·exact hw.elim
end
section
variable {t:TG} {u:TGs} {σ:St} {H:Hp} {Q:St->Hp->Prop} {v:V} {r:List V} {K:Frag} {n:Nat} {p:Addr}
theorem yu:gCons t u (v::r) σ H Q=t v σ H fun σ' H'=>u r σ' H' Q:=by
 refine propext ⟨?_,fun h=>⟨v,r,rfl,h⟩⟩;rintro ⟨v',r',e,h⟩;cases e;exact h
theorem Bd:gNil [] σ H Q=Q σ H:=propext ⟨fun h=>h.2,fun h=>⟨rfl,h⟩⟩
theorem Ax:gSeq K n u (.ref p) σ H Q=∃ xs,(SqL K H p xs\/SqT K H p xs)/\xs.length=n/\u xs σ H Q:=rfl
end
noncomputable def rep (c d:Nat) (l:List Nat):List Nat:=l.map fun k=>if k=c then d else k
section
variable {X:Cx} {o e:Expr} {to te:TE} {apos cpos p1 p2:Pos} {j1 j2:Nat}
noncomputable def kList (K:Frag):List V->Hp->VK->Prop:=fun xs H Q=>match xs with
 | [.str z]=>z.cps.toList.length<=100000/\∀ p,H p=none->Q (.ref p) (upd H p (.lst (z.cps.toList.map fun c=>V.str (st [c]))))
 | [.ref a]=>∃ ys,(SqL K H a ys\/SqT K H a ys)/\∀ p,H p=none->Q (.ref p) (upd H p (.lst ys))
 | _=>False
theorem tw {x:Str} {acc:Array Value} (h:ItemsOf (SignAt x) acc x.cps.size):Vals (x.cps.toList.map fun c=>V.str (st [c])) acc.toList:=by
 obtain ⟨hs,hi⟩:=h;have key:∀ (l:List Nat) (us:List Value),l.length=us.length->(∀ (j:Nat) (v:Value),us[j]? = some v->∃ (c:Nat) (u:Tok),l[j]? = some c/\v=Value.str ⟨#[c]⟩ u)->Vals (l.map fun c=>V.str (st [c])) us:=by
  intro l
  induction l with
  | nil=>
   intro us hl _;cases us with
   | nil=>exact .nil
   | cons=>cases hl
  | cons a l ih=>
   intro us hl hq;cases us with
   | nil=>cases hl
   | cons v us=>
    obtain ⟨c,u,e,rfl⟩:=hq 0 v rfl;cases e;exact .cons ⟨u,rfl⟩ (ih us (by simpa using hl) fun j w hj=>hq (j+1) w hj)
 refine key _ _ (by simp [hs]) fun j v hj=>?_
 obtain ⟨c,u,e,rfl⟩:=hi j v (by simpa using hj);exact ⟨c,u,by simpa using e,rfl⟩
theorem nN (K:Frag) (hK:X.K=K) (hc:X.calm=true):CallR X (.type "list") (kList K):=by
 subst hK;intro pins s σ H xs us Q I r q;unfold kList at q;split at q
 ·obtain ⟨hl,q⟩:=q;rename_i z;obtain ⟨u,rfl,t,rfl⟩:=vals1 r;have hz:z.cps.size<=sizeLine:=by
   have:=big5;simp only [Array.length_toList] at hl
   lia
  refine tokQ I.tk (call_list_str (I.ok.hd hc) z t (fun h' tk acc c' kp ho hi (htk:0 < tk)=>?_) hz);refine ⟨.ref s.heap.objs.size,_,I.laid (a:=s.heap.objs.size) (o:=.lst (z.cps.toList.map fun c=>V.str (st [c]))) kp (Nat.le_refl _) ⟨?_,acc.toList,c',tw hi,by simpa using ho⟩,rfl,q _ I.fresh⟩;rw [List.length_map];simpa using hz
 ·obtain ⟨ys,h,q⟩:=q;exact qK pins s σ H _ us Q I r ⟨_,ys,rfl,h,q⟩
 ·exact q.elim
theorem xT {K:Frag} {l:List Nat} {H:Hp} {Q:VK}:kList K [.str (st l)] H Q=(l.length<=100000/\∀ p,H p=none->Q (.ref p) (upd H p (.lst (l.map fun c=>V.str (st [c]))))):=rfl
theorem wX {K:Frag} {a:Addr} {H:Hp} {Q:VK}:kList K [.ref a] H Q=∃ ys,(SqL K H a ys\/SqT K H a ys)/\∀ p,H p=none->Q (.ref p) (upd H p (.lst ys)):=rfl
end
section
variable {X:Cx} {a:Expr} {ta:TE} {p pos:Pos}
theorem qp:bootBuiltins "enumerate" = some (.type "enumerate"):=by decide +kernel
end
section
variable {X:Cx}
noncomputable def kSum (K:Frag):List V->Hp->VK->Prop:=fun xs H Q=>match xs with
 | [.ref p]=>∃ ns:List Int,SqL K H p (ns.map V.int)/\Q (.int ns.sum) H
 | _=>False
theorem oX (K:Frag) (hK:X.K=K) (hc:X.calm=true):CallR X (.builtin "sum") (kSum K):=by
 subst hK;intro pins s σ H xs us Q I r q;unfold kSum at q;split at q
 ·obtain ⟨ns,hq,q⟩:=q;obtain ⟨u,rfl,ru⟩:=vals1 r;cases ru;obtain ⟨its,rv,pl,_⟩:=I.list hq;have hi:=tY rv;obtain ⟨xs,e⟩:=hi.allInts.items;have hn:=hi.numsOf;refine tokQ I.tk (sum_intListG (I.ok.hd hc) (xs:=xs) (by rw [<- e]; exact pl.isList) fun h' tk t' kp (htk:0 < tk)=>?_);have e2:preSum (numAt xs) xs.size=ns.sum:=by
   rw [preSum_eq,List.take_of_length_le (by simp),<- nums_intItems,<- e];show (numsOf its).sum=ns.sum;rw [hn]
  rw [e2];exact ⟨.int ns.sum,H,I.kept kp,⟨_,rfl⟩,q⟩
 ·exact q.elim
theorem Ar {K:Frag} {p:Addr} {H:Hp} {Q:VK}:kSum K [.ref p] H Q=∃ ns:List Int,SqL K H p (ns.map V.int)/\Q (.int ns.sum) H:=rfl
end
theorem tm (t:SetTable) (es:Array (Int × Value)) (h:Int) (x:Value):(layNew t es h x).2.1.led=t.led/\(t.plain=false->(layNew t es h x).2.1.plain=false):=by
 unfold layNew;split
 ·rename_i slot wd e;show ((t.put slot).1.orStandIn _).led=_/\(_->((t.put slot).1.orStandIn _).plain=false);unfold SetTable.orStandIn;split
  ·exact ⟨rfl,fun q=>q⟩
  ·exact ⟨rfl,fun _=>rfl⟩
 ·exact ⟨rfl,fun _=>rfl⟩
theorem wB {mask finger moves:Nat} {led plain:Bool} {hs:Array Int} {r:SetTable × Array Nat} (h:SetTable.laid mask finger moves led plain hs=some r):r.1.led=led/\r.1.plain=plain:=by
 unfold SetTable.laid at h;cases q:SetTable.layClean mask hs with
 | none=>rw [q] at h; cases h
 | some ow=>
  rw [q] at h;cases h;exact ⟨rfl,rfl⟩
theorem pK (t:SetTable) (es:Array (Int × Value)) (n:Nat):(relayAll t es n).2.1.led=t.led/\(t.plain=false->(relayAll t es n).2.1.plain=false):=by
 unfold relayAll;split
 ·rename_i t' order e;have q:=wB e;dsimp only;split
  ·exact ⟨q.1,fun z=>q.2.trans z⟩
  ·exact ⟨rfl,fun _=>rfl⟩
 ·exact ⟨rfl,fun _=>rfl⟩
section
variable {prog:Program} {w:World} {A:Around} {E:Value->Shared->Prop} {s:Shared}
noncomputable def addT (ss:List Str) (x:Str):List Str:=if x ∈ ss then ss else ss++[x]
theorem md {a:Addr} {es es':Array (Int × Value)} {ep:Nat} {t t':SetTable} (ho:s.heap.get? a=some { cls:=.type "set",dict:=none,data:=.set es ep t,slots:=#[] }):
  (s.heap.update a (Obj.putSet es' t')).get? a=some { cls:=.type "set",dict:=none,data:=.set es' (ep+1) t',slots:=#[] }:=
 Heap.get?_update_self (Obj.putSet es' t') ho rfl
end
noncomputable def dd (l:List Str):List Str:=l.foldl addT []
theorem xo {ss:List Str} {x y:Str}:y ∈ addT ss x ↔ y ∈ ss\/y=x:=by
 unfold addT;split
 ·rename_i h;exact ⟨.inl,fun q=>q.elim id fun e=>e ▸ h⟩
 ·simp
theorem mK (l:List Str):∀ (ss:List Str) (y:Str),y ∈ l.foldl addT ss ↔ y ∈ ss\/y ∈ l:=by
 induction l with
 | nil=>intro ss y; simp
 | cons x l ih=>
  intro ss y;rw [List.foldl_cons,ih,xo,List.mem_cons];exact ⟨fun q=>q.elim (fun z=>z.elim .inl fun e=>.inr (.inl e)) fun z=>.inr (.inr z),fun q=>q.elim (fun z=>.inl (.inl z)) fun z=>z.elim (fun e=>.inl (.inr e)) .inr⟩
theorem sU {l:List Str} {y:Str}:y ∈ dd l ↔ y ∈ l:=by
 unfold dd;rw [mK];simp
theorem sQ {ss:List Str} (h:ss.Nodup) (x:Str):(addT ss x).Nodup:=by
 unfold addT;split
 ·exact h
 ·rename_i n;rw [List.nodup_append];exact ⟨h,by simp,fun a ha b hb=>by rw [List.mem_singleton.mp hb]; exact fun e=>n (e ▸ ha)⟩
theorem ky (l:List Str):∀ ss:List Str,ss.Nodup->(l.foldl addT ss).Nodup:=by
 induction l with
 | nil=>intro ss h; exact h
 | cons x l ih=>intro ss h; exact ih _ (sQ h x)
theorem r8 (l:List Str):(dd l).Nodup:=ky l [] List.nodup_nil
section
variable {prog:Program} {w:World} {A:Around} {R:Result->Shared->Prop} {I:Addr} {fp wr:List Addr} {G:Array GenState->Array GenState->Prop} {n:Nat} {P:Nat->Value->Prop} {St:Nat->Shared->Prop}
end
section
variable {prog:Program} {w:World} {A:Around} {E:Value->Shared->Prop} {s:Shared}
end
theorem jA {α:Type}:∀ {l:List α} {i:Nat} (hi:i < l.length),(l[i]::l.eraseIdx i).Perm l
 | _::_,0,_=>List.Perm.refl _
 | x::l,i+1,hi=>by
  have:=jA (l:=l) (i:=i) (Nat.lt_of_succ_lt_succ hi);simp only [List.getElem_cons_succ,List.eraseIdx_cons_succ];exact (List.Perm.swap x _ _).trans (List.Perm.cons x this)
section
variable {M:Model} {A:Around} {E:Value->Shared->Prop}
end
section
variable {prog:Program} {w:World} {A:Around} {E:Value->Shared->Prop} {s:Shared}
end
section
variable {prog:Program} {w:World} {A:Around} {E:Value->Shared->Prop} {s:Shared} {it a:Addr} {es:Array (Int × Value)} {n ep i:Nat} {t:SetTable}
end
section
variable {prog:Program} {w:World} {A:Around} {E:Value->Shared->Prop} {s:Shared} {it a:Addr} {es:Array (Int × Value)} {n ep i:Nat} {t:SetTable}
end
section
variable {prog:Program} {w:World} {A:Around} {E:Value->Shared->Prop} {s:Shared} {it a:Addr} {es:Array (Int × Value)} {n ep i:Nat} {t:SetTable}
end
section
variable {prog:Program} {w:World} {A:Around} {E:Value->Shared->Prop} {s:Shared}
end
section
variable {prog:Program} {w:World} {A:Around} {E:Value->Shared->Prop} {s:Shared}
end
noncomputable def ins (x:List Nat):List (List Nat)->List (List Nat)
 | []=>[x]
 | y::r=>if x=y then y::r else if x < y then x::y::r else y::ins x r
noncomputable def srt (l:List (List Nat)):List (List Nat):=l.foldr ins []
theorem ug (a:List Nat):¬ a < a:=List.lt_irrefl a
theorem xi {a b c:List Nat} (h:a < b) (k:b < c):a < c:=List.lt_trans h k
theorem tP (a b:List Nat) (h:¬ a=b) (k:¬ a < b):b < a:=by
 rcases Std.Trichotomous.rel_or_eq_or_rel_swap (r:=fun (a b:List Nat)=>a < b) (a:=a) (b:=b) with q | q | q
 ·exact absurd q k
 ·exact absurd q h
 ·exact q
theorem qL (x:List Nat):∀ (l:List (List Nat)) (y:List Nat),y ∈ ins x l ↔ y=x\/y ∈ l
 | [],y=>by simp [ins]
 | z::r,y=>by
  unfold ins;split
  ·rename_i e; subst e; simp
  ·split
   ·simp
   ·rw [List.mem_cons,qL x r y,List.mem_cons];constructor
    ·rintro (q | q | q)
     ·exact .inr (.inl q)
     ·exact .inl q
     ·exact .inr (.inr q)
    ·rintro (q | q | q)
     ·exact .inr (.inl q)
     ·exact .inl q
     ·exact .inr (.inr q)
theorem fB {l:List (List Nat)} {y:List Nat}:y ∈ srt l ↔ y ∈ l:=by
 induction l with
 | nil=>simp [srt]
 | cons x l ih=>
  show y ∈ ins x (srt l) ↔ _;rw [qL,ih,List.mem_cons]
theorem mQ (x:List Nat):∀ l:List (List Nat),l.Pairwise (· < ·)->(ins x l).Pairwise (· < ·)
 | [],_=>by simp [ins]
 | z::r,h=>by
  obtain ⟨h1,h2⟩:=List.pairwise_cons.mp h;unfold ins;split
  ·exact h
  ·rename_i ne;split
   ·rename_i lt;refine List.pairwise_cons.mpr ⟨fun y hy=>?_,h⟩;rcases List.mem_cons.mp hy with rfl | hy
    ·exact lt
    ·exact xi lt (h1 y hy)
   ·rename_i nlt;refine List.pairwise_cons.mpr ⟨fun y hy=>?_,mQ x r h2⟩;rcases (qL x r y).mp hy with rfl | hy
    ·exact tP _ _ ne nlt
    ·exact h1 y hy
theorem gz (l:List (List Nat)):(srt l).Pairwise (· < ·):=by
 induction l with
 | nil=>exact List.Pairwise.nil
 | cons x l ih=>exact mQ x _ ih
theorem iG:∀ (l m:List (List Nat)),l.Pairwise (· < ·)->m.Pairwise (· < ·)->(∀ x,x ∈ l ↔ x ∈ m)->l=m
 | [],[],_,_,_=>rfl
 | [],y::m,_,_,h=>by have:=(h y).mpr List.mem_cons_self; cases this
 | x::l,[],_,_,h=>by have:=(h x).mp List.mem_cons_self; cases this
 | x::l,y::m,hl,hm,h=>by
  obtain ⟨l1,l2⟩:=List.pairwise_cons.mp hl;obtain ⟨m1,m2⟩:=List.pairwise_cons.mp hm;have e:x=y:=by
   rcases List.mem_cons.mp ((h x).mp List.mem_cons_self) with q | q
   ·exact q
   ·rcases List.mem_cons.mp ((h y).mpr List.mem_cons_self) with q' | q'
    ·exact q'.symm
    ·exact absurd (xi (m1 x q) (l1 y q')) (ug _)
  subst e;rw [iG l m l2 m2 fun z=>⟨fun q=>?_,fun q=>?_⟩]
  ·rcases List.mem_cons.mp ((h z).mp (List.mem_cons_of_mem _ q)) with e | q'
   ·exact absurd (e ▸ l1 z q) (ug _)
   ·exact q'
  ·rcases List.mem_cons.mp ((h z).mpr (List.mem_cons_of_mem _ q)) with e | q'
   ·exact absurd (e ▸ m1 z q) (ug _)
   ·exact q'
theorem ic:∀ (p:Str) (l:List Str),risingS p l=true->(p::l).Pairwise fun a b=>¬ b.cps.toList < a.cps.toList
 | p,[],_=>by simp
 | p,x::r,h=>by
  unfold risingS at h;rw [Bool.and_eq_true,ltCps_eq] at h;have h1:¬ x.cps.toList < p.cps.toList:=by simpa using h.1
  have h2:=ic x r h.2;refine List.pairwise_cons.mpr ⟨fun y hy=>?_,h2⟩;rcases List.mem_cons.mp hy with rfl | hy
  ·exact h1
  ·intro z;have h3:=(List.pairwise_cons.mp h2).1 y hy;by_cases e:y.cps.toList=x.cps.toList
   ·exact h1 (e ▸ z)
   ·exact h1 (xi (tP _ _ e h3) z)
theorem kK (l:List Str) (h:sortedS l=true):l.Pairwise fun a b=>¬ b.cps.toList < a.cps.toList:=by
 cases l with
 | nil=>exact List.Pairwise.nil
 | cons x r=>exact ic x r h
theorem uK {ls:List (List Nat)} {ss':List Str} (hp:ss'.Perm (dd (ls.map st))) (hs:sortedS ss'=true):ss'=(srt ls).map st:=by
 have nd:ss'.Nodup:=hp.nodup_iff.mpr (r8 _);have back:ss'=(ss'.map fun x=>x.cps.toList).map st:=by
  rw [List.map_map]
  conv=>lhs; rw [<- List.map_id ss']
  rfl
 rw [back];congr 1;refine iG _ _ ?_ (gz ls) fun x=>?_
 ·rw [List.pairwise_map];refine (List.Pairwise.and (kK ss' hs) nd).imp fun {a b} ⟨h1,h2⟩=>?_
  refine tP _ _ (fun e=>h2 ?_) h1;obtain ⟨a⟩:=a;obtain ⟨b⟩:=b;exact congrArg Str.mk (Array.toList_inj.mp e).symm
 ·rw [fB,List.mem_map];constructor
  ·rintro ⟨y,hy,rfl⟩;have:=sU.mp (hp.mem_iff.mp hy);obtain ⟨z,hz,rfl⟩:=List.mem_map.mp this;exact hz
  ·intro hx;exact ⟨st x,hp.mem_iff.mpr (sU.mpr (List.mem_map.mpr ⟨x,hx,rfl⟩)),rfl⟩
section
variable {prog:Program} {w:World} {A:Around} {E:Value->Shared->Prop} {s:Shared}
end
section
variable {X:Cx}
theorem oN:∀ {out:List Value} {ys:List Str},StrsAre out ys->Vals (ys.map V.str) out
 | _,_,.nil=>.nil
 | _,_,.cons y t r=>.cons ⟨t,rfl⟩ (oN r)
end
inductive D where
 | f (v:V) | l (xs:List D) | t (xs:List D)
mutual
noncomputable def eqD:D->D->Bool
 | .f x,.f y=>eqV x y
 | .l xs,.l ys=>eqDs xs ys
 | .t xs,.t ys=>eqDs xs ys
 | .f _,.l _=>false
 | .f _,.t _=>false
 | .l _,.f _=>false
 | .l _,.t _=>false
 | .t _,.f _=>false
 | .t _,.l _=>false
noncomputable def eqDs:List D->List D->Bool
 | [],[]=>true
 | x::xs,y::ys=>eqD x y && eqDs xs ys
 | [],_::_=>false
 | _::_,[]=>false
end
noncomputable def Deep (K:Frag) (H:Hp):Nat->V->D->Prop
 | 0,v,d=>d=.f v/\flatV v=true
 | n+1,v,d=>(d=.f v/\flatV v=true)\/(∃ a vs ds,v=.ref a/\d=.l ds/\SqL K H a vs/\Paired (Deep K H n) vs ds)\/(∃ a vs ds,v=.ref a/\d=.t ds/\SqT K H a vs/\Paired (Deep K H n) vs ds)
theorem gg:∀ {xs ys:List D},xs.length≠ys.length->eqDs xs ys=false
 | [],[],h=>absurd rfl h
 | [],_::_,_=>by rw [eqDs]
 | _::_,[],_=>by rw [eqDs]
 | x::xs,y::ys,h=>by
  rw [eqDs,gg (xs:=xs) (ys:=ys) (fun e=>h (by simp [e])),Bool.and_false]
theorem qZ {v:V} (h:flatV v=true):eqV v v=true:=by
 cases v <;> simp_all [flatV,eqV]
section
variable {X:Cx} {pins:List (Addr × Obj)} {σ:St} {H:Hp} {s:Shared}
theorem vR {A:Around} {l:Addr} {items:Array Value} {y:V} {v:Value} (hl:s.heap.IsList l items) (hu:A.units < cLine) (r:RelV y v) (f:flatV y=true):SeqAt.EqAt A s (.ref l) v false:=by
 cases y with
 | non=>cases r; exact .list_none hl hu
 | bl b=>cases r; exact .list_bool b hl hu
 | int i=>obtain ⟨t,rfl⟩:=r; exact .list_int i t hl hu
 | str x=>obtain ⟨t,rfl⟩:=r; exact .list_str x t hl hu
 | _=>exact absurd (show false=true from f) Bool.false_ne_true
theorem vH {A:Around} {l:Addr} {items:Array Value} {y:V} {v:Value} (hl:s.heap.IsList l items) (hu:A.units < cLine) (r:RelV y v) (f:flatV y=true):SeqAt.EqAt A s v (.ref l) false:=by
 cases y with
 | non=>cases r; exact .none_list hl hu
 | bl b=>cases r; exact .bool_list b hl hu
 | int i=>obtain ⟨t,rfl⟩:=r; exact .int_list i t hl hu
 | str x=>obtain ⟨t,rfl⟩:=r; exact .str_list x t hl hu
 | _=>exact absurd (show false=true from f) Bool.false_ne_true
theorem sL {A:Around} {l:Addr} {items:Array Value} {y:V} {v:Value} (hl:s.heap.IsTuple l items) (hu:A.units < cLine) (r:RelV y v) (f:flatV y=true):SeqAt.EqAt A s (.ref l) v false:=by
 cases y with
 | non=>cases r; exact .tuple_none hl hu
 | bl b=>cases r; exact .tuple_bool b hl hu
 | int i=>obtain ⟨t,rfl⟩:=r; exact .tuple_int i t hl hu
 | str x=>obtain ⟨t,rfl⟩:=r; exact .tuple_str x t hl hu
 | _=>exact absurd (show false=true from f) Bool.false_ne_true
theorem tO {A:Around} {l:Addr} {items:Array Value} {y:V} {v:Value} (hl:s.heap.IsTuple l items) (hu:A.units < cLine) (r:RelV y v) (f:flatV y=true):SeqAt.EqAt A s v (.ref l) false:=by
 cases y with
 | non=>cases r; exact .none_tuple hl hu
 | bl b=>cases r; exact .bool_tuple b hl hu
 | int i=>obtain ⟨t,rfl⟩:=r; exact .int_tuple i t hl hu
 | str x=>obtain ⟨t,rfl⟩:=r; exact .str_tuple x t hl hu
 | _=>exact absurd (show false=true from f) Bool.false_ne_true
theorem rO (I:Inv X pins σ H s) {a:Addr} {vs ws:List V} (h:SqL X.K H a vs) (k:SqT X.K H a ws):False:=by
 obtain ⟨_,_,p1,_⟩:=I.list h;obtain ⟨_,_,p2,_⟩:=I.tuple k;exact SeqAt.ne_of_list_tuple p1.isList p2 rfl
theorem kS (I:Inv X pins σ H s):∀ (n:Nat) (v:V) (d d':D),Deep X.K H n v d->Deep X.K H n v d'->eqD d d'=true
 | 0,v,d,d',⟨e,f⟩,⟨e',_⟩=>by subst e; subst e'; rw [eqD]; exact qZ f
 | n+1,v,d,d',h,h'=>by
  have pr:∀ (vs:List V) (ds ds':List D),Paired (Deep X.K H n) vs ds->Paired (Deep X.K H n) vs ds'->eqDs ds ds'=true:=by
   intro vs
   induction vs with
   | nil=>intro ds ds' p q; cases p; cases q; rw [eqDs]
   | cons v vs ih=>
    intro ds ds' p q;cases p with
    | cons p1 p2=>cases q with
     | cons q1 q2=>rw [eqDs,kS I n v _ _ p1 q1,ih _ _ p2 q2]; rfl
  rcases h with ⟨e,f⟩ | ⟨a,vs,ds,rfl,rfl,ha,p⟩ | ⟨a,vs,ds,rfl,rfl,ha,p⟩
  ·rcases h' with ⟨e',_⟩ | ⟨a',vs',ds',rfl,_⟩ | ⟨a',vs',ds',rfl,_⟩
   ·subst e; subst e'; rw [eqD]; exact qZ f
   ·exact absurd (show false=true from f) Bool.false_ne_true
   ·exact absurd (show false=true from f) Bool.false_ne_true
  ·rcases h' with ⟨_,f⟩ | ⟨a',vs',ds',e,rfl,ha',p'⟩ | ⟨a',vs',ds',e,rfl,ha',p'⟩
   ·exact absurd (show false=true from f) Bool.false_ne_true
   ·cases e;obtain rfl:=I.list_inj ha ha';rw [eqD]; exact pr vs ds ds' p p'
   ·cases e;exact (rO I ha ha').elim
  ·rcases h' with ⟨_,f⟩ | ⟨a',vs',ds',e,rfl,ha',p'⟩ | ⟨a',vs',ds',e,rfl,ha',p'⟩
   ·exact absurd (show false=true from f) Bool.false_ne_true
   ·cases e;exact (rO I ha' ha).elim
   ·cases e;obtain rfl:=I.tuple_inj ha ha';rw [eqD]; exact pr vs ds ds' p p'
noncomputable def eqNth (ds ds':List D) (j:Nat):Bool:=match ds[j]?,ds'[j]? with
 | some d,some d'=>eqD d d'
 | _,_=>true
theorem eD:∀ {ds ds':List D},ds.length=ds'.length->(List.range ds.length).all (eqNth ds ds')=eqDs ds ds'
 | [],[],_=>by rw [eqDs]; rfl
 | d::ds,d'::ds',h=>by
  have ih:=eD (ds:=ds) (ds':=ds') (by simpa using h);rw [List.length_cons,List.range_succ_eq_map,List.all_cons,List.all_map,eqDs];have e:eqNth (d::ds) (d'::ds') 0=eqD d d':=rfl;have e2:(eqNth (d::ds) (d'::ds') ∘ Nat.succ)=eqNth ds ds':=funext fun j=>by simp [eqNth]
  rw [e,e2,ih]
theorem aH {α β:Type} {F:α -> β -> Prop}:∀ {l:List α} {m:List β},Paired F l m->∀ {j:Nat} {x:α},l[j]? = some x->∃ y,m[j]? = some y/\F x y
 | _,_,.nil,j,x,h=>by simp at h
 | _,_,.cons p r,0,x,h=>by simp at h; subst h; exact ⟨_,rfl,p⟩
 | _,_,.cons p r,j+1,x,h=>by simpa using aH r (j:=j) (by simpa using h)
theorem o0 (I:Inv X pins σ H s):∀ (n:Nat) (A:Around) (x y:V) (dx dy:D) (u v:Value),A.units+n < cLine->Deep X.K H n x dx->Deep X.K H n y dy->RelV x u->RelV y v->SeqAt.EqAt A s u v (eqD dx dy)
 | 0,A,x,y,dx,dy,u,v,_,⟨e,f⟩,⟨e',f'⟩,ru,rv=>by subst e; subst e'; rw [eqD]; exact sX ru rv f f'
 | n+1,A,x,y,dx,dy,u,v,hu,hx,hy,ru,rv=>by
  have hu0:A.units < cLine:=by lia
  have items:∀ (vs ws:List V) (ds ds':List D) (us us':List Value),Paired (Deep X.K H n) vs ds->Paired (Deep X.K H n) ws ds'->Vals vs us->Vals ws us' ->
    ∀ j (h1:j < us.toArray.size) (h2:j < us'.toArray.size),SeqAt.EqAt A.in1 s us.toArray[j] us'.toArray[j] (eqNth ds ds' j):=by
   intro vs ws ds ds' us us' p q r r' j h1 h2;have l1:=r.length;have l2:=r'.length;simp only [List.size_toArray] at h1 h2;have g1:vs[j]? = some (vs[j]'(by lia)):=List.getElem?_eq_getElem _;have g2:ws[j]? = some (ws[j]'(by lia)):=List.getElem?_eq_getElem _;obtain ⟨d,hd,fd⟩:=aH p g1;obtain ⟨d',hd',fd'⟩:=aH q g2;obtain ⟨c,hc,rc⟩:=r.get g1;obtain ⟨c',hc',rc'⟩:=r'.get g2;have e1:us.toArray[j]=c:=by rw [List.getElem?_eq_getElem h1] at hc; simpa using hc
   have e2:us'.toArray[j]=c':=by rw [List.getElem?_eq_getElem h2] at hc'; simpa using hc'
   rw [e1,e2];unfold eqNth;rw [hd,hd'];exact o0 I n A.in1 _ _ d d' c c' (by rw [Around.in1_units]; lia) fd fd' rc rc'
  rcases hx with ⟨e,f⟩ | ⟨a,vs,ds,rfl,rfl,ha,p⟩ | ⟨a,vs,ds,rfl,rfl,ha,p⟩
  ·subst e;rcases hy with ⟨e',f'⟩ | ⟨b,ws,ds',rfl,rfl,hb,q⟩ | ⟨b,ws,ds',rfl,rfl,hb,q⟩
   ·subst e'; rw [eqD]; exact sX ru rv f f'
   ·cases rv;obtain ⟨_,_,pl,_⟩:=I.list hb;rw [eqD]; exact vH pl.isList hu0 ru f
   ·cases rv;obtain ⟨_,_,pl,_⟩:=I.tuple hb;rw [eqD]; exact tO pl hu0 ru f
  ·cases ru;obtain ⟨us,r1,pl,_⟩:=I.list ha;rcases hy with ⟨e',f'⟩ | ⟨b,ws,ds',rfl,rfl,hb,q⟩ | ⟨b,ws,ds',rfl,rfl,hb,q⟩
   ·subst e'; rw [eqD]; exact vR pl.isList hu0 rv f'
   ·cases rv;by_cases eab:a=b
    ·subst eab;have:=kS I (n+1) (.ref a) (.l ds) (.l ds') (.inr (.inl ⟨a,vs,ds,rfl,rfl,ha,p⟩)) (.inr (.inl ⟨a,ws,ds',rfl,rfl,hb,q⟩));rw [this];exact SeqAt.EqAt.same _
    ·obtain ⟨us',r2,pl2,_⟩:=I.list hb;have l1:=r1.length;have l2:=r2.length;have l3:=p.length;have l4:=q.length;rw [eqD];by_cases el:ds.length=ds'.length
     ·rw [<- eD el,show ds.length=us.toArray.size by simp only [List.size_toArray]; lia];exact .of_refs eab (.lists pl.isList pl2.isList (by simp only [List.size_toArray]; lia) hu0 (items vs ws ds ds' us us' p q r1 r2))
     ·rw [gg el];exact .of_refs eab (.lists_lengths pl.isList pl2.isList (by simp only [List.size_toArray,bne_iff_ne,ne_eq]; lia) hu0)
   ·cases rv;obtain ⟨_,_,pl2,_⟩:=I.tuple hb;rw [eqD]; exact .list_tuple pl.isList pl2 hu0
  ·cases ru;obtain ⟨us,r1,pl,_⟩:=I.tuple ha;rcases hy with ⟨e',f'⟩ | ⟨b,ws,ds',rfl,rfl,hb,q⟩ | ⟨b,ws,ds',rfl,rfl,hb,q⟩
   ·subst e'; rw [eqD]; exact sL pl hu0 rv f'
   ·cases rv;obtain ⟨_,_,pl2,_⟩:=I.list hb;rw [eqD]; exact .tuple_list pl pl2.isList hu0
   ·cases rv;by_cases eab:a=b
    ·subst eab;have:=kS I (n+1) (.ref a) (.t ds) (.t ds') (.inr (.inr ⟨a,vs,ds,rfl,rfl,ha,p⟩)) (.inr (.inr ⟨a,ws,ds',rfl,rfl,hb,q⟩));rw [this];exact SeqAt.EqAt.same _
    ·obtain ⟨us',r2,pl2,_⟩:=I.tuple hb;have l1:=r1.length;have l2:=r2.length;have l3:=p.length;have l4:=q.length;rw [eqD];have key:eqDs ds ds'=((List.range (min us.toArray.size us'.toArray.size)).all (eqNth ds ds') && us.toArray.size == us'.toArray.size):=by
      by_cases el:ds.length=ds'.length
      ·rw [<- eD el,show min us.toArray.size us'.toArray.size=ds.length by simp only [List.size_toArray]; lia,show (us.toArray.size == us'.toArray.size)=true by simp only [List.size_toArray,beq_iff_eq]; lia,Bool.and_true]
      ·rw [gg el,show (us.toArray.size == us'.toArray.size)=false by simp only [List.size_toArray,beq_eq_false_iff_ne,ne_eq]; lia,Bool.and_false]
     rw [key];exact .of_refs eab (.tuples pl pl2 hu0 (items vs ws ds ds' us us' p q r1 r2))
end
section
variable {X:Cx} {pins:List (Addr × Obj)} {σ:St} {H:Hp} {s:Shared}
theorem gP (I:Inv X pins σ H s) {n:Nat} {A:Around} (hu:A.units+n+1 < cLine) {vs ws:List V} {ds ds':List D} {us us':List Value} (p:Paired (Deep X.K H n) vs ds) (q:Paired (Deep X.K H n) ws ds') (r:Vals vs us) (r':Vals ws us'):
  ∀ j (h1:j < us.toArray.size) (h2:j < us'.toArray.size),SeqAt.EqAt A.in1 s us.toArray[j] us'.toArray[j] (eqNth ds ds' j):=by
 intro j h1 h2;have l1:=r.length;have l2:=r'.length;simp only [List.size_toArray] at h1 h2;have g1:vs[j]? = some (vs[j]'(by lia)):=List.getElem?_eq_getElem _;have g2:ws[j]? = some (ws[j]'(by lia)):=List.getElem?_eq_getElem _;obtain ⟨d,hd,fd⟩:=aH p g1;obtain ⟨d',hd',fd'⟩:=aH q g2;obtain ⟨c,hc,rc⟩:=r.get g1;obtain ⟨c',hc',rc'⟩:=r'.get g2;have e1:us.toArray[j]=c:=by rw [List.getElem?_eq_getElem h1] at hc; simpa using hc
 have e2:us'.toArray[j]=c':=by rw [List.getElem?_eq_getElem h2] at hc'; simpa using hc'
 rw [e1,e2];unfold eqNth;rw [hd,hd'];exact o0 I n A.in1 _ _ d d' c c' (by rw [Around.in1_units]; lia) fd fd' rc rc'
noncomputable def kEqD (K:Frag) (neg:Bool):R2:=fun x y H Q=>match x,y with
 | .ref a,.ref b=>∃ n dx dy,n<=100/\Deep K H n (.ref a) dx/\Deep K H n (.ref b) dy/\Q (.bl (neg ^^ eqD dx dy)) H
 | _,_=>False
theorem oM {us us':List Value} {ds ds':List D} (l1:ds.length=us.length) (l2:ds'.length=us'.length):((List.range (min us.toArray.size us'.toArray.size)).all (eqNth ds ds') && us.toArray.size == us'.toArray.size)=eqDs ds ds':=by
 by_cases el:ds.length=ds'.length
 ·rw [<- eD el,show min us.toArray.size us'.toArray.size=ds.length by simp only [List.size_toArray]; lia,show (us.toArray.size == us'.toArray.size)=true by simp only [List.size_toArray,beq_iff_eq]; lia,Bool.and_true]
 ·rw [gg el,show (us.toArray.size == us'.toArray.size)=false by simp only [List.size_toArray,beq_eq_false_iff_ne,ne_eq]; lia,Bool.and_false]
theorem eqDE (K:Frag) (hK:X.K=K) {k:Nat} (hr:Room k X.A):OpR X (compareOp .Eq) (kEqD K false):=by
 subst hK;intro pins s σ H x y v u Q I rx ry h;unfold kEqD at h;split at h
 ·rename_i a b;obtain ⟨n,dx,dy,hn,hx,hy,q⟩:=h;cases rx;cases ry;simp only [Bool.false_bne] at q;have hu:=hr.un;cases n with
  | zero=>exact absurd (show false=true from hx.2) Bool.false_ne_true
  | succ n=>
   rcases hx with ⟨_,f⟩ | ⟨a',vs,ds,e,rfl,ha,p⟩ | ⟨a',vs,ds,e,rfl,ha,p⟩
   ·exact absurd (show false=true from f) Bool.false_ne_true
   ·cases e;obtain ⟨us,r1,pl,_⟩:=I.list ha;have l1:=r1.length;have l3:=p.length;rcases hy with ⟨_,f⟩ | ⟨b',ws,ds',e,rfl,hb,p'⟩ | ⟨b',ws,ds',e,rfl,hb,p'⟩
    ·exact absurd (show false=true from f) Bool.false_ne_true
    ·cases e;obtain ⟨us',r2,pl2,_⟩:=I.list hb;have l2:=r2.length;have l4:=p'.length;rw [eqD] at q;by_cases el:ds.length=ds'.length
     ·refine SeqAt.eq_listAt (e:=eqNth ds ds') pl.isList pl2.isList (by simp only [List.size_toArray]; lia) (by lia) (gP I (by lia) p p' r1 r2) ?_;rw [show us.toArray.size=ds.length by simp only [List.size_toArray]; lia,eD el];exact ⟨.bl _,H,I,rfl,q⟩
     ·refine SeqAt.eq_list_lengthsAt pl.isList pl2.isList (by simp only [List.size_toArray,bne_iff_ne,ne_eq]; lia) (by lia) ?_;rw [gg el] at q;exact ⟨.bl _,H,I,rfl,q⟩
    ·cases e;obtain ⟨us',r2,pl2,_⟩:=I.tuple hb;rw [eqD] at q;exact SeqAt.RcAt.list_tuple pl.isList pl2 (by lia) _ _ _ _ ⟨.bl _,H,I,rfl,q⟩
   ·cases e;obtain ⟨us,r1,pl,_⟩:=I.tuple ha;have l1:=r1.length;have l3:=p.length;rcases hy with ⟨_,f⟩ | ⟨b',ws,ds',e,rfl,hb,p'⟩ | ⟨b',ws,ds',e,rfl,hb,p'⟩
    ·exact absurd (show false=true from f) Bool.false_ne_true
    ·cases e;obtain ⟨us',r2,pl2,_⟩:=I.list hb;rw [eqD] at q;exact SeqAt.RcAt.tuple_list pl pl2.isList (by lia) _ _ _ _ ⟨.bl _,H,I,rfl,q⟩
    ·cases e;obtain ⟨us',r2,pl2,_⟩:=I.tuple hb;have l2:=r2.length;have l4:=p'.length;rw [eqD] at q;refine SeqAt.eq_tupleAt (e:=eqNth ds ds') pl pl2 (by lia) (gP I (by lia) p p' r1 r2) ?_;rw [oM (by lia) (by lia)];exact ⟨.bl _,H,I,rfl,q⟩
 ·exact h.elim
theorem neDE (K:Frag) (hK:X.K=K) {k:Nat} (hr:Room k X.A):OpR X (compareOp .NotEq) (kEqD K true):=by
 subst hK;intro pins s σ H x y v u Q I rx ry h;unfold kEqD at h;split at h
 ·rename_i a b;obtain ⟨n,dx,dy,hn,hx,hy,q⟩:=h;cases rx;cases ry;simp only [Bool.true_bne] at q;have hu:=hr.un;cases n with
  | zero=>exact absurd (show false=true from hx.2) Bool.false_ne_true
  | succ n=>
   rcases hx with ⟨_,f⟩ | ⟨a',vs,ds,e,rfl,ha,p⟩ | ⟨a',vs,ds,e,rfl,ha,p⟩
   ·exact absurd (show false=true from f) Bool.false_ne_true
   ·cases e;obtain ⟨us,r1,pl,_⟩:=I.list ha;have l1:=r1.length;have l3:=p.length;rcases hy with ⟨_,f⟩ | ⟨b',ws,ds',e,rfl,hb,p'⟩ | ⟨b',ws,ds',e,rfl,hb,p'⟩
    ·exact absurd (show false=true from f) Bool.false_ne_true
    ·cases e;obtain ⟨us',r2,pl2,_⟩:=I.list hb;have l2:=r2.length;have l4:=p'.length;rw [eqD] at q;by_cases el:ds.length=ds'.length
     ·refine SeqAt.RcNeAt.lists (e:=eqNth ds ds') pl.isList pl2.isList (by simp only [List.size_toArray]; lia) (by lia) (gP I (by lia) p p' r1 r2) _ _ _ _ ?_;rw [show us.toArray.size=ds.length by simp only [List.size_toArray]; lia,eD el];exact ⟨.bl _,H,I,rfl,q⟩
     ·refine SeqAt.RcNeAt.lists_lengths pl.isList pl2.isList (by simp only [List.size_toArray,bne_iff_ne,ne_eq]; lia) (by lia) _ _ _ _ ?_;rw [gg el] at q;exact ⟨.bl _,H,I,rfl,q⟩
    ·cases e;obtain ⟨us',r2,pl2,_⟩:=I.tuple hb;rw [eqD] at q;exact SeqAt.RcNeAt.list_tuple pl.isList pl2 (by lia) _ _ _ _ ⟨.bl _,H,I,rfl,q⟩
   ·cases e;obtain ⟨us,r1,pl,_⟩:=I.tuple ha;have l1:=r1.length;have l3:=p.length;rcases hy with ⟨_,f⟩ | ⟨b',ws,ds',e,rfl,hb,p'⟩ | ⟨b',ws,ds',e,rfl,hb,p'⟩
    ·exact absurd (show false=true from f) Bool.false_ne_true
    ·cases e;obtain ⟨us',r2,pl2,_⟩:=I.list hb;rw [eqD] at q;exact SeqAt.RcNeAt.tuple_list pl pl2.isList (by lia) _ _ _ _ ⟨.bl _,H,I,rfl,q⟩
    ·cases e;obtain ⟨us',r2,pl2,_⟩:=I.tuple hb;have l2:=r2.length;have l4:=p'.length;rw [eqD] at q;refine SeqAt.RcNeAt.tuples (e:=eqNth ds ds') pl pl2 (by lia) (gP I (by lia) p p' r1 r2) _ _ _ _ ?_;rw [oM (by lia) (by lia)];exact ⟨.bl _,H,I,rfl,q⟩
 ·exact h.elim
end
section
variable {X:Cx}
noncomputable def kNeNil (K:Frag):R2:=fun x y H Q=>match x,y with
 | .ref a,.ref b=>∃ xs,SqL K H a xs/\SqL K H b []/\Q (.bl (!decide (xs=[]))) H
 | _,_=>False
theorem neNilE (K:Frag) (hK:X.K=K) (hu:X.A.units < cLine):OpR X (compareOp .NotEq) (kNeNil K):=by
 subst hK;intro pins s σ H x y v u Q I rx ry h;unfold kNeNil at h;split at h
 ·obtain ⟨xs,ha,hb,q⟩:=h;cases rx;cases ry;obtain ⟨its,r1,p1,_⟩:=I.list ha;obtain ⟨its2,r2,p2,_⟩:=I.list hb;cases r2;cases r1 with
  | nil=>exact SeqAt.RcNeAt.lists (e:=fun _=>true) p1.isList p2.isList rfl hu (fun j h1 _=>absurd h1 (by simp)) _ _ _ _ ⟨.bl false,H,I,rfl,by simpa using q⟩
  | cons rx rr=>exact SeqAt.RcNeAt.lists_lengths p1.isList p2.isList (by simp) hu _ _ _ _ ⟨.bl true,H,I,rfl,by simpa using q⟩
 ·exact h.elim
theorem wV {K:Frag} {a b:Addr} {H:Hp} {Q:VK}:kNeNil K (.ref a) (.ref b) H Q=∃ xs,SqL K H a xs/\SqL K H b []/\Q (.bl (!decide (xs=[]))) H:=rfl
theorem AT {K:Frag} {n:Bool} {a b:Addr} {H:Hp} {Q:VK}:kEqD K n (.ref a) (.ref b) H Q=∃ k dx dy,k<=100/\Deep K H k (.ref a) dx/\Deep K H k (.ref b) dy/\Q (.bl (n ^^ eqD dx dy)) H:=rfl
noncomputable def kAny (K:Frag):List V->Hp->VK->Prop:=fun xs H Q=>match xs with
 | [.ref p]=>∃ bs:List Bool,SqL K H p (bs.map V.bl)/\Q (.bl (bs.any id)) H
 | _=>False
theorem sr {bs:List Bool}:∀ {us:List Value},Vals (bs.map V.bl) us->us=bs.map Value.bool:=by
 induction bs with
 | nil=>intro us h; cases h; rfl
 | cons b bs ih=>
  intro us h;cases h with
  | cons r t=>cases r; rw [ih t]; rfl
theorem vY (K:Frag) (hK:X.K=K) (hc:X.calm=true):CallR X (.builtin "any") (kAny K):=by
 subst hK;intro pins s σ H xs us Q I r q;unfold kAny at q;split at q
 ·rename_i p;obtain ⟨bs,hq,q⟩:=q;obtain ⟨u,rfl,ru⟩:=vals1 r;cases ru;obtain ⟨its,rv,pl,_⟩:=I.list hq;obtain rfl:=sr rv;have hl:s.heap.IsList p (bs.map Value.bool).toArray:=pl.isList;have hp:p < s.heap.objs.size:=by obtain ⟨o,ho,_⟩:=hl; exact Heap.lt_size ho
  refine tokQ I.tk (call_any_walk (wpAny_pyIter_list hl ?_));refine ⟨_,_,_,_,_,_,fun i=>(bs[i]?).getD false,rfl,Walks.list (A:=X.A.in1) (I.ok.hd hc) _ p (Nat.ne_of_lt hp) (bs.map Value.bool).toArray,⟨⟨_,Heap.get?_push_size _ rfl,rfl,rfl⟩,hl.push _⟩,?_,fun h' tk k (htk:0 < tk)=>?_⟩
  ·intro i v s' Q' E' hP hQ';have hi:bs[i]?.map Value.bool=some v:=by simpa using hP
   cases hb:bs[i]? with
   | none=>rw [hb] at hi; cases hi
   | some b=>
    have e:(fun i=>(bs[i]?).getD false) i=b:=by simp [hb]
    rw [e] at hQ';rw [hb] at hi;cases hi;exact wpAny_truthy_bool hQ'
  ·have e:((List.range (bs.map Value.bool).toArray.size).any fun i=>(bs[i]?).getD false)=bs.any id:=by
    simp only [List.size_toArray,List.length_map];rw [Bool.eq_iff_iff,List.any_eq_true,List.any_eq_true];constructor
    ·rintro ⟨i,hi,h⟩;have hi:i < bs.length:=by simpa using hi
     rw [List.getElem?_eq_getElem hi] at h;exact ⟨bs[i],List.getElem_mem hi,h⟩
    ·rintro ⟨b,hb,h⟩;obtain ⟨i,hi,rfl⟩:=List.getElem_of_mem hb;exact ⟨i,by simpa using hi,by rw [List.getElem?_eq_getElem hi]; exact h⟩
   rw [e];refine ⟨.bl _,H,I.kept (fun b o q=>k b o ?_ (Heap.get?_push_of_some _ q)),rfl,q⟩;intro z;have:=Heap.lt_size q;rw [List.mem_singleton.mp z] at this;exact Nat.lt_irrefl _ this
 ·exact q.elim
theorem An {K:Frag} {p:Addr} {H:Hp} {Q:VK}:kAny K [.ref p] H Q=∃ bs:List Bool,SqL K H p (bs.map V.bl)/\Q (.bl (bs.any id)) H:=rfl
end
section
variable {X:Cx}
end
theorem bI {K:Frag} {H:Hp} {v:V} (n:Nat) (f:flatV v=true):Deep K H n v (.f v):=by
 cases n with
 | zero=>exact ⟨rfl,f⟩
 | succ n=>exact .inl ⟨rfl,f⟩
noncomputable abbrev tx (l:List Nat):V:=V.str (st l)
section
variable {K:Frag} {g:TG} {tc:TT} {te:TE} {σc:St} {D:Addr} {Q:VK} {H:Hp}
theorem mI {α:Type} (item:α -> V) (xs:List α) (keep:α -> Bool) (R:α -> V->Hp->Prop) {p:Addr} (hfree:H D=none) (hl:SqL K H p (xs.map item)) (hn:xs.length<=100000)
  (mono:∀ x v H1 H2 acc,H1 D=some (.lst acc)->(∀ b o,b≠D->H1 b=some o->H2 b=some o)->R x v H1->R x v H2)
  (hs:∀ x H1 (out:VK) (non:Hp->Prop),x ∈ xs->Same H H1->(∀ v H6,keep x=true->Same H1 H6->R x v H6->out v H6)->(∀ H5,keep x=false->Same H1 H5->non H5) ->
   g (item x) σc H1 fun σ4 H4=>tc σ4 H4 fun b H5=>if b=true then te σ4 H5 out else non H5)
  (hq:∀ H' vs,Same H H'->H' D=some (.lst vs)->Paired (fun x v=>R x v H') (xs.filter keep) vs->Q (.ref D) H'):compW (Itl K p) g tc te σc D Q H:=by
 refine ⟨fun i m acc H2=>m=xs.length - i/\i<=xs.length/\Paired (fun x v=>R x v H2) ((xs.take i).filter keep) acc/\Same H H2/\H2 D=some (.lst acc),⟨xs.length,by simp,Nat.zero_le _,.nil,ah hfree _,upd_same⟩,?_⟩;rintro i m acc H2 ⟨rfl,hi,pr,sm,hD⟩;have len:acc.length<=i:=by
  have a:=pr.length;have b:=List.length_filter_le keep (xs.take i);rw [List.length_take] at b
  lia
 by_cases hlt:i < xs.length
 ·refine .inr ⟨⟨_,item xs[i],sm.seq hl,by simp [hlt]⟩,fun x H3 y=>?_⟩;obtain ⟨rfl,y⟩:=y;have e:=y _ (sm.seq hl);rw [List.getElem?_map,List.getElem?_eq_getElem hlt] at e;have e2:item xs[i]=x:=Option.some.inj e;subst e2;have ht:xs.take (i+1)=xs.take i++[xs[i]]:=by rw [List.take_add_one,List.getElem?_eq_getElem hlt]; rfl
  refine hs xs[i] _ _ _ (List.getElem_mem hlt) sm (fun v H6 k s6 r=>?_) fun H5 k s5=>?_
  ·refine ⟨s6 _ _ hD,Nat.lt_of_le_of_lt len (sizeBig (by lia)),xs.length - (i+1),by lia,rfl,hlt,?_,?_,upd_same⟩
   ·have m1:∀ x v,R x v H6->R x v (upd H6 D (.lst (acc++[v]))):=fun x v r=>mono x v H6 _ acc (s6 _ _ hD) (fun b o nb q=>by rw [ao nb]; exact q) r
    rw [ht,List.filter_append];have f1:[xs[i]].filter keep=[xs[i]]:=by simp [k]
    rw [f1];have lift:∀ {l:List α} {vs:List V},Paired (fun x v=>R x v H3) l vs->Paired (fun x v'=>R x v' (upd H6 D (.lst (acc++[v])))) l vs:=by
     intro l vs pp
     induction pp with
     | nil=>exact .nil
     | cons r _ ih=>exact .cons (mono _ _ H3 _ acc hD (fun b o nb q=>by rw [ao nb]; exact s6 _ _ q) r) ih
    have app:∀ {l:List α} {vs:List V} {x:α} {v':V} {F:α -> V->Prop},Paired F l vs->F x v'->Paired F (l++[x]) (vs++[v']):=by
     intro l vs x v' F pp r
     induction pp with
     | nil=>exact .cons r .nil
     | cons r' _ ih=>exact .cons r' ih
    exact app (lift pr) (m1 _ _ r)
   ·exact aE (sm.trans s6) hfree
  ·refine ⟨xs.length - (i+1),by lia,rfl,hlt,?_,sm.trans s5,s5 _ _ hD⟩;rw [ht,List.filter_append];have f1:[xs[i]].filter keep=[]:=by simp [k]
   rw [f1,List.append_nil];have lift:∀ {l:List α} {vs:List V},Paired (fun x v=>R x v H3) l vs->Paired (fun x v'=>R x v' H5) l vs:=by
    intro l vs pp
    induction pp with
    | nil=>exact .nil
    | cons r _ ih=>exact .cons (mono _ _ H3 _ acc hD (fun b o _ q=>s5 _ _ q) r) ih
   exact lift pr
 ·have e:i=xs.length:=by lia
  subst e;rw [List.take_length] at pr;exact .inl ⟨⟨_,sm.seq hl,by simp⟩,hq H2 acc sm hD pr⟩
end
section
variable {X:Cx}
end
section
variable {X:Cx} {o e:Expr} {to te:TE} {apos cpos:Pos}
end
section
variable {X:Cx} {tg a b c:Expr} {ta tb tc:TE} {pos p:Pos}
end
section
variable {g:TG} {tb:TS} {D:Ends} {σ:St} {H:Hp}
end
noncomputable def Itel (K:Frag) (a:Addr):It:=⟨fun i H=>∃ xs x,SqL K H a xs/\xs[i]? = some x,fun i H v H'=>∃ T x,v=.ref T/\H T=none/\(∀ xs,SqL K H a xs->xs[i]? = some x)/\H'=upd H T (.tup [.int i,x]),fun i H=>∃ xs,SqL K H a xs/\i=xs.length⟩
theorem sV {P:Program} {w:World} {K:Frag} {elts:List Expr} {kk:Nat} {pos:Pos} (a e it:Addr) (hne:e≠it) (hae:a≠e) (hai:a≠it):
  Turn P w K (.Tuple elts kk pos) (Itel K a) [e,it] e (fun i h=>(∃ old,IsEnum h e it i old)/\h.IsListIter it a i) where
 mem:=by simp
 obj:=fun i h st b hb=>by
  obtain ⟨⟨old,he⟩,o,e',c,d⟩:=st;simp only [List.mem_cons,List.not_mem_nil,or_false] at hb;rcases hb with rfl | rfl
  ·exact ⟨_,he,fun v z=>by
    have z':Data.fields _=Data.cell v:=z;cases z'⟩
  ·exact ⟨o,e',fun v z=>by rw [d] at z; cases z⟩
 keep:=fun i h h' st k=>by
  obtain ⟨⟨old,he⟩,hl⟩:=st;exact ⟨⟨old,k e (by simp) _ he⟩,hl.at fun o q=>k it (by simp) o q⟩
 item:=by
  intro X hP hw hK hc i pins s σ H E I hf st hg;subst hP hw hK;obtain ⟨xs,x,hq,hx⟩:=hg;obtain ⟨its,rv,pl,hz⟩:=I.list hq;obtain ⟨u,hu,ru⟩:=rv.get hx;have W:=WalksT.enumerate (prog:=X.prog) (w:=X.w) (A:=X.A) (I.ok.hd hc) e it a hne hae hai its.toArray;have hi:i < its.toArray.size:=by
   have:=(List.getElem?_eq_some_iff.mp hu).1;simpa using this
  refine tokQ I.tk (W.item i s _ _ hi ⟨st.1,st.2,pl.isList⟩ fun T vals h' tk hv hsz hT hmid kp (htk:0 < tk)=>?_);obtain ⟨t',xv,hxv,rfl⟩:=hv;have e2:xv=u:=by
   have:its[i]? = some xv:=by simpa using hxv
   rw [hu] at this;exact (Option.some.inj this).symm
  subst e2;have hap:=W.apart i T h' hmid;refine ⟨_,rfl,W.go elts kk pos i T { s with heap:=h',toks:=tk } _ _ hmid fun h'' st'' kp''=>?_⟩;have hT2:h''.IsTuple T #[.int i t',xv]:=by
   obtain ⟨o,ho,r⟩:=hT;exact ⟨o,kp'' T o hap ho,r⟩
  have I1:Inv X pins σ (upd H T (.tup [.int i,x])) { s with heap:=h'',toks:=tk }:=by
   refine I.turnedLaid (its:=[e,it]) (fun b ob hb q=>kp'' b ob hb (kp b ob hb q)) hf hsz ?_;exact ⟨by show 2<=sizeLine; decide,[.int i t',xv],.cons ⟨_,rfl⟩ (.cons ru .nil),hT2⟩
  refine ⟨.ref T,_,I1,rfl,⟨T,x,rfl,I.hok.fresh hsz,fun ys hy=>by rw [I.list_inj hy hq]; exact hx,rfl⟩,⟨st''.1,st''.2.1⟩,fun b hb=>?_⟩;have nb:b≠T:=fun z=>hap (z ▸ hb)
  rw [ao nb];exact (hf b hb).1
 done:=by
  intro X hP hw hK hc i pins s σ H E I hf st hg;subst hP hw hK;obtain ⟨xs,hq,rfl⟩:=hg;obtain ⟨its,rv,pl,hz⟩:=I.list hq;have hl:=rv.length;have W:=WalksT.enumerate (prog:=X.prog) (w:=X.w) (A:=X.A) (I.ok.hd hc) e it a hne hae hai its.toArray;have hn:its.toArray.size=xs.length:=by simp only [List.size_toArray]; lia
  rw [hn] at W;exact tokQ I.tk (W.done s _ _ ⟨st.1,st.2,pl.isList⟩ fun h' tk kp (htk:0 < tk)=>⟨rfl,I.turnedL (its:=[e,it]) (fun b o hb q=>kp b o hb q) hf⟩)
 self:=fun A i s Q E st h=>by
  obtain ⟨⟨old,he⟩,_⟩:=st;exact wpAny_pyIter_enum he h
section
variable {X:Cx} {a:Expr} {ta:TE} {p pos:Pos}
noncomputable def cEnumL (K:Frag) (te:TE):TI:=fun σ H R=>te σ H fun x H1=>match x with
 | .ref l=>(∃ xs,SqL K H1 l xs)/\R (Itel K l) H1
 | _=>False
theorem rq (K:Frag) (hK:X.K=K) {elts:List Expr} {kk:Nat} {tpos:Pos} (hg:Gl X "enumerate") (hm:X.mg "enumerate" = none) (ha:PE X a ta) (hs:starEach [a] X.env=[(false,eval a X.env)]:=by rfl):
  PI X (.Tuple elts kk tpos) (.Call (.Name "enumerate" p) [a] [] pos) (cEnumL K ta):=by
 subst hK;intro pins s σ H R I h;refine Call_ (gW I hg hm qp (PyProof.Rows.callWith_type1 (thn ((aa ha.mono ad hs) pos pins s σ H (fun vs H1=>∃ l,vs=[.ref l]/\(∃ xs,SqL X.K H1 l xs)/\R (Itel X.K l) H1) I ⟨_,h,fun v H' z=>by
  split at z
  ·exact ⟨_,rfl,z⟩
  ·exact z.elim⟩) fun us s1 ⟨vs,H1,I1,r1,q1⟩=>?_) hs rfl))
 obtain ⟨l,rfl,⟨xs,hq⟩,q1⟩:=q1;cases r1 with
 | cons r rr=>
  cases rr;cases r;obtain ⟨its,rv,pl,hz⟩:=I1.list hq;have hlt:l < s1.heap.objs.size:=by
   obtain ⟨o,ho,_⟩:=pl.isList;exact Heap.lt_size ho
  refine call_enumerate_list pl.isList fun h' he hi hz kp=>?_
  have I2:Inv X pins σ H1 { s1 with heap:=h' }:=I1.kept (t':=s1.toks) kp;refine wpAny_pyIter_enum he ?_;refine ⟨_,[s1.heap.objs.size+1,s1.heap.objs.size],_,Itel X.K l,H1,rfl,I2,sV l (s1.heap.objs.size+1) s1.heap.objs.size (Nat.succ_ne_self _) (Nat.ne_of_lt (Nat.lt_succ_of_lt hlt)) (Nat.ne_of_lt hlt),⟨⟨_,he⟩,hi⟩,fun c hc=>?_,q1⟩;have hc':s1.heap.objs.size<=c:=by
   simp only [List.mem_cons,List.not_mem_nil,or_false] at hc;rcases hc with rfl | rfl <;> lia
  exact I1.fpOk hc' (I1.hok.fresh hc')
theorem wu {K:Frag} {σ:St} {H:Hp} {R:It->Hp->Prop}:cEnumL K ta σ H R=ta σ H fun x H1=>match x with
 | .ref l=>(∃ xs,SqL K H1 l xs)/\R (Itel K l) H1
 | _=>False:=rfl
end
theorem tG {K:Frag} {tb:TS} {D:Ends} {σ:St} {H:Hp} {a:Addr} {xs:List V} {j k:Nat} (Pv:Nat->St->Hp->Prop) (h0:Pv 0 σ H) (hl:∀ i σ H,i<=xs.length->Pv i σ H->SqL K H a xs)
  (hs:∀ i x σ H T,xs[i]? = some x->Pv i σ H->H T=none->tb (D.turn (Pv (i+1))) ((σ.set j (some (.int i))).set k (some x)) (upd H T (.tup [.int i,x]))) (hd:∀ σ H,Pv xs.length σ H->D.nx σ H):
  loopW (Itel K a) (gTup K 2 (gCons (gName j) (gCons (gName k) gNil))) tb D σ H:=
 sO (n:=xs.length) Pv h0 (fun i σ H hi p=>⟨xs,xs[i],hl i σ H (Nat.le_of_lt hi) p,by simp [hi]⟩)
  (fun σ H p=>⟨xs,hl _ σ H (Nat.le_refl _) p,rfl⟩)
  (fun i σ H v H' hi p y=>by
   obtain ⟨T,x,rfl,hT,hx,rfl⟩:=y;exact ⟨T,[_,_],rfl,SqT.upd_same,rfl,_,[_],rfl,_,[],rfl,rfl,hs i x σ H T (hx xs (hl i σ H (Nat.le_of_lt hi) p)) p hT⟩) hd
theorem tu:typeLookup (.type "list_reverseiterator") "__len__" = pure none:=by rw [typeLookup_type,builtinLookup_eq_fast]; kernel_rfl
theorem oI:typeLookup (.type "list_reverseiterator") "__length_hint__" = pure (some (.builtin "list_reverseiterator.__length_hint__")):=by rw [typeLookup_type,builtinLookup_eq_fast]; kernel_rfl
section
variable {prog:Program} {w:World} {A:Around} {E:Value->Shared->Prop} {s:Shared}
theorem xh {I l:Addr} {i:Int} {Q:Bool->Shared->Prop} (hit:s.heap.IsRevIter I l i) (h:Q false s):wpAny (model prog w) A (Builtin.List.listLengthHint (.ref I)) Q E s:=by
 unfold Builtin.List.listLengthHint;apply wpAny_bind;apply wpAny_specialOf hit.typeIs tu;show wpAny _ A (specialOf (Value.ref I) (Str.ofString "__length_hint__")>>=_) _ _ _;apply wpAny_bind;apply wpAny_specialOf hit.typeIs oI;generalize hid:("list_reverseiterator.__length_hint__" : String)=id0
 wp_delta
 rw [show splitId id0=some ("list_reverseiterator", "__length_hint__") from by subst hid; decide +kernel];subst hid;apply wpAny_bind;apply wpAny_isInstance (T := "list_reverseiterator") (b:=true) hit.typeIs (by rw [isSubtype_type]; kernel_rfl);refine wpAny_ite_split (fun z=>absurd z (by decide)) fun _=>?_
 refine wpAny_ite_split (fun _=>?_) fun z=>absurd (by decide +kernel) z
 refine wpAny_ite_split (fun z=>absurd z (by decide)) fun _=>?_
 exact wpAny_pure h
theorem rd {I l:Addr} {items:Array Value} {Q:Value->Shared->Prop} (hh:A.handled=none) (hne:l≠I) (hit:s.heap.IsRevIter I l ((items.size:Int) - 1)) (hl:s.heap.IsList l items) (hz:items.size<=sizeLine)
  (hQ:∀ h' tk acc c,(∀ b o,b≠I->s.heap.get? b=some o->h'.get? b=some o)->h'.get? s.heap.objs.size=some { cls:=.type "list",dict:=none,data:=.seq acc c,slots:=#[] } ->
   ItemsOf (fun i v=>items[items.size - 1 - i]? = some v) acc items.size->Q (.ref s.heap.objs.size) { s with heap:=h',toks:=tk }):
  wpAny (model prog w) A (call (.type "list") [.ref I]) Q E s:=by
 have W:=(Walks.listRev (prog:=prog) (w:=w) (A:=A.in1.in1) (by simp [hh]) I l hne items).toS;have hI:I < s.heap.objs.size:=by
  obtain ⟨o,ho,_⟩:=hit;exact Heap.lt_size ho
 have hL:l < s.heap.objs.size:=by
  obtain ⟨o,ho,_⟩:=hl;exact Heap.lt_size ho
 apply callType_codes (Q₁:=fun obj s₁=>obj=.ref s.heap.objs.size/\s₁ = { s with heap:=s.heap.push { cls:=.type "list",data:=.seq #[] } }) PySem.F.called_list (PySem.F.typeCall_list_1 _) PySem.F.entry_list_init (code_list_new _ ⟨rfl,rfl⟩);rintro obj s₁ ⟨rfl,rfl⟩;have hS:(s.heap.push { cls:=.type "list",data:=.seq #[] }).get? s.heap.objs.size=some { cls:=.type "list",data:=.seq #[] }:=Heap.get?_push_size _ rfl;refine ⟨⟨_,hS,rfl⟩,PySem.F.args_list_init_2 _ _,?_⟩;change wpAny _ _ (Builtin.List.listItems (.ref s.heap.objs.size)>>=_) _ _ _;apply wpAny_bind;unfold Builtin.List.listItems;apply wpAny_bind;apply wpAny_seqItems hS rfl;apply wpAny_pure;change wpAny _ _ (updateSeq s.heap.objs.size (fun _=>#[])>>=_) _ _ _;apply wpAny_bind;apply wpAny_updateSeq hS rfl;have o2:=Heap.get?_update_self (Obj.mapSeq fun _=>(#[]:Array Value)) hS rfl;have k2:∀ b o,s.heap.get? b=some o->((s.heap.push { cls:=.type "list",data:=.seq #[] }).update s.heap.objs.size (Obj.mapSeq fun _=>(#[]:Array Value))).get? b=some o:=fun b o e=>by
  rw [Heap.get?_update_other _ _ (Nat.ne_of_gt (Heap.lt_size e))];exact Heap.get?_push_of_some _ e
 generalize (s.heap.push { cls:=.type "list",data:=.seq #[] }).update s.heap.objs.size (Obj.mapSeq fun _=>(#[]:Array Value))=H2 at o2 k2 ⊢;apply wpAny_bind;apply wpAny_letGo;unfold Builtin.List.listExtendWith;have it2:H2.IsRevIter I l ((items.size:Int) - 1):=hit.at fun o e=>k2 _ _ e
 have l2:H2.IsList l items:=hl.at fun o e=>k2 _ _ e
 apply wpAny_bind;apply wpAny_typeOf (T := "list_reverseiterator") it2.typeIs;refine wpAny_ite_split (fun z=>?_) fun _=>?_
 ·exfalso;have n1:(s.heap.objs.size == I)=false:=by rw [beq_eq_false_iff_ne]; exact Nat.ne_of_gt hI
  have n2:Builtin.List.listSameRef (.ref s.heap.objs.size) (.ref I)=false:=n1;rw [n2] at z;exact absurd z (by decide)
 apply wpAny_bind;apply wpAny_pyIter_revIter it2;apply wpAny_bind;apply wpAny_holding;apply xh it2;refine wpAny_ite_split (fun z=>absurd z (by decide +kernel)) fun _=>?_
 apply wpAny_pure;refine ⟨plainId_quiet PySem.F.plain_extend_loop _,?_⟩;refine codeAny_extend_loopS W hz _ ?_ _ items.size 0 _ _ _ rfl (Nat.zero_le _) ⟨Nat.zero_le _,?_,l2⟩ o2 (ItemsOf.nil _) fun s' acc c hm hS' hacc=>?_
 ·intro z;rcases List.mem_cons.mp z with z | z
  ·exact Nat.ne_of_gt hI z
  ·exact Nat.ne_of_gt hL (List.mem_singleton.mp z)
 ·simpa using it2
 ·rw [Moved.eq_with hm];refine ⟨rfl,hQ s'.heap s'.toks acc c (fun b o hb e=>hm.heap b o (fun z=>?_) (k2 b o e)) hS' hacc⟩;rcases List.mem_cons.mp z with z | z
  ·exact Nat.ne_of_lt (Heap.lt_size e) z
  ·exact hb (List.mem_singleton.mp z)
end
section
variable {X:Cx}
noncomputable def cListRev (K:Frag) (te:TE):TE:=fun σ H Q=>te σ H fun x H1=>match x with
 | .ref a=>∃ ys,SqL K H1 a ys/\∀ p,H1 p=none->Q (.ref p) (upd H1 p (.lst ys.reverse))
 | _=>False
theorem xN {ys:List V} {us:List Value} (r:Vals ys us) {acc:Array Value} (h:ItemsOf (fun i v=>us.toArray[us.toArray.size - 1 - i]? = some v) acc us.toArray.size):Vals ys.reverse acc.toList:=by
 obtain ⟨hs,hi⟩:=h;have e:acc.toList=us.reverse:=by
  apply List.ext_getElem?;intro i;by_cases hlt:i < us.length
  ·have h1:i < acc.size:=by rw [hs]; simpa using hlt
   have:=hi i acc[i] (by simp [h1]);rw [List.getElem?_reverse hlt];simp only [List.size_toArray,List.getElem?_toArray] at this;rw [this];simp [h1]
  ·rw [List.getElem?_eq_none (l:=acc.toList) (by simp [hs]; omega),List.getElem?_eq_none (by rw [List.length_reverse]; omega)]
 rw [e];clear e hi hs;have app:∀ {a b:List V} {c d:List Value},Vals a c->Vals b d->Vals (a++b) (c++d):=fun p q=>by
  induction p with
  | nil=>exact q
  | cons r _ ih=>exact .cons r ih
 induction r with
 | nil=>exact .nil
 | cons r _ ih=>
  rw [List.reverse_cons,List.reverse_cons];exact app ih (.cons r .nil)
theorem mr {K:Frag} (hK:X.K=K) {e:Expr} {te:TE} {p p2 pos pos2:Pos} (hc:X.calm=true) (hg:Gl X "list") (hm:X.mg "list" = none) (hg2:Gl X "reversed") (hm2:X.mg "reversed" = none) (he:PE X e te)
  (hs:starEach [e] X.env=[(false,eval e X.env)]:=by rfl)
  (hs2:starEach [Expr.Call (.Name "reversed" p2) [e] [] pos2] X.env=[(false,eval (Expr.Call (.Name "reversed" p2) [e] [] pos2) X.env)]:=by rfl):
  PE X (.Call (.Name "list" p) [.Call (.Name "reversed" p2) [e] [] pos2] [] pos) (cListRev K te):=by
 subst hK;intro pins s σ H Q I h;refine wpAny_Call_Name_kw (gW I hg hm lY ?_ (by decide) (by decide));refine PyProof.Rows.callWith_type1 ?_ hs2 rfl;rw [hs2];show wpAny _ _ (spliced [(false,eval (Expr.Call (.Name "reversed" p2) [e] [] pos2) X.env)]) _ _ s;refine Calls.spliced_cons ?_;refine wpAny_Call_Name_kw (gW I hg2 hm2 boot_reversed ?_ (by decide) (by decide));refine PyProof.Rows.callWith_type1 ?_ hs rfl;rw [hs];show wpAny _ _ (spliced [(false,eval e X.env)]) _ _ s;refine Calls.spliced_cons (thn (he pins s σ H _ I h) fun u s1 ⟨x,H1,I1,r1,q1⟩=>Calls.spliced_nil ?_)
 match x,r1,q1 with
 | .ref a,r1,⟨ys,hq,a3⟩=>
  cases r1;obtain ⟨its,rv,pl,hz⟩:=I1.list hq;have hl:=rv.length;have ha:a < s1.heap.objs.size:=by
   obtain ⟨o,ho,_⟩:=pl.isList;exact Heap.lt_size ho
  refine call_reversed_list pl.isList (Calls.spliced_nil ?_);refine tokQ I1.tk (rd (I1.ok.hd hc) (Nat.ne_of_lt ha) ⟨_,Heap.get?_push_size _ rfl,rfl,rfl⟩ (pl.isList.push _) (by simp only [List.size_toArray]; omega) fun h' tk acc c old ho hi (htk:0 < tk)=>?_);have old':∀ b o,s1.heap.get? b=some o->h'.get? b=some o:=fun b o e=>old b o (Nat.ne_of_lt (Heap.lt_size e)) (Heap.get?_push_of_some _ e)
  have fr:H1 (s1.heap.push (revObj a ((its.toArray.size:Int) - 1))).objs.size=none:=I1.hok.fresh (by rw [Heap.size_push]; exact Nat.le_succ _);refine ⟨.ref _,_,I1.laid (o:=.lst ys.reverse) (t':=tk) old' (by rw [Heap.size_push]; exact Nat.le_succ _) ⟨by rw [List.length_reverse]; exact hz,acc.toList,c,xN rv hi,by simpa using ho⟩,rfl,a3 _ fr⟩
theorem sN {K:Frag} {te:TE} {σ:St} {H:Hp} {Q:VK}:cListRev K te σ H Q=te σ H fun x H1=>match x with
 | .ref a=>∃ ys,SqL K H1 a ys/\∀ p,H1 p=none->Q (.ref p) (upd H1 p (.lst ys.reverse))
 | _=>False:=rfl
end
end L2
namespace L2
open PySem PySem.Spec PyProof.Rows PySem.Builtin PySem.Builtin.Str
section
variable {X:Cx}
end
end L2
namespace L2
open PySem PySem.Spec PyProof.Rows
section
variable {X:Cx}
theorem fE {i:Nat} {x:Str} {pos' spos:Pos} {elt tg iter:Expr} {ifs:List Expr} {scope:Scope} {pos:Pos} {wi:TI} {g:TG} {tc:TT} {te:TE} {nt:Nat} {fi:List Nat} {N':List Str} (hN:X.N.Nodup) (hi0:X.N[i]? = some x) (hx:Loc X.env.scope x) (hcalm:X.calm=true)
  (S:CScope scope) (cn:CNames X scope nt fi N') (gk:GK nt g) (hi:PI X tg iter wi)
  (hg:∀ cl C s H ex,PG (cxC X scope cl N' C s H ex) tg g) (hc:∀ cl C s H ex,PIf (cxC X scope cl N' C s H ex) ifs tc) (he:∀ cl C s H ex,PE (cxC X scope cl N' C s H ex) elt te)
  (hsw:swapsWith (.ListComp elt [⟨tg,iter,ifs,0⟩] scope pos) (some (.Name x pos')) spos.line X.env=pure true:=by rfl)
  (hs:∀ x,foldedSetIterable iter X.env x=pure x:=by intro _; rfl) (hf:X.fn x=true\/X.env.scope.names.lookup x=some .local:=by first | exact .inl rfl | exact .inr rfl | assumption):
  PS X (.Assign [.Name x pos'] (.ListComp elt [⟨tg,iter,ifs,0⟩] scope pos) spos) (tAsg (cComp nt fi wi g tc te) (gName i)):=by
 intro pins s σ H D I h;have hfr:∀ y ∈ scope.names,y.2=.free->∃ c,X.env.cells.lookup y.1=some c:=fun y hy e=>I.ok.has y.1 (cn.fre y hy e)
 rw [exec_Assign_Name_used _ _ _ _ hsw];refine wpAny_bind (wpAny_standAt (wpAny_bind ?_));change wpAny _ X.A (do let _ <- comprehension (.ListComp elt [⟨tg,iter,ifs,0⟩] scope pos) scope X.env _ (newList []) false (eval iter X.env) (some (assign (.Name x pos') X.env))) _ _ s;refine wpAny_bind (thn (Q:=fun _ s'=>∃ σ' H',Inv X pins σ' H' s'/\D.nx σ' H') ?_ fun _ s' q=>wpAny_pure (wpAny_pure q));refine wpAny_comprehension_free (use:=some (assign (.Name x pos') X.env)) rfl hs (ie hfr) S.kind S.loc (thn (hi pins s σ H _ I h) fun v s1 h1=>thn h1 fun itv s2 h2=>?_);obtain ⟨it,fp,tn,J,H2,e,I2,T,st2,f2,hW⟩:=h2;subst e;have fD:H2 s2.heap.objs.size=none:=I2.hok.fresh (Nat.le_refl _);obtain ⟨W,⟨m0,w0⟩,turn⟩:=hW s2.heap.objs.size fD;refine wpAny_newObj_type (wpAny_newFunctionEnv S.nocell (by intro y hy; simp at hy) (fun h₁ hns₁ hsb₁=>?_) S.kind);have I3:Inv X pins σ (upd H2 s2.heap.objs.size (.lst [])) { s2 with heap:=s2.heap.push { cls:=.type "list",dict:=none,data:=.seq ([]:List Value).toArray } }:=I2.lnew (its:=[]) (t':=s2.toks) .nil (Nat.zero_le _);generalize hs3:({ s2 with heap:=s2.heap.push { cls:=.type "list",dict:=none,data:=.seq ([]:List Value).toArray } }:Shared)=s3 at I3 hns₁ hsb₁ ⊢;have hsz:s3.heap.objs.size=s2.heap.objs.size+1:=by rw [<- hs3]; exact Heap.size_push ..
 have ob2:∀ b ∈ fp,∃ o,s3.heap.get? b=some o:=fun b hb=>by
  obtain ⟨o,e,_⟩:=T.obj _ _ st2 b hb;rw [<- hs3];exact ⟨o,Heap.get?_push_of_some _ e⟩
 have f3:∀ b ∈ fp,FpOk X pins (upd H2 s2.heap.objs.size (.lst [])) b:=fun b hb=>by
  obtain ⟨o,e,_⟩:=T.obj _ _ st2 b hb;refine ⟨?_,(f2 b hb).2⟩;rw [ao (Nat.ne_of_lt (Heap.lt_size e))];exact (f2 b hb).1
 have kp:∀ b o,s3.heap.get? b=some o->h₁.get? b=some o:=fun b o e=>hsb₁.extBut b o (Nat.ne_of_lt (Heap.lt_size e)) (Heap.get?_push_of_some _ e)
 have st3:tn 0 h₁:=T.keep _ _ _ st2 fun b _ o e=>kp b o (by rw [<- hs3]; exact Heap.get?_push_of_some _ e)
 have J4:Inv (cxC X scope (clOf X.env.cells scope.names []) N' s3.heap.objs.size s3 (upd H2 s2.heap.objs.size (.lst [])) fp) (X.pn++pins) (compσ nt fi σ) (upd H2 s2.heap.objs.size (.lst [])) { s3 with heap:=h₁,toks:=s3.toks+([]:List (Str × Value)).length }:=
  qW I3 S cn f3 ob2 hns₁ kp I3.tk
 generalize hcl:clOf X.env.cells scope.names []=cl at J4 ⊢;generalize hH3:upd H2 s2.heap.objs.size (.lst [])=H3 at J4 I3 f3 w0;have stat:∀ {H':Hp},(∀ b ∈ fp,H' b=none)->∀ b ∈ fp,FpOk (cxC X scope cl N' s3.heap.objs.size s3 H3 fp) (X.pn++pins) H' b:=fun {H'} hn b hb=>by
  obtain ⟨g0,g1,g2,g3,g4,g5⟩:=f3 b hb;have ok:=J4.ok;refine ⟨hn b hb,(ok.exf b hb).1,ok.exfs b hb,.inl hb,(ok.exf b hb).2,fun p hp=>g5 p ?_⟩;have hp':p ∈ ([]:List (Addr × Obj))++(X.pn++pins):=hp;simpa using hp'
 have loop:∀ s₃:Shared,s₃ = { s3 with heap:=h₁,toks:=s3.toks+([]:List (Str × Value)).length } ->
   codeAny (model X.prog X.w) X.A (.compLoop (.ListComp elt [⟨tg,iter,ifs,0⟩] scope pos) 0 (.ref it) (.ref s2.heap.objs.size) (compEnvC scope cl s3.heap.objs.size X.env))
    (compPost (model X.prog X.w) X.A X.xe (some (assign (.Name x pos') X.env)) (fun _ s'=>∃ σ' H',Inv X pins σ' H' s'/\D.nx σ' H') (.ref s2.heap.objs.size) s3.heap.objs.size) s₃:=by
  rintro s₃ rfl;refine jS (fun n s'=>∃ i acc H',Inv (cxC X scope cl N' s3.heap.objs.size s3 H3 fp) (X.pn++pins) (compσ nt fi σ) H' s'/\tn i s'.heap/\(∀ b ∈ fp,H' b=none)/\W i n acc H') ?_ m0
   ⟨0,[],H3,J4,st3,fun b hb=>(f3 b hb).1,w0⟩
  rintro n s5 ⟨ii,acc,H5,I5,st5,fr5,w5⟩;rcases turn ii n acc H5 w5 with ⟨stop,qn⟩ | ⟨go,step⟩
  ·refine thn (T.done (cxC X scope cl N' s3.heap.objs.size s3 H3 fp) rfl rfl rfl hcalm ii (X.pn++pins) s5 (compσ nt fi σ) H5 (fun _ _=>False) I5 (stat fr5) st5 stop) fun r s6 ⟨hr,I6⟩=>?_
   subst hr;obtain ⟨m6,hn6,_⟩:=I6.loc;have I7:Inv X pins σ H5 s6:=rV I3 f3 (Nat.le_refl _) I6 (Heap.SameBut.refl _ s6.heap);have fC:FpOk X pins H5 s3.heap.objs.size:=I3.fpOk (Nat.le_refl _) I6.free;obtain ⟨c0,c1,c2,c3,c4,c5⟩:=fC;refine wpAny_assign_Name (pG I7 hN hi0 hx (v:=.ref s2.heap.objs.size) rfl (fun s8 I8 ⟨a,sb,ha⟩=>?_) hf);have na:a≠s3.heap.objs.size:=by
    rcases ha with rfl | ha
    ·exact c1.symm
    ·exact c4 x a ha
   refine ⟨m6,hn6.sameBut sb na.symm,fun h' sb'=>⟨_,H5,?_,qn⟩⟩;exact I8.turned (t':=s8.toks) (fun b o nb e=>(sb'.2 b nb).trans e) c0 c1 c3 c4 c5
  ·refine thn (T.item (cxC X scope cl N' s3.heap.objs.size s3 H3 fp) rfl rfl rfl hcalm ii (X.pn++pins) s5 (compσ nt fi σ) H5 (fun _ _=>False) I5 (stat fr5) st5 go) fun r s6 ⟨u,hr,h6⟩=>?_
   subst hr;refine thn h6 fun _ s7 ⟨y,H7,I7,r7,y7,st7,fr7⟩=>?_
   have I7':=I7.pinned (stat fr7) (T.obj _ _ st7);refine thn (hg _ _ _ _ _ _ s7 (compσ nt fi σ) H7 y u _ I7' r7 (gk _ _ _ _ (step y H7 y7))) fun _ s8 ⟨σ8,H8,I8,q8,l8,d8⟩=>?_
   refine thn (hc _ _ _ _ _ _ s8 σ8 H8 _ I8 q8) fun b s9 ⟨H9,I9,q9⟩=>?_
   have again:∀ {s':Shared} {H':Hp} {m':Nat} {acc':List V},Inv (cxC X scope cl N' s3.heap.objs.size s3 H3 fp) ((X.pn++pins)++pinsAt fp s7.heap) σ8 H' s'->m' < n->W (ii+1) m' acc' H' ->
     ∃ m,m < n/\∃ i acc H',Inv (cxC X scope cl N' s3.heap.objs.size s3 H3 fp) (X.pn++pins) (compσ nt fi σ) H' s'/\tn i s'.heap/\(∀ b ∈ fp,H' b=none)/\W i m acc H':=fun {s' H' m' acc'} I' hm w'=>by
    refine ⟨m',hm,ii+1,acc',H',I'.unpinned.weak l8.symm (compσ_weak l8 d8),T.keep _ _ _ st7 fun b hb o e=>(I'.pin (b,o) (List.mem_append_right _ (List.mem_append_right _ (dh hb e)))).1,fun b hb=>?_,w'⟩;obtain ⟨o,e,d⟩:=T.obj _ _ st7 b hb;exact (I'.pin (b,o) (List.mem_append_right _ (List.mem_append_right _ (dh hb e)))).2.1
   cases b with
   | false=>
    rw [if_neg Bool.false_ne_true] at q9 ⊢;obtain ⟨m',hm,w'⟩:=q9;exact again I9 hm w'
   | true=>
    rw [if_pos rfl] at q9 ⊢;refine thn (he _ _ _ _ _ _ s9 σ8 H9 _ I9 q9) fun uv s10 ⟨v10,H10,I10,r10,hD,hlt,m',hm,w'⟩=>?_
    refine thn (kO (X:=cxC X scope cl N' s3.heap.objs.size s3 H3 fp) _ s10 σ8 H10 (.ref s2.heap.objs.size) [v10] (.ref s2.heap.objs.size) [uv] (fun _ H'=>H'=upd H10 s2.heap.objs.size (.lst (acc++[v10]))) I10 rfl (.cons r10 .nil) ⟨_,acc,v10,rfl,rfl,hD,hlt,rfl⟩) fun _ s11 ⟨_,H11,I11,_,e11⟩=>?_
    subst e11;exact again I11 hm w'
 exact codeAny_compStart_list (loop _ rfl) (T.self _ 0 _ _ _ st3 (loop _ rfl))
end
structure Fly (P:Program) (w:World) (outer:List Env) (H H':Hp) (h h':Heap) (ea C:Addr):Prop where
 un:Un (frs outer) [] H H' h h'
 hok:HOk P w H' h'
 new:∀ b o,h.get? b=some o->b≠ea
 fr:H' ea=none
 fl:∃ B a0,Heap.FlyingW B outer ea (.ref C) a0 h'/\∀ b,((∃ o,h.get? b=some o)/\b ∉ frs outer)\/H' b≠none->∃ o,B.get? b=some o
noncomputable def XR (P:Program) (w:World):CXT:=fun outer H s E e s'=>
 ∃ ea C H',e=.ref ea/\0 < s'.toks/\s'.os=s.os/\AllBare s'.gens/\Fly P w outer H H' s.heap s'.heap ea C/\E (.ref C) none H'
theorem Fly.on {P:Program} {w:World} {outer:List Env} {H H':Hp} {h h' h2:Heap} {ea C:Addr} (F:Fly P w outer H H' h h' ea C) {B:Heap} {a0:Value}
  (fl1:Heap.FlyingW B outer ea (.ref C) a0 h') (inB:∀ b,((∃ o,h.get? b=some o)/\b ∉ frs outer)\/H' b≠none->∃ o,B.get? b=some o)
  (ff:∀ b ∈ frs outer,H b=none) (fl2:Heap.FlyingW B outer ea (.ref C) a0 h2) (up:h'.UpToSlots h2):Fly P w outer H H' h h2 ea C:=by
 have same:∀ b o,((∃ o,h.get? b=some o)/\b ∉ frs outer)\/H' b≠none->h'.get? b=some o->h2.get? b=some o:=fun b o hb e=>by
  obtain ⟨o',eB⟩:=inB b hb;have e1:=fl1.1 b o' eB;rw [e] at e1; cases e1;exact fl2.1 b o eB
 have sl:∀ b o,b ∈ frs outer->h'.get? b=some o->∃ sl,h2.get? b=some { o with slots:=sl }:=fun b o hb e=>by
  obtain ⟨_,o',ho',hd⟩:=fl1.2.2.1.mem hb;rw [e] at ho'; cases ho';exact up b o e hd
 refine ⟨⟨fun b o e n hf hx=>same b o (.inl ⟨⟨o,e⟩,hf⟩) (F.un.keep b o e n hf hx),fun b o e n hf hx=>?_,F.un.free,fun b o e hx=>?_,F.un.tups,F.un.frzs,F.un.tbls⟩,fun a o e=>?_,F.new,F.fr,B,a0,fl2,inB⟩
 ·obtain ⟨s1,e1⟩:=F.un.slot b o e n hf hx;obtain ⟨s2,e2⟩:=sl b _ hf e1;exact ⟨s2,e2⟩
 ·obtain ⟨o1,e1⟩:=F.un.there b o e hx;by_cases hf:b ∈ frs outer
  ·obtain ⟨s2,e2⟩:=sl b _ hf e1;exact ⟨_,e2⟩
  ·exact ⟨o1,same b o1 (.inl ⟨⟨o,e⟩,hf⟩) e1⟩
 ·refine (F.hok a o e).stay (fun b u hb q=>same b u (.inr ?_) q) (fun _ q=>q) fun _ _ q=>q
  rcases hb with rfl | hb
  ·rw [e]; simp
  ·rw [hb]; simp
section
variable {X:Cx} {pins:List (Addr × Obj)} {σ:St} {H:Hp} {s:Shared}
theorem rM {env:Env} {l:List Env} {L:Addr} (hf:env.frame=some L):frs (env::l)=L::frs l:=by unfold frs; rw [List.filterMap_cons,hf]
theorem Inv.leave (I:Inv X pins σ H s) (hex:X.ex=[]) {B h2:Heap} {ea C:Addr} {a0:Value} (hB:B.StaysIn s.heap) (up:s.heap.UpToSlots h2)
  (inB:∀ b,((∃ o,X.s₀.heap.get? b=some o)/\b ∉ frs X.outer)\/H b≠none->∃ o,B.get? b=some o) (fl:Heap.FlyingW B X.outer ea (.ref C) a0 h2)
  (new:∀ b o,X.s₀.heap.get? b=some o->b≠ea) (fr:H ea=none):Fly X.prog X.w X.outer X.H₀ H X.s₀.heap h2 ea C:=by
 have nx:∀ b:Addr,b ∉ X.ex:=fun b z=>by rw [hex] at z; cases z
 have same:∀ b o,((∃ o,X.s₀.heap.get? b=some o)/\b ∉ frs X.outer)\/H b≠none->s.heap.get? b=some o->h2.get? b=some o:=fun b o hb e=>by
  obtain ⟨o',eB⟩:=inB b hb;have e1:=hB b o' eB;rw [e] at e1; cases e1;exact fl.1 b o eB
 have sl:∀ b o,b ∈ frs X.outer->s.heap.get? b=some o->∃ sl,h2.get? b=some { o with slots:=sl }:=fun b o hb e=>by
  obtain ⟨_,o',ho',hd⟩:=I.funs.mem hb;rw [e] at ho'; cases ho';exact up b o e hd
 refine ⟨⟨fun b o e n hf _=>same b o (.inl ⟨⟨o,e⟩,hf⟩) (I.base.keep b o e n hf (nx b)),fun b o e n hf _=>?_,fun b o e n _=>I.base.free b o e n (nx b),fun b o e _=>?_,I.base.tups,I.base.frzs,I.base.tbls⟩,fun a o e=>?_,new,fr,B,a0,fl,inB⟩
 ·obtain ⟨s1,e1⟩:=I.base.slot b o e n hf (nx b);obtain ⟨s2,e2⟩:=sl b _ hf e1;exact ⟨s2,e2⟩
 ·obtain ⟨o1,e1⟩:=I.base.there b o e (nx b);by_cases hf:b ∈ frs X.outer
  ·obtain ⟨s2,e2⟩:=sl b _ hf e1;exact ⟨_,e2⟩
  ·exact ⟨o1,same b o1 (.inl ⟨⟨o,e⟩,hf⟩) e1⟩
 ·refine (I.hok a o e).stay (fun b u hb q=>same b u (.inr ?_) q) (fun _ q=>q) fun _ _ q=>q
  rcases hb with rfl | hb
  ·rw [e]; simp
  ·rw [hb]; simp
end
def Raises (X:Cx) (E:XK):Prop:=∀ (pins:List (Addr × Obj)) (σ:St) (H:Hp) (s:Shared) (h':Heap) (e C:Addr) (vs:List Value),
 Inv X pins σ H s->Heap.MadeExcOf s.heap h' e (.ref C) vs->E (.ref C) none H->X.xe (.ref e) { s with heap:=h' }
section
variable {P:Program} {w:World} {K:Frag} {mg:Str->Option Value} {base:Heap} {N:List Str} {qual:Str} {scope:Scope} {f:Addr} {cd:Value} {A:Around} {outer:List Env} {s₀:Shared} {H₀:Hp} {E:XK}
theorem gr:Raises (cxOf (XR P w) P w K mg base N qual scope f cd A outer s₀ H₀ E) E:=by
 intro pins σ H s h' e C vs I M q
 let X:Cx:=cxOf (XR P w) P w K mg base N qual scope f cd A outer s₀ H₀ E
 have I:Inv X pins σ H s:=I;have hf:X.env.frame=some X.env.locals:=rfl;have hst:X.stack=X.env::X.outer:=rfl;show wpAny (model P w) X.A (leaving X.env (.ref e)) (fun _ s''=>XR P w outer H₀ s₀ E (.ref e) s'') (fun e' s''=>XR P w outer H₀ s₀ E e' s'') { s with heap:=h' };have hin:∀ env ∈ X.stack,∀ a,env.frame=some a->a ∈ frs X.stack:=fun env he a ha=>List.mem_filterMap.mpr ⟨env,he,ha⟩
 refine wpAny_leaves_madeW (s:={ s with heap:=h' }) (base:=PySem.W.hideAll s.heap (frs X.stack)) (h:=s.heap) (env:=X.env) (outer:=X.outer) (L:=X.env.locals) I.ok.frames hf (fun b o z=>PySem.W.of_hideAll _ z) (PySem.W.funFrames_hide I.stack hin) M fun h2 t fl _ _ up=>?_
 have up1:s.heap.UpToSlots h2:=(Heap.UpToSlots.of_keeps M.keeps).trans up;have ne:∀ b o,s.heap.get? b=some o->b≠e:=fun b o q z=>by rw [z,M.new] at q; cases q
 refine ⟨e,C,H,rfl,I.tk,I.os,I.bare,I.leave rfl (fun b o z=>PySem.W.of_hideAll _ z) up1 (fun b hb=>?_) fl (fun b o z=>?_) ?_,q⟩
 ·rcases hb with ⟨⟨o,eo⟩,nf⟩ | hb
  ·obtain ⟨o1,e1⟩:=I.base.there b o eo (by intro z; cases z);refine ⟨o1,PySem.W.hideAll_get _ e1 ?_⟩;rw [hst,rM hf];intro z;rcases List.mem_cons.mp z with z | z
   ·exact absurd (Nat.lt_of_lt_of_le (Heap.lt_size eo) I.ok.above) (by rw [z]; exact Nat.lt_irrefl _)
   ·exact nf z
  ·cases eb:H b with
   | none=>exact absurd eb hb
   | some u=>
    have lt:=I.hok.lt eb;cases eo:s.heap.get? b with
    | none=>
     exfalso;have:=(I.hok b u eb);cases u with
     | lst xs=>obtain ⟨_,_,_,_,e⟩:=this; rw [eo] at e; cases e
     | tup xs=>obtain ⟨_,_,_,_,e,_⟩:=this; rw [eo] at e; cases e
     | dK kvs=>obtain ⟨_,_,_,_,o,_,_,e,_⟩:=this; rw [eo] at e; cases e
     | dT kvs=>obtain ⟨_,_,_,_,o,_,_,e,_⟩:=this; rw [eo] at e; cases e
     | set S n=>obtain ⟨o,_,_,_,e,_⟩:=this; rw [eo] at e; cases e
     | ins C dx fs=>obtain ⟨_,_,_,e,_⟩:=this; rw [eo] at e; cases e
     | own y=>obtain ⟨_,e⟩:=this; rw [eo] at e; cases e
     | xd fs=>obtain ⟨_,⟨_,_,_,e,_⟩,_⟩:=this; rw [eo] at e; cases e
     | rng lo hi=>obtain ⟨_,_,_,e⟩:=this; rw [eo] at e; cases e
     | frz ob u=>obtain ⟨e,_⟩:=this; rw [eo] at e; cases e
     | tbl ps=>obtain ⟨_,e,_⟩:=this; rw [eo] at e; cases e
     | met f y=>have e:s.heap.get? b=some _:=this; rw [eo] at e; cases e
     | ext φ=>obtain ⟨_,⟨_,e⟩,_⟩:=this; rw [eo] at e; cases e
    | some o=>
     refine ⟨o,PySem.W.hideAll_get _ eo fun z=>?_⟩;exact hb (I.stkFree b z)
 ·obtain ⟨o1,e1⟩:=I.base.there b o z (by intro z; cases z);exact ne b o1 e1
 ·cases eb:H e with
  | none=>rfl
  | some u=>
   exfalso;have:=(I.hok e u eb);have eo:=M.new;cases u with
   | lst xs=>obtain ⟨_,_,_,_,e⟩:=this; rw [eo] at e; cases e
   | tup xs=>obtain ⟨_,_,_,_,e,_⟩:=this; rw [eo] at e; cases e
   | dK kvs=>obtain ⟨_,_,_,_,o,_,_,e,_⟩:=this; rw [eo] at e; cases e
   | dT kvs=>obtain ⟨_,_,_,_,o,_,_,e,_⟩:=this; rw [eo] at e; cases e
   | set S n=>obtain ⟨o,_,_,_,e,_⟩:=this; rw [eo] at e; cases e
   | ins C dx fs=>obtain ⟨_,_,_,e,_⟩:=this; rw [eo] at e; cases e
   | own y=>obtain ⟨_,e⟩:=this; rw [eo] at e; cases e
   | xd fs=>obtain ⟨_,⟨_,_,_,e,_⟩,_⟩:=this; rw [eo] at e; cases e
   | rng lo hi=>obtain ⟨_,_,_,e⟩:=this; rw [eo] at e; cases e
   | frz ob u=>obtain ⟨e,_⟩:=this; rw [eo] at e; cases e
   | tbl ps=>obtain ⟨_,e,_⟩:=this; rw [eo] at e; cases e
   | met f y=>have e:s.heap.get? _=some _:=this; rw [eo] at e; cases e
   | ext φ=>obtain ⟨_,⟨_,e⟩,_⟩:=this; rw [eo] at e; cases e
theorem dg:Passes (XR P w) (cxOf (XR P w) P w K mg base N qual scope f cd A outer s₀ H₀ E) E:=by
 intro pins σ H s e s' I h
 let X:Cx:=cxOf (XR P w) P w K mg base N qual scope f cd A outer s₀ H₀ E
 have I:Inv X pins σ H s:=I;obtain ⟨ea,C,H',rfl,tk,os,bare,F,q⟩:=h;have hf:X.env.frame=some X.env.locals:=rfl;have hst:X.stack=X.env::X.outer:=rfl;show wpAny (model P w) X.A (leaving X.env (.ref ea)) (fun _ s''=>XR P w outer H₀ s₀ E (.ref ea) s'') (fun e' s''=>XR P w outer H₀ s₀ E e' s'') s';obtain ⟨B,a0,fl,inB⟩:=F.fl;have I2:Inv X pins σ H' s':=I.call' os F.un F.hok bare (fun b z=>nomatch z) tk;refine wpAny_leaves_onW (env:=X.env) (outer:=X.outer) (L:=X.env.locals) I.ok.frames hf fl fun h2 fl2 up=>?_
 refine ⟨ea,C,H',rfl,tk,os.trans I.os,bare,I2.leave rfl fl.1 up (fun b hb=>inB b ?_) fl2 (fun b o z=>?_) F.fr,q⟩
 ·rcases hb with ⟨⟨o,eo⟩,nf⟩ | hb
  ·obtain ⟨o1,e1⟩:=I.base.there b o eo (by intro z; cases z);refine .inl ⟨⟨o1,e1⟩,?_⟩;show b ∉ frs X.stack;rw [hst,rM hf];intro z;rcases List.mem_cons.mp z with z | z
   ·exact absurd (Nat.lt_of_lt_of_le (Heap.lt_size eo) I.ok.above) (by rw [z]; exact Nat.lt_irrefl _)
   ·exact nf z
  ·exact .inr hb
 ·obtain ⟨o1,e1⟩:=I.base.there b o z (by intro z; cases z);exact F.new b o1 e1
end
abbrev bmV:List Value:=[.type "ValueError",.type "Exception",.type "BaseException",.type "object"]
structure XCl (K:Frag) (C:Addr):Prop where
 ex:PySem.W.excIn K C bmV "ValueError.__new__" = true
 ty:PySem.W.typeIn K (.ref C)=some (.type "type")
 mb:PySem.W.mroIn K C (.type "BaseException")=some true
 ga:findIn K (.ref C) "__getattribute__" = some (some (.builtin "BaseException.__getattribute__"))
 gh:findIn K (.ref C) "__getattr__" = some none
 ca:findIn K (.ref C) "__class__" = some (some (.builtin "object.__class__"))
 gt:PySem.W.specialIn K (.builtin "object.__class__") "__get__" = some (some (.builtin "getset_descriptor.__get__"))
 tk:PySem.W.takesIn K (.builtin "object.__class__")=some true
 mo:PySem.W.mroIn K C (.type "object")=some true
theorem XCl.own {K:Frag} {h:Heap} {C:Addr} (c:XCl K C) (X:K.In h):OwnCls "x" C bmV "ValueError.__new__" (fun _=>some (.ref C)) h:=by
 have q:=c.ex;refine ⟨rfl,?_⟩;revert q;unfold PySem.W.excIn;rcases hk:K.lookup C with _ | ⟨oc,odd,oda,osl⟩
 ·intro q; cases q
 ·intro q;split at q
  case h_2=>cases q
  case h_1 dd cdt sl eo=>
   cases eo;split at q
   case h_2=>cases q
   case h_1 C' bm a0 a1 a2 a3 n a5 em es=>
    simp only [Bool.and_eq_true,beq_iff_eq,Bool.not_eq_true'] at q;obtain ⟨⟨⟨⟨⟨e1,e2⟩,e3⟩,e4⟩,e5⟩,e6⟩:=q;subst e1 e2;obtain ⟨f1,f2,f3,f4,f5,f6,f7,f8,f9,f10,f11⟩:=cdt;dsimp only at em e3 e5 e6;subst em e3;have el:osl=#[a0,a1,a2,a3,some (.builtin "ValueError.__new__"),a5]:=by
     rcases osl with ⟨l⟩
     simp only at es;rw [es]
    subst el;exact ⟨bm,f4,f1,f5,f2,f6,f7,f8,f9,f10,odd,a0,a1,a2,a3,a5,_,X _ _ hk,.of_isNs (PySem.W.isNs_of_in X e5),PySem.W.nsMap_none_of_in X e5 e6,PySem.W.tail_of_in X e4⟩
section
variable {X:Cx} {x:Str} {C:Addr} {np cpos pos:Pos} {e:Expr} {es:List Expr} {t:TA} {E:XK}
noncomputable def tRaise (C:Addr) (E:XK) (t:TA):TS:=fun _ σ H=>t σ H fun vs H1=>vs.length<=sizeLine/\E (.ref C) none H1
theorem iI (hc:X.calm=true) (hx:Raises X E) (hg:Gl X x) (hm:X.mg x=some (.ref C)) (c:XCl X.K C) (ha:PA X (e::es) t) (hdb:(x == ("__debug__" : Str))=false:=by decide)
  (he:starEach (e::es) X.env=(false,eval e X.env)::starEach es X.env:=by rfl) (hpl:(backTo cpos (starEach es X.env)).any (·.1)=false:=by rfl):
  PS X (.Raise (some (.Call (.Name x np) (e::es) [] cpos)) none pos) (tRaise C E t):=by
 intro pins s σ H D I h;obtain ⟨tl,N,nm,q,bs,hdct,sn,sub,ab,col,dd,k0,k1,k2,k3,k5,mN,hC,hN,hni,T⟩:=(c.own I.mod.kin).obj;refine wpAny_Raise_call_subU (k5:=k5) (k3:=k3) (k2:=k2) (k1:=k1) (k0:=k0) (dd:=dd) (col:=col) (ab:=ab) (sub:=sub) (sn:=sn) (hdct:=hdct) (bs:=bs) (q:=q) (C:=C) (nm:=nm) (N:=N) (bm:=tl) (mN:=mN) PySem.F.excBase_ValueError (by decide) PySem.F.excBase_ValueError (T.hasType PySem.F.excBase_ValueError.hasBase) (I.ok.hd hc) ?_ hni (i5 I hg hm ⟨rfl,?_⟩ hdb)
 ·rw [he];show (false || (backTo cpos (starEach es X.env)).any (·.1))=false;rw [hpl]; rfl
 ·have hp:=ha cpos pins s σ H _ I h;rw [he] at hp ⊢;refine Calls.evalArgs_plain (wpAny_mono hp (fun us s2 hq=>?_) fun _ _ y=>y);obtain ⟨vs,H1,I1,r,z,q1⟩:=hq;exact ⟨rfl,by rw [<- r.length]; exact z,I1.bk _ _ hC,hN.keeps I1.bk,T.keeps I1.bk,fun h' ea M=>hx pins σ H1 s2 h' ea C us I1 M q1⟩
end
section
variable {K:Frag} {M:Model} {h:Heap} {C D e:Addr}
theorem XCl.isType (d:XCl K D) (X:K.In h):PySem.W.Looks M h (isType (.ref D)) true:=by
 obtain ⟨tl,N,nm,q,bs,hdct,sn,sub,ab,col,dd,k0,k1,k2,k3,k5,mN,hC,hN,hni,T⟩:=(d.own X).obj;intro A Q E s k z;unfold PySem.isType loadHead;exact wpAny_bind (wpAny_loadPart (k D _ hC) (wpAny_pure z))
theorem kG (X:K.In h) (d:XCl K D) (m:PySem.W.mroIn K C (.ref D)=some true) (he:∃ o,h.get? e=some o/\o.cls=.ref C):PySem.W.Looks M h (excMatches (.ref e) (.ref D)) true:=by
 obtain ⟨oe,e1,e2⟩:=he;have T:PySem.W.Looks M h (typeOf (.ref e)) (.ref C):=e2 ▸ (PySem.W.Looks.ld e1).andThen .now;have TD:PySem.W.Looks M h (typeOf (.ref D)) (.type "type"):=PySem.W.looks_typeIn X d.ty;have S:=PySem.W.looks_mroIn (M:=M) X m;have SB:=PySem.W.looks_mroIn (M:=M) X d.mb;have NT:PySem.W.Looks M h (isInstance (.ref D) (.type "tuple")) false:=TD.andThen (.of_pure tc_notTuple);have IE:PySem.W.Looks M h (isExcClass (.ref D)) true:=by
  intro A Q E s k z;unfold isExcClass;refine wpAny_bind (d.isType X A _ E s k ?_);exact SB A Q E s k z
 intro A Q E s k q;unfold excMatches;refine wpAny_bind (NT A _ E s k ?_);simp only [Bool.false_eq_true,if_false];refine wpAny_bind (wpAny_pure ?_);simp only [List.forIn_cons,List.forIn_nil];refine wpAny_bind (wpAny_bind (wpAny_bind (IE A _ E s k ?_)));simp only [Bool.not_true,Bool.false_eq_true,if_false];refine wpAny_pure (wpAny_pure (wpAny_bind (T A _ E s k ?_)));refine wpAny_bind (wpAny_bind (wpAny_bind (S A _ E s k ?_)));simp only [if_true];exact wpAny_pure (wpAny_pure (wpAny_pure q))
end
noncomputable def Cx.tries (X:Cx) (W:St->XK) (p:List (Addr × Obj)):Cx:=
 { X with pn:=X.pn++p,xe:=fun e s'=>∃ σ H s,Inv X p σ H s/\XR X.prog X.w X.stack H s (W σ) e s' }
noncomputable def Cx.hand (X:Cx) (ea:Addr):Cx:={ X with A:=X.A.mark (some (.ref ea)),calm:=false,xe:=fun _ _=>False }
section
variable {X:Cx} {W:St->XK} {p pins:List (Addr × Obj)} {σ:St} {H:Hp} {s:Shared}
theorem Cx.Ok.tries (k:X.Ok):(X.tries W p).Ok:=
 ⟨k.mod,k.kind,k.glob,k.blt,k.above,k.inj,k.has,k.cab,k.hd,k.frames,k.stk,k.exf,k.bs,k.bsz,k.noex,k.exfs,k.funs,k.frf⟩
theorem Cx.Ok.untries (k:(X.tries W p).Ok):X.Ok:=
 ⟨k.mod,k.kind,k.glob,k.blt,k.above,k.inj,k.has,k.cab,k.hd,k.frames,k.stk,k.exf,k.bs,k.bsz,k.noex,k.exfs,k.funs,k.frf⟩
theorem Inv.tries (I:Inv X p σ H s):Inv (X.tries W p) [] σ H s:=
 ⟨I.ok.tries,I.os,I.bare,I.base,I.loc,I.cell,I.free,I.freeC,fun q hq=>I.pin q (by rw [List.append_nil] at hq; exact hq),I.hok,I.len,I.tk⟩
theorem Inv.untries (I:Inv (X.tries W p) pins σ H s):Inv X p σ H s:=
 ⟨I.ok.untries,I.os,I.bare,I.base,I.loc,I.cell,I.free,I.freeC,fun q hq=>I.pin q (List.mem_append_left _ hq),I.hok,I.len,I.tk⟩
theorem Cx.Ok.hand (k:X.Ok) (ea:Addr):(X.hand ea).Ok:=
 ⟨k.mod,k.kind,k.glob,k.blt,k.above,k.inj,k.has,k.cab,fun z=>(nomatch z),k.frames,k.stk,k.exf,k.bs,k.bsz,k.noex,k.exfs,k.funs,k.frf⟩
theorem Inv.hand (I:Inv X p σ H s) (ea:Addr):Inv (X.hand ea) p σ H s:=
 ⟨I.ok.hand ea,I.os,I.bare,I.base,I.loc,I.cell,I.free,I.freeC,I.pin,I.hok,I.len,I.tk⟩
theorem Inv.unhand {ea:Addr} (k:X.Ok) (I:Inv (X.hand ea) p σ H s):Inv X p σ H s:=
 ⟨k,I.os,I.bare,I.base,I.loc,I.cell,I.free,I.freeC,I.pin,I.hok,I.len,I.tk⟩
end
def PassesT (CX:CXT) (X:Cx) (W:St->XK):Prop:=∀ (pins:List (Addr × Obj)) (σ:St) (H:Hp) (s:Shared) (e:Value) (s':Shared),Inv X pins σ H s->CX X.stack H s (W σ) e s'->X.xe e s'
theorem passesT {X:Cx} {W:St->XK} {p:List (Addr × Obj)}:PassesT (XR X.prog X.w) (X.tries W p) W:=fun _ σ H s _ _ I h=>⟨σ,H,s,I.untries,h⟩
section
variable {X:Cx} {CX:CXT} {k:Nat} {f:Addr} {fd:FuncData} {ps:List Str} {sp:Sp} {dvs:List V} {ds:List Value} {W:St->XK} {x:Str} {p pos:Pos} {e:Expr} {es:List Expr} {t:TA}
noncomputable def tCallT (sp:Sp) (dvs:List V) (W:St->XK) (t:TA):TE:=fun σ H Q=>t σ H fun vs H1=>sp (vs++dvs) H1 Q (W σ)
theorem yD {pins:List (Addr × Obj)} {σ:St} {H:Hp} {s:Shared} {Q:VK} {us:List Value} {vs:List V} (F:FnOk X.prog X.w X.K X.mg X.base CX k f fd ps sp) (hr:Room k X.A) (hb:Binds X.K fd ps ds) (hd:Vals dvs ds) (hx:PassesT CX X W)
  (I:Inv X pins σ H s) (r:Vals vs us) (h:sp (vs++dvs) H Q (W σ)):wpAny (model X.prog X.w) X.A (call (.ref f) us) (EP X pins σ Q) X.xe s:=by
 have r2:Vals (vs++dvs) (us++ds):=r.append hd;have hl:ps.length=(us++ds).length:=(F.len _ _ _ _ h).symm.trans r2.length;have R:=F.run X.A X.stack s H ⟨us,[]⟩ (us++ds) (vs++dvs) Q (W σ) hr I.env0 (hb s us I.kIn hl.symm) r2 h;refine wpAny_call (codeAny_mono R fun r s' hq=>?_);rcases r with er | fl
 ·exact hx pins σ H s er s' I hq
 ·cases fl with
  | ret u=>exact I.after hq
  | _=>exact hq.elim
theorem xt (F:FnOk X.prog X.w X.K X.mg X.base CX k f fd ps sp) (hr:Room k X.A) (hg:Gl X x) (hm:X.mg x=some (.ref f)) (hk:keepIn X.K (.ref f)=true) (hb:Binds X.K fd ps ds) (hd:Vals dvs ds) (hx:PassesT CX X W)
  (ha:PA X (e::es) t) (hdb:(x == ("__debug__" : Str))=false:=by decide) (he:starEach (e::es) X.env=(false,eval e X.env)::starEach es X.env:=by rfl) (hpl:(backTo pos (starEach es X.env)).any (·.1)=false:=by rfl):
  PE X (.Call (.Name x p) (e::es) [] pos) (tCallT sp dvs W t):=fun pins s σ H Q I h=>
 wpAny_Call_Name_kw (i5 I hg hm (PySem.W.callWith_K (h₀:=X.base) I.ok.mod.kin hk (thn (ha pos pins s σ H _ I h) fun us s1 ⟨vs,H1,I1,r,q⟩=>⟨I1.kIn,yD F hr hb hd hx I1 r q⟩) he hpl) hdb)
end
noncomputable def XO (C ea:Addr):HO:=.ext fun h=>∃ o,h.get? ea=some o/\o.cls=.ref C
theorem XO.ok {P:Program} {w:World} {H:Hp} {h:Heap} {C ea:Addr} (e:∃ o,h.get? ea=some o/\o.cls=.ref C):ObjOk P w H h ea (XO C ea):=
 ⟨e,let ⟨o,e1,_⟩:=e; ⟨o,e1⟩,fun _ _ ⟨o,e1,e2⟩ k=>⟨o,k o e1,e2⟩⟩
structure Caught (K:Frag) (C D:Addr):Prop where
 sub:PySem.W.mroIn K C (.ref D)=some true
noncomputable def tTryAs (K:Frag) (D:Addr) (i:Nat) (tb:(St->XK)->TS) (th:Addr->TS):TS:=fun R σ H=>
 tb (fun σ' cv _ H'=>∃ C,cv=.ref C/\Caught K C D/\∀ ea,H' ea=none ->
  th ea { nx:=fun σ2 H2=>R.nx (σ2.set i none) H2,rt:=R.rt,bk:=fun σ2 H2=>R.bk (σ2.set i none) H2,ct:=fun σ2 H2=>R.ct (σ2.set i none) H2 } (σ'.set i (some (.ref ea))) (upd H' ea (XO C ea))) R σ H
theorem Inv.unname {M:Model} {A:Around} {E:Value->Shared->Prop} {X:Cx} {pins:List (Addr × Obj)} {σ:St} {H:Hp} {s:Shared} {i:Nat} {n:Str} {pos:Pos} {Q:Unit->Shared->Prop} (I:Inv X pins σ H s) (hN:X.N.Nodup) (hi:X.N[i]? = some n) (hl:X.env.kindOf n=some .local)
  (h:∀ s',Inv X pins (σ.set i none) H s'->Q () s'):wpAny M A (do bindName X.env n .none; unbindBehindTheSuite X.env n pos) Q E s:=by
 obtain ⟨m,hn,hv⟩:=id I.loc;have hiσ:i < σ.length:=by rw [I.len]; exact (List.getElem?_eq_some_iff.mp hi).1
 refine wpAny_nameGoes_keeps hl hn (by rw [I.ok.kind]; rfl) fun h' v hn' hs=>h _ ?_
 obtain ⟨oL,_,_,hoL,_⟩:=id hn;have out:∀ b,b < X.s₀.heap.objs.size->b≠X.env.locals:=fun b z q=>absurd (Nat.lt_of_lt_of_le z I.ok.above) (by rw [q]; exact Nat.lt_irrefl _)
 refine ⟨I.ok,I.os,I.bare,⟨fun b o e z hb hx=>(hs.2 b (out b (Heap.lt_size e))).trans (I.base.keep b o e z hb hx),fun b o e z hb hx=>?_,I.base.free,fun b o e hx=>?_,I.base.tups,I.base.frzs,I.base.tbls⟩,⟨_,hn',fun j y v' e1 e2 e3=>?_⟩,fun y c e=>?_,I.free,I.freeC,fun q hq=>?_,fun b ob e=>?_,by simpa using I.len,Nat.succ_pos _⟩
 ·obtain ⟨sl,e1⟩:=I.base.slot b o e z hb hx;exact ⟨sl,(hs.2 b (out b (Heap.lt_size e))).trans e1⟩
 ·obtain ⟨o',e1⟩:=I.base.there b o e hx;exact ⟨o',(hs.2 b (out b (Heap.lt_size e))).trans e1⟩
 ·have hj:j≠i:=fun z=>by subst z; rw [List.getElem?_set_self hiσ] at e2; cases e2
  rw [List.getElem?_set_ne (Ne.symm hj)] at e2;obtain ⟨u',r',q⟩:=hv j y v' e1 e2 e3;refine ⟨u',r',?_⟩;rcases q with ⟨k,e⟩ | ⟨k,c,e,z⟩
  ·refine .inl ⟨k,?_⟩;have:y≠n:=fun e=>hj (mx hN e1 (e ▸ hi))
   simp [this,e]
  ·exact .inr ⟨k,c,e,z.sameBut hs (I.cne y c e)⟩
 ·obtain ⟨w',z⟩:=I.cell y c e;exact ⟨w',z.sameBut hs (I.cne y c e)⟩
 ·obtain ⟨e,z,ne,nf,d⟩:=I.pin q hq;exact ⟨(hs.2 q.1 ne).trans e,z,ne,nf,d⟩
 ·refine (I.hok b ob e).stay (fun c w' hc q=>(hs.2 c ?_).trans q) (fun _ q=>q) fun _ _ q=>q
  rintro rfl;rcases hc with rfl | hc
  ·rw [I.free] at e; cases e
  ·rw [I.free] at hc; cases hc
theorem xH {X:Cx} {body suite:List Stmt} {b₀:Stmt} {x n:Str} {np hpos pos:Pos} {D:Addr} {i:Nat} {tb:(St->XK)->TS} {th:Addr->TS} (hb:∀ W p,PSs (X.tries W p) body (tb W)) (hh:∀ ea,PSs (X.hand ea) (b₀ :: suite) (th ea))
  (hst:X.stack=X.env::X.outer) (hfr:X.env.frame=some X.env.locals) (hg:Gl X x) (hm:X.mg x=some (.ref D)) (d:XCl X.K D) (hN:X.N.Nodup) (hi:X.N[i]? = some n) (hl:X.env.kindOf n=some .local) (hdb:(x == ("__debug__" : Str))=false:=by decide):
  PS X (.Try body [.ExceptHandler (some (.Name x np)) (some n) (b₀ :: suite) hpos] [] [] pos) (tTryAs X.K D i tb th):=by
 intro pins s σ H R I h;refine wpAny_Try_except (wpAny_mono (hb _ pins [] s σ H R I.tries h) (fun f s1 q=>?_) fun e s1 q=>?_)
 ·have q:SP X pins R f s1:=by
   cases f with
   | next=>obtain ⟨σ',H',I',z⟩:=q; exact ⟨σ',H',I'.untries,z⟩
   | brk=>obtain ⟨σ',H',I',z⟩:=q; exact ⟨σ',H',I'.untries,z⟩
   | cont=>obtain ⟨σ',H',I',z⟩:=q; exact ⟨σ',H',I'.untries,z⟩
   | ret u=>obtain ⟨v,σ',H',I',r,z⟩:=q; exact ⟨v,σ',H',I'.untries,r,z⟩
  cases f with
  | next=>exact wpAny_execs_nil q
  | _=>exact q
 ·obtain ⟨σ1,H1,s0,I1,ea,C,H',rfl,tk,os,bare,F,C',eC,cau,k⟩:=q;cases eC;obtain ⟨B,a0,fl,inB⟩:=F.fl;have ff:∀ b ∈ frs X.stack,H1 b=none:=I1.stkFree;have hfs:X.A.frames=some (X.env::X.outer):=by rw [<- hst]; exact I1.ok.frames
  refine wpAny_looks_onW (env:=X.env) (outer:=X.outer) (L:=X.env.locals) hfs hfr (by rw [<- hst]; exact fl) fun h4 held4 up4=>?_
  refine wpAny_landsW held4 fun h5 fl5 up5=>?_
  have F5:Fly X.prog X.w X.stack H1 H' s0.heap h5 ea C:=F.on fl inB ff (by rw [hst]; exact fl5) (up4.trans up5);have I5:Inv X pins σ1 H' { s1 with heap:=h5 }:=I1.call' (s':={ s1 with heap:=h5 }) os F5.un F5.hok bare (fun b z=>nomatch z) tk;refine wpAny_handleBy_cons (codeAny_handlers_test ?_) (by intro q; cases q);refine i5 (I5.hand ea) hg hm ?_ hdb;refine kG I5.kIn d cau.sub fl5.there _ _ _ _ (fun _ _ z=>z) ?_;refine codeAny_handlers_suite_as ?_;refine lands_againW fl5 fun h6 fl6 up6=>?_
  have F6:Fly X.prog X.w X.stack H1 H' s0.heap h6 ea C:=F5.on (by rw [hst]; exact fl5) inB ff (by rw [hst]; exact fl6) up6;have ne6:∀ b,H' b≠none->b≠ea:=fun b z q=>by rw [q,F6.fr] at z; exact z rfl
  have U6:Un (frs X.stack) [] H1 (upd H' ea (XO C ea)) s0.heap h6:=by
   refine ⟨F6.un.keep,F6.un.slot,fun b o e z hx=>?_,F6.un.there,fun b xs e=>?_,fun b o u e=>?_,fun b ps e=>?_⟩
   ·rw [ao (F6.new b o e)]; exact F6.un.free b o e z hx
   ·have q:=F6.un.tups b xs e;rw [ao (ne6 b (by rw [q]; simp))]; exact q
   ·have q:=F6.un.frzs b o u e;rw [ao (ne6 b (by rw [q]; simp))]; exact q
   ·obtain ⟨more,q⟩:=F6.un.tbls b ps e;exact ⟨more,by rw [ao (ne6 b (by rw [q]; simp))]; exact q⟩
  have O6:HOk X.prog X.w (upd H' ea (XO C ea)) h6:=fun b o e=>by
   by_cases hbe:b=ea
   ·subst hbe;rw [upd_same] at e; cases e;exact XO.ok fl6.there
   ·rw [ao hbe] at e;refine (F6.hok b o e).stay (fun _ _ _ q=>q) (fun c q=>?_) fun c xs q=>?_
    ·rw [ao (ne6 c (by rw [q]; simp))]; exact q
    ·rw [ao (ne6 c (by rw [q]; simp))]; exact q
  have I6:Inv X pins σ1 (upd H' ea (XO C ea)) { s1 with heap:=h6 }:=I1.call' (s':={ s1 with heap:=h6 }) os U6 O6 bare (fun b z=>nomatch z) tk;refine nq (X:=X.hand ea) (v:=.ref ea) (I6.hand ea) hN hi (.inl hl) rfl (fun s7 I7=>?_) (.inr hl);refine wpAny_mono (hh ea pins s7 _ _ _ I7 (k ea F6.fr)) (fun f s8 q=>?_) fun _ _ z=>z.elim
  cases f with
  | next=>obtain ⟨σ',H',I',z⟩:=q; exact (I'.unhand I.ok).unname hN hi hl fun s9 I9=>⟨_,_,I9,z⟩
  | brk=>obtain ⟨σ',H',I',z⟩:=q; exact (I'.unhand I.ok).unname hN hi hl fun s9 I9=>⟨_,_,I9,z⟩
  | cont=>obtain ⟨σ',H',I',z⟩:=q; exact (I'.unhand I.ok).unname hN hi hl fun s9 I9=>⟨_,_,I9,z⟩
  | ret u=>obtain ⟨v,σ',H',I',r,z⟩:=q; exact (I'.unhand I.ok).unname hN hi hl fun s9 I9=>⟨v,_,_,I9,r,z⟩
end L2
namespace L2
open PySem PySem.Spec PySem.Calls PyProof.Rows PySem.W Builtin Builtin.ObjectAttr Builtin.Getset_descriptor
section
variable {prog:Program} {w:World} {A:Around} {E:Value->Shared->Prop} {K:Frag} {x C:Addr} {o:Obj} {h:Heap} {g:Array GenState} {d:Drawn} {t:Nat} {os:OsState}
theorem tR {R:Result->Shared->Prop} (X:K.In h) (c:XCl K C) (hx:h.get? x=some o) (hc:o.cls=.ref C) (hq:R (.ok (.ret (.ref C))) ⟨h,g,d,t,os⟩):
  codeAny (model prog w) A (.call (.builtin "getset_descriptor.__get__") ⟨[.builtin "object.__class__",.ref x,.ref C],[]⟩) R ⟨h,g,d,t,os⟩:=by
 have L0:Looks (model prog w) h (typeOf (.ref x)) (.ref C):=hc ▸ (Looks.ld hx).andThen .now;have L1:=looks_mroIn (M:=model prog w) X c.mo;refine codeAny_call_builtin KF.slot_gs.plain KF.entry_gs (KF.slot_gs.check _ _ _ _ _ _ _ _ KF.type_class (KF.args_gs _ _ _) ?_);unfold Builtin.«getset_descriptor.__get__»;unfold descrGet;rw [dga_obj];apply wpAny_bind;apply wpAny_pure;unfold descrGetter descrCheckInstance;unfold descrNameAndClass;unfold isInstance;simp only [KF.owner_class]
 repeat lk
 refine ⟨Code.quiet_builtin _ (by decide +kernel),?_⟩;apply codeAny_builtin KF.entry_class;unfold Builtin.«object.__class__»;unfold shownTypeOf
 repeat lk
 exact hq
theorem re (X:K.In h) (c:XCl K C):Looks (model prog w) h (find (.ref x) (.ref C) "__class__") (Found.bind (.builtin "getset_descriptor.__get__") (.builtin "object.__class__")):=by
 have L1:=looks_findIn (M:=model prog w) X c.ca;have L2:Looks (model prog w) h (getOf (some (.builtin "object.__class__"))) (some (.builtin "getset_descriptor.__get__")):=looks_specialIn X c.gt;have L3:Looks (model prog w) h (dataDescriptor? (some (.builtin "object.__class__")) (some (.builtin "getset_descriptor.__get__"))) (some (.builtin "getset_descriptor.__get__",.builtin "object.__class__")):=(looks_takesIn (M:=model prog w) X c.tk).andThen .now;exact L1.andThen (L2.andThen (L3.andThen (Looks.tag .now)))
theorem qG {tk:Tok} {Q:Fin->Shared->Prop} (X:K.In h) (c:XCl K C) (hx:h.get? x=some o) (hc:o.cls=.ref C) (hq:Q (.done (.ret (.ref C))) ⟨h,g,d,t,os⟩):
  wpAny (model prog w) A (Builtin.«object.__getattribute__» ⟨[.ref x,.str "__class__" tk],[]⟩) Q E ⟨h,g,d,t,os⟩:=by
 have L0:Looks (model prog w) h (typeOf (.ref x)) (.ref C):=hc ▸ (Looks.ld hx).andThen .now;have L1:=re (prog:=prog) (w:=w) (x:=x) X c;unfold Builtin.«object.__getattribute__»;apply wpAny_bind;apply wpAny_pure;dsimp only;apply wpAny_bind;apply wpAny_pure;refine wpAny_bind (L0.at (wpAny_bind (L1.at ?_)));dsimp only;show wpAny _ _ (holding [Value.builtin "object.__class__"] (call (Value.builtin "getset_descriptor.__get__") [Value.builtin "object.__class__",.ref x,.ref C])>>=ret) _ _ _;exact wpAny_bind (wpAny_holding (wpAny_call (tR X c hx hc (wpAny_pure hq))))
theorem uR {M:Model} {nv:Value} {Q:Unit->Shared->Prop} (X:K.In h) (c:XCl K C) (hx:h.get? x=some o) (hc:o.cls=.ref C) (hq:Q () ⟨h,g,d,t,os⟩):
  wpAny M A (checkBuiltinCall "BaseException.__getattribute__" ⟨[.ref x,nv],[]⟩) Q E ⟨h,g,d,t,os⟩:=by
 have LI:Looks M h (isInstance (.ref x) (.type "BaseException")) true:=(hc ▸ (Looks.ld hx).andThen .now:Looks M h (typeOf (.ref x)) (.ref C)).andThen (looks_mroIn (M:=M) X c.mb);have kd:builtinKind "BaseException.__getattribute__" = some .slot:=by decide +kernel
 have sp:splitId "BaseException.__getattribute__" = some ("BaseException", "__getattribute__"):=by decide +kernel
 have ag:=PySem.F.args_bexc_ga (.ref x) nv;simp only [checkBuiltinCall,kd,sp];refine wpAny_bind (LI.at ?_);simp only [Bool.not_true,Bool.false_eq_true,if_false]
 repeat (any_goals (first | assumption | wp_step))
theorem v7 {tk:Tok} {Q:Value->Shared->Prop} (X:K.In h) (c:XCl K C) (hx:h.get? x=some o) (hc:o.cls=.ref C) (hq:Q (.ref C) ⟨h,g,d,t,os⟩):
  wpAny (model prog w) A (getAttrBy (.ref x) (.str "__class__" tk) false) Q E ⟨h,g,d,t,os⟩:=by
 have L0:Looks (model prog w) h (typeOf (.ref x)) (.ref C):=hc ▸ (Looks.ld hx).andThen .now;have L1:=looks_findIn (M:=model prog w) X c.ga;have L2:=looks_findIn (M:=model prog w) X c.gh;have L3:=looks_mroIn (M:=model prog w) X c.mb;have LI:Looks (model prog w) h (isInstance (.ref x) (.type "BaseException")) true:=L0.andThen L3;unfold getAttrBy;refine wpAny_holding (wpAny_bind (L0.at (wpAny_bind (L1.at ?_))));dsimp only;have nga:(Value.builtin "BaseException.__getattribute__" == Value.builtin "object.__getattribute__")=false:=by decide +kernel
 rw [if_neg (by rw [nga,Bool.and_false]; decide)];unfold getAttrByItsOwn hookBefore;refine wpAny_bind (L2.at ?_);refine wpAny_bind (wpAny_attempt (wpAny_holding ?_));unfold callGetattribute;rw [if_neg (by decide)];unfold boundAndCalled;rw [PySem.F.attrBase_ValueError.ga.bind];refine wpAny_bind (wpAny_pure ?_);refine wpAny_call (codeAny_call_builtin PySem.F.attrBase_ValueError.ga.plain PySem.F.entry_bexc_ga ?_);refine uR X c hx hc ?_;have ok:wpAny (model prog w) A.in1 (Builtin.«object.__getattribute__» ⟨[.ref x,.str "__class__" tk],[]⟩) (fun fin s'=>fin=.done (.ret (.ref C))/\s'=⟨h,g,d,t,os⟩) (fun _ _=>False) ⟨h,g,d,t,os⟩:=qG X c hx hc ⟨rfl,rfl⟩;refine wpAny_mono ok (fun fin s' z=>?_) fun _ _ z=>z.elim
 obtain ⟨rfl,rfl⟩:=z;dsimp only;exact handed_on rfl hq
theorem qX {Q:Option Value->Shared->Prop} (X:K.In h) (c:XCl K C) (hx:h.get? x=some o) (hc:o.cls=.ref C) (hq:Q (some (.ref C)) ⟨h,g,d,t+1,os⟩):
  wpAny (model prog w) A (getAttr? (.ref x) "__class__") Q E ⟨h,g,d,t,os⟩:=by
 unfold getAttr? getAttrBy?;refine wpAny_bind (wpAny_mkText ?_);refine wpAny_bind (wpAny_attempt (v7 X c hx hc ?_));exact wpAny_pure hq
theorem wL (c:XCl K C):KitX K (.ref x) (.ref C) (fun h=>∃ o,h.get? x=some o/\o.cls=.ref C) where
 ty:=fun _ _ _ ⟨_,e1,e2⟩=>e2 ▸ (Looks.ld e1).andThen .now
 it:=fun _ _ X _=>c.isType X
 ne:=fun h tp dd its n sl X htp=>by
  obtain ⟨tl,N,nm,q,bs,hdct,sn,sub,ab,col,dd',k0,k1,k2,k3,k5,mN,hC,_⟩:=(c.own X).obj;refine Bool.eq_false_iff.mpr fun q=>?_
  have e:C=tp:=Value.ref.inj (beq_iff_eq.mp q);rw [e] at hC;have z:=congrArg Obj.data (Option.some.inj (hC.symm.trans htp));cases z
 ca:=fun {_ _ _ _ _ s} X ⟨_,e1,e2⟩ k=>by
  obtain ⟨h,g,d,t,os⟩:=s;exact qX X c e1 e2 k
end
theorem zU {K:Frag} {C D:Addr} {b:Bool} (c:XCl K D) (m:mroIn K C (.ref D)=some b) (hb:b=false->C≠D):kitOne K (.ref C) (.ref D)=some b:=by
 unfold kitOne;by_cases q:((Value.ref C == Value.ref D)=true)
 ·rw [if_pos q];have e:C=D:=Value.ref.inj (beq_iff_eq.mp q);cases b with
  | true=>rfl
  | false=>exact absurd e (hb rfl)
 ·rw [if_neg q];unfold kitCls;dsimp only;have hc:(clsIn K D).isSome=true:=by
   have:=c.mb;unfold mroIn at this;cases e:clsIn K D with
   | none=>rw [e] at this; cases this
   | some cd=>rfl
  rw [if_pos (by rw [hc,c.ty]; simp)];exact m
theorem xM {K:Frag} {C:Addr} {b:Bool} (m:mroIn K C (.type "ValueError")=some b):kitOne K (.ref C) (.type "ValueError")=some b:=by
 unfold kitOne;rw [if_neg (by intro q; cases beq_iff_eq.mp q)];unfold kitCls;dsimp only;rw [if_pos (by decide +kernel)];exact m
section
variable {X:Cx} {pins:List (Addr × Obj)} {σ:St} {H:Hp} {s:Shared}
theorem Inv.exc (I:Inv X pins σ H s) {ea C:Addr} (e:H ea=some (XO C ea)):∃ o,s.heap.get? ea=some o/\o.cls=.ref C:=(I.hok ea _ e).1
noncomputable def V.cv:V->Option Value
 | .ref a=>some (.ref a)
 | .ty n=>some (.type n)
 | _=>none
theorem V.cv_of {v:V} {u c:Value} (r:RelV v u) (e:v.cv=some c):u=c:=by
 cases v with
 | ref a=>cases e; exact r
 | ty n=>cases e; exact r
 | _=>cases e
theorem uQ:CallR X (.builtin "isinstance") (fun xs H Q=>∃ ea C v d b,xs=[.ref ea,v]/\v.cv=some d/\H ea=some (XO C ea)/\XCl X.K C/\kitOne X.K (.ref C) d=some b/\Q (.bl b) H):=by
 intro pins s σ H xs us Q I r h;obtain ⟨ea,C,v,d,b,rfl,ev,e,c,m,q⟩:=h;obtain ⟨u,u',rfl,r1,r2⟩:=vals2 r;cases r1;cases V.cv_of r2 ev;exact tokQ I.tk (kia_one (wL c) I.kIn (I.exc e) m (fun z=>nomatch z) fun tk (htk:0 < tk)=>⟨.bl b,H,I.tok _,rfl,q⟩)
end
end L2
namespace L2
open PySem PySem.Spec PyProof.Rows
def CalleeX (P:Program) (w:World) (K:Frag) (mg:Str->Option Value) (base:Heap) (k:Nat) (x:Str) (ps:List Str) (sp:Sp):Prop:=
 ∃ f fd,FnOk P w K mg base (XR P w) k f fd ps sp/\Binds K fd ps []/\keepIn K (.ref f)=true/\mg x=some (.ref f)
theorem Fn.calX {P:Program} {w:World} {K:Frag} {mg:Str->Option Value} {base:Heap} {x:Str} {st:Stmt} {N ps:List Str} {k:Nat} {sp:Sp} (F:Fn K mg x st) (S:FnScope N ps (defScope st)) (len:∀ vs H Q E,sp vs H Q E->vs.length=ps.length)
  (hb:∀ (kV doc pm:Value) (an:Option Addr) (cdv ct:Value) (us:List Value),us.length=ps.length->bindArgs (fnOf x x (defArgs st) (defBody st) (defScope st) .none kV doc pm an cdv ct) ⟨us,[]⟩=pure (ps.zip us))
  (hbody:∀ (f:Addr) (cdv:Value) (A:Around) (outer:List Env) (s:Shared) (H:Hp) (vs:List V) (Q:VK) (E:XK),Room k (A.deeper (envOfC x (defScope st) s.heap.objs.size f cdv))->sp vs H Q E ->
   ∃ t,PSs (cxOf (XR P w) P w K mg base N x (defScope st) f cdv A outer s H E) (defBody st) t/\t { nx:=fun _ H'=>Q .non H',rt:=Q } (start N vs) H):CalleeX P w K mg base (k+1) x ps sp:=by
 obtain ⟨f,fd,F,m⟩:=F;have hB:=F.binds hb;have hK:=F.kp;obtain ⟨oc,od,kV,doc,pm,an,cdv,ct,osl,rfl,lk,hcd⟩:=F.ex;exact ⟨f,_,qT lk hcd S len (hbody f cdv),hB,hK,m⟩
section
variable {X:Cx} {k:Nat} {x:Str} {ps:List Str} {sp:Sp} {p pos:Pos} {e:Expr} {es:List Expr} {t:TA} {E:XK} {W:St->XK}
theorem nz (C:CalleeX X.prog X.w X.K X.mg X.base k x ps sp) (hr:Room k X.A) (hx:Passes (XR X.prog X.w) X E) (hg:Gl X x) (ha:PA X (e::es) t)
  (he:starEach (e::es) X.env=(false,eval e X.env)::starEach es X.env:=by rfl) (hpl:(backTo pos (starEach es X.env)).any (·.1)=false:=by rfl) (hd:(x == ("__debug__" : Str))=false:=by decide):PE X (.Call (.Name x p) (e::es) [] pos) (tCall sp [] E t):=by
 obtain ⟨f,fd,F,b,kp,m⟩:=C;exact uq F hr hg m kp b .nil hx ha (hdb:=hd) (he:=he) (hpl:=hpl)
theorem Ai (C:CalleeX X.prog X.w X.K X.mg X.base k x ps sp) (hr:Room k X.A) (hx:PassesT (XR X.prog X.w) X W) (hg:Gl X x) (ha:PA X (e::es) t)
  (he:starEach (e::es) X.env=(false,eval e X.env)::starEach es X.env:=by rfl) (hpl:(backTo pos (starEach es X.env)).any (·.1)=false:=by rfl) (hd:(x == ("__debug__" : Str))=false:=by decide):PE X (.Call (.Name x p) (e::es) [] pos) (tCallT sp [] W t):=by
 obtain ⟨f,fd,F,b,kp,m⟩:=C;exact xt F hr hg m kp b .nil hx ha (hdb:=hd) (he:=he) (hpl:=hpl)
theorem CalleeX.calm {P:Program} {w:World} {K:Frag} {mg:Str->Option Value} {base:Heap} {k:Nat} {x:Str} {ps:List Str} {sp:Sp} (C:CalleeX P w K mg base k x ps sp):
  Callee P w K mg base k x ps (fun vs H Q _=>sp vs H Q E0):=by
 obtain ⟨f,fd,F,b,kp,m⟩:=C;refine ⟨f,fd,⟨fun vs H Q _ h=>F.len vs H Q E0 h,fun A outer s H args us vs Q E hr e0 hb hv h=>?_⟩,b,kp,m⟩;refine codeAny_mono (F.run A outer s H args us vs Q E0 hr e0 hb hv h) fun r s' q=>?_
 rcases r with er | fl
 ·obtain ⟨_,_,_,_,_,_,_,_,z⟩:=q;exact z.elim
 ·cases fl with
  | ret u=>exact q
  | _=>exact q.elim
end
section
variable {X:Cx} {a c:Expr} {es:List Expr} {ta:TE} {pos p tpos:Pos} {x1:Nat}
noncomputable def cIsX (K:Frag) (d:Value) (ta:TE):TE:=fun σ H Q=>ta σ H fun x H1=>match x with
 | .ref ea=>∃ C b,H1 ea=some (XO C ea)/\XCl K C/\PySem.W.kitOne K (.ref C) d=some b/\Q (.bl b) H1
 | _=>False
theorem cY {v:V} {d:Value} (K:Frag) (hK:X.K=K) (ev:v.cv=some d) (hg:Gl X "isinstance") (hm:X.mg "isinstance" = none) (ha:PE X a ta) (hc:PE X c (tC v))
  (hs:starEach [a,c] X.env=(false,eval a X.env)::starEach [c] X.env:=by rfl) (hs2:starEach [c] X.env=(false,eval c X.env)::starEach [] X.env:=by rfl) (hpl:(backTo pos (starEach [c] X.env)).any (·.1)=false:=by rfl):PE X (.Call (.Name "isinstance" p) [a,c] [] pos) (cIsX K d ta):=by
 subst hK;refine (aB uQ hg hm jg (aa ha.mono (aa hc ad hs2) hs) (he:=hs) (hpl:=hpl)).imp fun σ H Q q=>⟨_,q,fun x H1 z=>?_⟩
 split at z
 ·obtain ⟨C,b,h1,h2,h3,z⟩:=z;exact ⟨_,C,v,d,b,rfl,ev,h1,h2,h3,z⟩
 ·exact z.elim
end
noncomputable abbrev TJ:=Nat->St->Hp->(Hp->Prop)->Prop
def PJ (X:Cx) (es:List Expr) (t:TJ):Prop:=∀ (acc:Str) (pins:List (Addr × Obj)) (s:Shared) (σ:St) (H:Hp) (Q:Hp->Prop),acc.length<=sizeLine->Inv X pins σ H s->t acc.length σ H Q ->
 Joins (model X.prog X.w) X.A X.xe (evalEach es X.env) acc (fun out s1=>out.length<=sizeLine/\∃ H1,Inv X pins σ H1 s1/\Q H1) s
noncomputable def jNil:TJ:=fun _ _ H Q=>Q H
noncomputable def jCons (te:TE) (tj:TJ):TJ:=fun n σ H Q=>te σ H fun x H1=>match x with
 | .str y=>n+y.length<=sizeLine/\tj (n+y.length) σ H1 Q
 | _=>False
section
variable {X:Cx} {e v1 v2:Expr} {es rest:List Expr} {te:TE} {tj:TJ} {pos:Pos}
theorem xb:PJ X [] jNil:=fun acc pins s σ H Q hz I q=>⟨hz,H,I,q⟩
theorem mh (he:PE X e te) (hr:PJ X es tj) (hs:evalEach (e::es) X.env=eval e X.env::evalEach es X.env:=by rfl):PJ X (e::es) (jCons te tj):=by
 intro acc pins s σ H Q hz I q;rw [hs];refine thn (he pins s σ H _ I q) fun u s1 ⟨x,H1,I1,r,z⟩=>?_
 dsimp only at z;split at z
 ·rename_i y;obtain ⟨t,rfl⟩:=r;have hl:(acc++y).length=acc.length+y.length:=strLen_append _ _;exact ⟨y,t,rfl,by rw [hl]; exact z.1,hr (acc++y) pins s1 σ H1 Q (by rw [hl]; exact z.1) I1 (by rw [hl]; exact z.2)⟩
 ·exact z.elim
noncomputable def cFS (tj:TJ):TE:=fun σ H Q=>tj 0 σ H fun H1=>∀ z,Q (.str z) H1
theorem z9 (h:PJ X (v1::v2::rest) tj):PE X (.JoinedStr (v1::v2::rest) pos) (cFS tj):=by
 intro pins s σ H Q I q;have J:=h Str.empty pins s σ H _ (by decide) I q;refine wpAny_JoinedStr ?_;have mono:∀ {P R:Str->Shared->Prop} (l:List (Sem Value)) (acc:Str) (s:Shared),(∀ o s,P o s->R o s)->Joins (model X.prog X.w) X.A X.xe l acc P s->Joins (model X.prog X.w) X.A X.xe l acc R s:=by
  intro P R l
  induction l with
  | nil=>intro acc s k z; exact k _ _ z
  | cons x r ih=>
   intro acc s k z;exact thn z fun v s1 ⟨y,t,e,hz,z⟩=>⟨y,t,e,hz,ih _ _ k z⟩
 exact mono _ _ _ (fun out s1 ⟨hz,H1,I1,z⟩=>⟨hz,⟨.str out,H1,I1.tok _,⟨_,rfl⟩,z out⟩⟩) J
noncomputable def cFmtR (tv:TE):TE:=fun σ H Q=>tv σ H fun x H1=>match x with
 | .str y=>(∀ c ∈ y.cps.toList,c < 16 ^ 8)/\y.length<=100000/\∀ z:Str,z.length<=10*y.length+2->Q (.str z) H1
 | _=>False
theorem uo (hv:PE X e te):PE X (.FormattedValue e 114 none pos) (cFmtR te):=by
 intro pins s σ H Q I q;refine wpAny_FormattedValue_repr (thn (hv pins s σ H _ I q) fun u s1 ⟨x,H1,I1,r,z⟩=>?_);dsimp only at z;split at z
 ·rename_i y;obtain ⟨t,rfl⟩:=r;obtain ⟨h1,h2,z⟩:=z;have hl:=PySem.StrLaws.reprText_len y h1;have hs:(reprText y).length<=sizeLine:=Nat.le_trans hl (Nat.le_trans (by lia:10*y.length+2<=1000002) (by decide));refine wpAny_pyReprObj_str ?_ hs;exact tokQ (Nat.succ_pos _) (formatField_str (fun t' tk (htk:0 < tk)=>⟨.str (reprText y),H1,I1.tok _,⟨_,rfl⟩,z _ hl⟩) hs)
 ·exact z.elim
end
noncomputable def xA (K:Frag) (x:Str):Addr:=match nsIn K mainGlobals x with
 | some (some (.ref a))=>a
 | _=>0
theorem jk {K:Frag} {x:Str} {C:Addr} (e:nsIn K mainGlobals x=some (some (.ref C))):xA K x=C:=by unfold xA; rw [e]
def Xn (K:Frag) (mg:Str->Option Value) (x:Str):Prop:=mg x=some (.ref (xA K x))/\XCl K (xA K x)
def Xm (K:Frag) (x y:Str) (b:Bool):Prop:=PySem.W.mroIn K (xA K x) (.ref (xA K y))=some b/\(b=false->xA K x≠xA K y)
def Xv (K:Frag) (x:Str):Prop:=PySem.W.mroIn K (xA K x) (.type "ValueError")=some true
theorem Xn.kit {K:Frag} {mg:Str->Option Value} {x y:Str} {b:Bool} (m:Xm K x y b) (n:Xn K mg y):PySem.W.kitOne K (.ref (xA K x)) (.ref (xA K y))=some b:=zU n.2 m.1 m.2
theorem Xv.kit {K:Frag} {x:Str} (m:Xv K x):PySem.W.kitOne K (.ref (xA K x)) (.type "ValueError")=some true:=xM m
theorem Xm.caught {K:Frag} {x y:Str} (m:Xm K x y true):Caught K (xA K x) (xA K y):=⟨m.1⟩
theorem oK:bootBuiltins "ValueError" = some (.type "ValueError"):=by decide +kernel
section
variable {K:Frag} {h:Heap} {mg:Str->Option Value} {x y:Str} {C D:Addr}
theorem BH (X:K.In h) (G:h.Ns mainGlobals mg) (n:nsIn K mainGlobals x=some (some (.ref C))) (ex:PySem.W.excIn K C bmV "ValueError.__new__" = true) (ty:PySem.W.typeIn K (.ref C)=some (.type "type")) (mb:PySem.W.mroIn K C (.type "BaseException")=some true)
  (ga:findIn K (.ref C) "__getattribute__" = some (some (.builtin "BaseException.__getattribute__"))) (gh:findIn K (.ref C) "__getattr__" = some none) (ca:findIn K (.ref C) "__class__" = some (some (.builtin "object.__class__"))) (mo:PySem.W.mroIn K C (.type "object")=some true)
  (gt:PySem.W.specialIn K (.builtin "object.__class__") "__get__" = some (some (.builtin "getset_descriptor.__get__"))) (tk:PySem.W.takesIn K (.builtin "object.__class__")=some true):Xn K mg x:=by
 unfold Xn;rw [jk n];exact ⟨mg_of X G n,⟨ex,ty,mb,ga,gh,ca,gt,tk,mo⟩⟩
theorem wC {b:Bool} (n:nsIn K mainGlobals x=some (some (.ref C))) (n':nsIn K mainGlobals y=some (some (.ref D))) (m:PySem.W.mroIn K C (.ref D)=some b) (d:b=false->C≠D):Xm K x y b:=by
 unfold Xm;rw [jk n,jk n'];exact ⟨m,d⟩
theorem BJ (n:nsIn K mainGlobals x=some (some (.ref C))) (m:PySem.W.mroIn K C (.type "ValueError")=some true):Xv K x:=by
 unfold Xv;rw [jk n];exact m
end
theorem gc {X:Cx} {K:Frag} {x:Str} {pos:Pos} (n:Xn K X.mg x) (hg:Gl X x) (hd:(x == ("__debug__" : Str))=false:=by decide):PE X (.Name x pos) (tC (.ref (xA K x))):=zv (v:=.ref (xA K x)) hg n.1 rfl hd
theorem xS {sp:Sp} {W:St->XK} {t:TA} {σ:St} {H:Hp} {Q:VK}:tCallT sp [] W t σ H Q=t σ H fun vs H1=>sp vs H1 Q (W σ):=by
 unfold tCallT;simp only [List.append_nil]
theorem wA {C:Addr} {E:XK} {t:TA} {D:Ends} {σ:St} {H:Hp}:tRaise C E t D σ H=t σ H fun vs H1=>vs.length<=sizeLine/\E (.ref C) none H1:=rfl
theorem BM {tj:TJ} {σ:St} {H:Hp} {Q:VK}:cFS tj σ H Q=tj 0 σ H fun H1=>∀ z,Q (.str z) H1:=rfl
theorem Aw {n:Nat} {σ:St} {H:Hp} {Q:Hp->Prop}:jNil n σ H Q=Q H:=rfl
theorem yv {te:TE} {tj:TJ} {n:Nat} {σ:St} {H:Hp} {Q:Hp->Prop}:jCons te tj n σ H Q=te σ H fun x H1=>match x with
 | .str y=>n+y.length<=sizeLine/\tj (n+y.length) σ H1 Q
 | _=>False:=rfl
theorem yk {tv:TE} {σ:St} {H:Hp} {Q:VK}:cFmtR tv σ H Q=tv σ H fun x H1=>match x with
 | .str y=>(∀ c ∈ y.cps.toList,c < 16 ^ 8)/\y.length<=100000/\∀ z:Str,z.length<=10*y.length+2->Q (.str z) H1
 | _=>False:=rfl
theorem Au {K:Frag} {d:Value} {ta:TE} {σ:St} {H:Hp} {Q:VK}:cIsX K d ta σ H Q=ta σ H fun x H1=>match x with
 | .ref ea=>∃ C b,H1 ea=some (XO C ea)/\XCl K C/\PySem.W.kitOne K (.ref C) d=some b/\Q (.bl b) H1
 | _=>False:=rfl
theorem wR {K:Frag} {D:Addr} {i:Nat} {tb:(St->XK)->TS} {th:Addr->TS} {R:Ends} {σ:St} {H:Hp}:tTryAs K D i tb th R σ H =
 tb (fun σ' cv _ H'=>∃ C,cv=.ref C/\Caught K C D/\∀ ea,H' ea=none ->
  th ea { nx:=fun σ2 H2=>R.nx (σ2.set i none) H2,rt:=R.rt,bk:=fun σ2 H2=>R.bk (σ2.set i none) H2,ct:=fun σ2 H2=>R.ct (σ2.set i none) H2 } (σ'.set i (some (.ref ea))) (upd H' ea (XO C ea))) R σ H:=rfl
end L2
namespace L2
open PySem PySem.Spec PyProof.Rows PySem.Builtin PySem.Builtin.Str
theorem qb {n a b:Nat} (h1:a<=b) (h2:b<=n):strSliceIndices (some (a:Int)) (some (b:Int)) 1 n=(List.range (b - a)).map fun k=>a+k:=by
 have e1:¬ ((a:Int) < 0):=by lia
 have e2:¬ ((b:Int) < 0):=by lia
 have e3:max 0 (min (a:Int) (n:Int))=a:=by lia
 have e4:max 0 (min (b:Int) (n:Int))=b:=by lia
 simp only [strSliceIndices,e1,e2,if_false,show (1:Int) > 0 by decide,if_true,e3,e4,sliceRange];have c:(if (a:Int) < b then ((b:Int) - a+1 - 1) / 1 else 0).toNat=b - a:=by
  split <;> lia
 rw [c];apply List.map_congr_left;intro k _
 lia
theorem lP (l:List Nat) (a m:Nat) (h:a+m<=l.length):((List.range m).map fun k=>a+k).filterMap (fun i=>l[i]?)=(l.drop a).take m:=by
 induction m with
 | zero=>simp
 | succ m ih=>
  have hl:a+m < l.length:=by lia
  rw [List.range_succ,List.map_append,List.filterMap_append,ih (by lia),List.take_add_one,List.getElem?_drop];simp [List.getElem?_eq_getElem hl]
theorem ua (l:List Nat) (a b:Nat) (h1:a<=b) (h2:b<=l.length):Txt.slice (st l) (some (a:Int)) (some (b:Int))=st ((l.drop a).take (b - a)):=by
 have hl:(st l).length=l.length:=by simp [Str.length]
 unfold Txt.slice;rw [hl,qb h1 h2];have f:((List.range (b - a)).map fun k=>a+k).filterMap ((st l).cps[·]?)=(l.drop a).take (b - a):=by
  rw [<- lP l a (b - a) (by lia)];congr 1;funext i;simp
 split
 ·rename_i g;simp only [List.length_map,List.length_range,beq_self_eq_true,Bool.true_and,beq_iff_eq] at g;have e1:a=0:=by lia
  have e2:b=l.length:=by lia
  subst e1 e2;simp
 ·rw [f]
section
variable {X:Cx}
noncomputable def kSlB:V->Option Int->Option Int->Hp->VK->Prop:=fun x lo hi H Q=>match x,lo,hi with
 | .str z,some i,some j=>z.cps.toList.length<=100000/\0<=i/\i<=j/\j<=z.cps.toList.length/\Q (.str (st ((z.cps.toList.drop i.toNat).take (j.toNat - i.toNat)))) H
 | _,_,_=>False
theorem slB:SlR X kSlB:=v9.imp fun x lo hi H Q q=>by
 unfold kSlB at q;split at q
 ·rename_i z i j;obtain ⟨h,h0,h1,h2,q⟩:=q;obtain ⟨a,rfl⟩:∃ k:Nat,i=k:=⟨i.toNat,by lia⟩;obtain ⟨b,rfl⟩:∃ k:Nat,j=k:=⟨j.toNat,by lia⟩;refine ⟨z,rfl,by rw [strlen]; exact Nat.le_trans h big5,?_⟩;have e:=ua z.cps.toList a b (by lia) (by lia);rw [b8] at e;rw [e];simpa using q
 ·exact q.elim
theorem AY {l:List Nat} {i j:Int} {H:Hp} {Q:VK}:kSlB (.str (st l)) (some i) (some j) H Q=(l.length<=100000/\0<=i/\i<=j/\j<=l.length/\Q (.str (st ((l.drop i.toNat).take (j.toNat - i.toNat)))) H):=rfl
end
end L2
namespace L2
open PySem PySem.Spec PyProof.Rows
section
variable {K:Frag} {g:TG} {tc:TT} {te:TE} {σc:St} {D:Addr} {Q:VK} {H:Hp}
theorem qJ {α β:Type} {F:α -> β -> Prop} {l:List α} {m:List β} {x:α} {y:β} (h:Paired F l m) (r:F x y):Paired F (l++[x]) (m++[y]):=by
 induction h with
 | nil=>exact .cons r .nil
 | cons r' _ ih=>exact .cons r' ih
theorem gm {lo:Int} {n:Nat} (R:Nat->V->Hp->Prop) (hfree:H D=none) (hn:n<=100000)
  (mono:∀ x v H1 H2 acc,H1 D=some (.lst acc)->(∀ b o,b≠D->H1 b=some o->H2 b=some o)->R x v H1->R x v H2)
  (hs:∀ i H1 (out:VK) (non:Hp->Prop),i < n->Same H H1->(∀ v H6,Same H1 H6->R i v H6->out v H6) ->
   g (.int (lo+i)) σc H1 fun σ4 H4=>tc σ4 H4 fun b H5=>if b=true then te σ4 H5 out else non H5)
  (hq:∀ H' vs,Same H H'->H' D=some (.lst vs)->Paired (fun x v=>R x v H') (List.range n) vs->Q (.ref D) H'):compW (Itr lo n) g tc te σc D Q H:=by
 refine ⟨fun i m acc H2=>m=n - i/\i<=n/\Paired (fun x v=>R x v H2) (List.range i) acc/\Same H H2/\H2 D=some (.lst acc),⟨n,by simp,Nat.zero_le _,.nil,ah hfree _,upd_same⟩,?_⟩;rintro i m acc H2 ⟨rfl,hi,pr,sm,hD⟩;have len:acc.length=i:=by rw [<- pr.length,List.length_range]
 by_cases hlt:i < n
 ·refine .inr ⟨hlt,fun x H3 y=>?_⟩;obtain ⟨rfl,rfl⟩:=y;refine hs i _ _ _ hlt sm fun v H6 s6 r=>?_
  refine ⟨s6 _ _ hD,Nat.lt_of_le_of_lt (Nat.le_of_eq len) (sizeBig (by lia)),n - (i+1),by lia,rfl,hlt,?_,aE (sm.trans s6) hfree,upd_same⟩;have lift:∀ {l:List Nat} {vs:List V},Paired (fun x v=>R x v H3) l vs->Paired (fun x v'=>R x v' (upd H6 D (.lst (acc++[v])))) l vs:=fun pp=>
   L2.Paired.mapP pp fun _ _ r=>mono _ _ H3 _ acc hD (fun b o nb q=>by rw [ao nb]; exact s6 _ _ q) r
  rw [List.range_succ];exact qJ (lift pr) (mono _ _ H6 _ acc (s6 _ _ hD) (fun b o nb q=>by rw [ao nb]; exact q) r)
 ·have e:i=n:=by lia
  subst e;exact .inl ⟨Nat.le_refl _,hq H2 acc sm hD pr⟩
end
section
variable {X:Cx} {k:Nat} {x:Str} {ps:List Str} {sp:Sp} {p pos:Pos} {e:Expr} {es:List Expr} {t:TA}
end
section
variable {κ:Type} [DecidableEq κ]
noncomputable def valV (kvs:List (κ × V)) (k:κ):Option V:=(kvs.find? fun kv=>decide (kv.1=k)).map (·.2)
noncomputable def putK (kvs:List (κ × V)) (k:κ) (v:V):List (κ × V):=
 if (kvs.any fun kv=>decide (kv.1=k))=true then kvs.map (fun kv=>if kv.1=k then (kv.1,v) else kv) else kvs++[(k,v)]
theorem cm {p:κ × V} {r:List (κ × V)} {k:κ} (e:p.1=k):valV (p::r) k=some p.2:=by simp [valV,List.find?_cons,e]
theorem cj {p:κ × V} {r:List (κ × V)} {k:κ} (e:¬ p.1=k):valV (p::r) k=valV r k:=by simp [valV,List.find?_cons,e]
theorem gj (k:κ):∀ kvs:List (κ × V),(kvs.any fun kv=>decide (kv.1=k))=(valV kvs k).isSome
 | []=>rfl
 | p::r=>by
  rw [List.any_cons];by_cases e:p.1=k
  ·simp only [cm e,decide_eq_true e,Bool.true_or,Option.isSome_some]
  ·rw [cj e,decide_eq_false e,Bool.false_or]; exact gj k r
theorem rG (k j:κ) (y:V):∀ kvs:List (κ × V),valV (kvs.map fun kv=>if kv.1=k then (kv.1,y) else kv) j=(valV kvs j).map fun x=>if j=k then y else x
 | []=>rfl
 | p::r=>by
  have ih:=rG k j y r;rw [List.map_cons];by_cases h:p.1=k
  ·rw [if_pos h];by_cases e:p.1=j
   ·rw [cm (p:=(p.1,y)) e,cm e,Option.map_some,if_pos (e.symm.trans h)]
   ·rw [cj (p:=(p.1,y)) e,cj e,ih]
  ·rw [if_neg h];by_cases e:p.1=j
   ·rw [cm (p:=p) e,cm e,Option.map_some,if_neg (fun z=>h (e.trans z))]
   ·rw [cj (p:=p) e,cj e,ih]
theorem pE (k j:κ) (y:V):∀ kvs:List (κ × V),valV kvs k=none->valV (kvs++[(k,y)]) j=if j=k then some y else valV kvs j
 | [],_=>by
  by_cases e:k=j
  ·rw [if_pos e.symm]; exact cm (p:=(k,y)) e
  ·rw [if_neg (fun z=>e z.symm)]; exact cj (p:=(k,y)) e
 | p::r,hn=>by
  rw [List.cons_append];have hk:¬ p.1=k:=fun z=>by rw [cm z] at hn; cases hn
  rw [cj hk] at hn;have ih:=pE k j y r hn;by_cases e:p.1=j
  ·rw [cm e,cm e,if_neg (fun z=>hk (e.trans z))]
  ·rw [cj e,cj e,ih]
theorem jQ (kvs:List (κ × V)) (k j:κ) (y:V):valV (putK kvs k y) j=if j=k then some y else valV kvs j:=by
 unfold putK;by_cases a:(kvs.any fun kv=>decide (kv.1=k))=true
 ·rw [if_pos a,rG];rw [gj] at a;by_cases e:j=k
  ·obtain ⟨x,hx⟩:=Option.isSome_iff_exists.mp a;rw [if_pos e,e,hx,Option.map_some,if_pos rfl]
  ·rw [if_neg e];cases valV kvs j with
   | none=>rfl
   | some x=>rw [Option.map_some,if_neg e]
 ·rw [if_neg a];refine pE k j y kvs ?_;rw [gj] at a;cases q:valV kvs k with
  | none=>rfl
  | some x=>rw [q] at a; exact (a rfl).elim
theorem b6 (kvs:List (κ × V)) (k:κ) (v:V):(putK kvs k v).length<=kvs.length+1:=by
 unfold putK;split
 ·rw [List.length_map]; lia
 ·rw [List.length_append,List.length_cons,List.length_nil]; lia
theorem wE {kvs:List (κ × V)} {k:κ} (v:V) (h:valV kvs k=none):putK kvs k v=kvs++[(k,v)]:=by
 unfold putK;rw [gj,h];exact if_neg (by decide)
theorem RelO.isSome_eq {o:Option V} {u:Option Value} (r:RelO o u):o.isSome=u.isSome:=by
 cases o with
 | none=>cases u with
  | none=>rfl
  | some _=>exact (show False from r).elim
 | some _=>cases u with
  | none=>exact (show False from r).elim
  | some _=>rfl
theorem KV.val {kvs:List (κ × V)} {vs:List (κ × Value)} (r:KV kvs vs) (k:κ):RelO (valV kvs k) (valueAt vs k):=by
 unfold KV at r
 induction r with
 | nil=>exact True.intro
 | @cons p q ps qs h t ih=>
  obtain ⟨h1,h2⟩:=h;by_cases e:p.1=k
  ·have e':q.1=k:=h1.symm.trans e;have b:valueAt (q::qs) k=some q.2:=by simp [valueAt,List.find?_cons,e']
   rw [cm e,b]; exact h2
  ·have e':¬ q.1=k:=fun z=>e (h1.trans z)
   have b:valueAt (q::qs) k=valueAt qs k:=by simp [valueAt,List.find?_cons,e']
   rw [cj e,b]; exact ih
theorem KV.any {kvs:List (κ × V)} {vs:List (κ × Value)} (r:KV kvs vs) (k:κ):(kvs.any fun kv=>decide (kv.1=k))=vs.any fun kv=>decide (kv.1=k):=by
 unfold KV at r
 induction r with
 | nil=>rfl
 | cons h t ih=>rw [List.any_cons,List.any_cons,ih,h.1]
theorem KV.repl {kvs:List (κ × V)} {vs:List (κ × Value)} (r:KV kvs vs) (k:κ) {y:V} {u:Value} (ry:RelV y u):
  KV (kvs.map fun kv=>if kv.1=k then (kv.1,y) else kv) (vs.map fun kv=>if kv.1=k then (kv.1,u) else kv):=by
 unfold KV at r ⊢
 induction r with
 | nil=>exact .nil
 | @cons p q ps qs h t ih=>
  rw [List.map_cons,List.map_cons];refine .cons ?_ ih;obtain ⟨h1,h2⟩:=h;by_cases e:p.1=k
  ·rw [if_pos e,if_pos (h1.symm.trans e)]; exact ⟨h1,ry⟩
  ·rw [if_neg e,if_neg (fun z=>e (h1.trans z))]; exact ⟨h1,h2⟩
theorem KV.put {kvs:List (κ × V)} {vs:List (κ × Value)} (r:KV kvs vs) (k:κ) {y:V} {u:Value} (ry:RelV y u):KV (putK kvs k y) (stored vs k u):=by
 unfold putK stored;rw [r.any k];by_cases e:(vs.any fun kv=>decide (kv.1=k))=true
 ·rw [if_pos e,if_pos e]; exact r.repl k ry
 ·rw [if_neg e,if_neg e]; exact Paired.snoc r ⟨rfl,ry⟩
theorem KV.keys {kvs:List (κ × V)} {vs:List (κ × Value)} (r:KV kvs vs):kvs.map (·.1)=vs.map (·.1):=by
 unfold KV at r
 induction r with
 | nil=>rfl
 | cons h t ih=>rw [List.map_cons,List.map_cons,ih,h.1]
theorem KV.length {kvs:List (κ × V)} {vs:List (κ × Value)} (r:KV kvs vs):kvs.length=vs.length:=Paired.length r
end
theorem pP {P:Program} {w:World} {k:Key} {u:Value} (r:RelV (kV k) u):(mixKind P w).is k u=true:=by
 cases k with
 | inl i=>obtain ⟨t,e⟩:=(show ∃ t,u=Value.int i t from r); subst e; exact qU P w i t
 | inr x=>obtain ⟨t,e⟩:=(show ∃ t,u=Value.str x t from r); subst e; exact rk P w x t
theorem oR {P:Program} {w:World}:∀ {ks:List Key} {us:List Value},Vals (ks.map kV) us->ItemsAre (mixKind P w) ks us
 | [],_,r=>by rw [List.map_nil] at r; cases r; exact .nil
 | k::ks,_,r=>by
  rw [List.map_cons] at r;cases r with
  | cons h t=>exact .cons (pP h) (oR t)
noncomputable abbrev KT (H:Hp):List (List Key × V)->List (List Key × Addr × Value)->Prop:=Paired fun p q=>p.1=q.1/\H q.2.1=some (.tup (p.1.map kV))/\RelV p.2 q.2.2
theorem KT.val {H:Hp} {kvs:List (List Key × V)} {xs:List (List Key × Addr × Value)} (r:KT H kvs xs) (k:List Key):RelO (valV kvs k) ((atKey xs k).map (·.2)):=by
 induction r with
 | nil=>exact True.intro
 | @cons p q ps qs h t ih=>
  obtain ⟨h1,_,h2⟩:=h;by_cases e:p.1=k
  ·have e':q.1=k:=h1.symm.trans e;have b:atKey (q::qs) k=some q.2:=by simp [atKey,List.find?_cons,e']
   rw [cm e,b]; exact h2
  ·have e':¬ q.1=k:=fun z=>e (h1.trans z)
   have b:atKey (q::qs) k=atKey qs k:=by simp [atKey,List.find?_cons,e']
   rw [cj e,b]; exact ih
theorem KT.repl {H:Hp} {kvs:List (List Key × V)} {xs:List (List Key × Addr × Value)} (r:KT H kvs xs) (k:List Key) {y:V} {u:Value} (ry:RelV y u):
  KT H (kvs.map fun kv=>if kv.1=k then (kv.1,y) else kv) (xs.map (putAt k u)):=by
 induction r with
 | nil=>exact .nil
 | @cons p q ps qs h t ih=>
  rw [List.map_cons,List.map_cons];refine .cons ?_ ih;obtain ⟨h1,h2,h3⟩:=h;unfold putAt;by_cases e:p.1=k
  ·rw [if_pos e,if_pos (h1.symm.trans e)]; exact ⟨h1,h2,ry⟩
  ·rw [if_neg e,if_neg (fun z=>e (h1.trans z))]; exact ⟨h1,h2,h3⟩
theorem KT.put {H:Hp} {kvs:List (List Key × V)} {xs:List (List Key × Addr × Value)} (r:KT H kvs xs) (k:List Key) {b:Addr} {y:V} {u:Value} (hb:H b=some (.tup (k.map kV))) (ry:RelV y u):
  KT H (putK kvs k y) (storedH xs k b u):=by
 have e:(kvs.any fun kv=>decide (kv.1=k))=(atKey xs k).isSome:=by
  rw [gj,(r.val k).isSome_eq,Option.isSome_map]
 unfold putK storedH;rw [e];by_cases q:(atKey xs k).isSome=true
 ·rw [if_pos q,if_pos q]; exact r.repl k ry
 ·rw [if_neg q,if_neg q]; exact Paired.snoc r ⟨rfl,hb,ry⟩
theorem KT.keeps {H H':Hp} {kvs:List (List Key × V)} {xs:List (List Key × Addr × Value)} (r:KT H kvs xs) (ht:∀ b ys,H b=some (.tup ys)->H' b=some (.tup ys)):KT H' kvs xs:=
 Paired.mapP r fun _ _ z=>⟨z.1,ht _ _ z.2.1,z.2.2⟩
section
variable {P:Program} {w:World} {H:Hp} {h:Heap} {a:Addr}
theorem Ab {u:HO} (ok:HOk P w H h) (e:Rd H a u):ObjOk P w H h a u:=e.ok ok
theorem lF {kvs:List (Key × V)} (ok:HOk P w H h) (e:Rd H a (.dK kvs)):kvs.length<=sizeLine/\(a == sysModules)=false/\∃ vs,KV kvs vs/\h.DictOf (mixKind P w) a vs:=
 show ObjOk P w H h a (.dK kvs) from Ab ok e
theorem xq {kvs:List (Key × V)} (ok:HOk P w H h) (e:H a=some (.dK kvs)):kvs.length<=sizeLine/\(a == sysModules)=false/\∃ vs,KV kvs vs/\h.DictOf (mixKind P w) a vs:=lF ok (.inl e)
theorem qA {ks:List Key} (ok:HOk P w H h) (e:H a=some (.tup (ks.map kV))):(tupleKind (mixKind P w)).is h ks a:=by
 obtain ⟨_,its,r,o,h1,h2,n,h3⟩:=(show ObjOk P w H h a (.tup (ks.map kV)) from ok a _ e);exact ⟨o,its.toArray,n,h1,h2,h3,by simpa using oR r⟩
theorem rS {kvs:List (List Key × V)} (ok:HOk P w H h) (e:Rd H a (.dT kvs)):kvs.length<=sizeLine/\(a == sysModules)=false /\
  ∃ xs,KT H kvs xs/\h.DictOfH (tupleKind (mixKind P w)) a xs:=by
 obtain ⟨z,y,xs,r,o,es,ep,h1,h2,h3,h4,h5⟩:=(show ObjOk P w H h a (.dT kvs) from Ab ok e);refine ⟨z,y,xs,r,o,es,ep,h1,h2,h3,h4,fun x hx=>?_,h5⟩;have all:∀ {l:List (List Key × V)} {m:List (List Key × Addr × Value)},KT H l m->∀ x ∈ m,(tupleKind (mixKind P w)).is h x.1 x.2.1:=by
  intro l m q
  induction q with
  | nil=>intro x hx; exact nomatch hx
  | @cons p q ps qs hq t ih=>
   intro x hx;rcases List.mem_cons.mp hx with e | hx
   ·subst e;exact qA ok (by rw [<- hq.1]; exact hq.2.1)
   ·exact ih x hx
 exact all r x hx
theorem BI {kvs:List (List Key × V)} (ok:HOk P w H h) (e:H a=some (.dT kvs)):kvs.length<=sizeLine/\(a == sysModules)=false /\
  ∃ xs,KT H kvs xs/\h.DictOfH (tupleKind (mixKind P w)) a xs:=rS ok (.inl e)
end
def DGet (H:Hp) (a:Addr) (y:V) (r:Option V):Prop:=
 (∃ kvs k,Rd H a (.dK kvs)/\y=kV k/\r=valV kvs k)\/∃ kvs k b,Rd H a (.dT kvs)/\y=.ref b/\H b=some (.tup (k.map kV))/\r=valV kvs k
def DPut (H:Hp) (a:Addr) (y v:V) (H':Hp):Prop:=
 (∃ kvs k,H a=some (.dK kvs)/\y=kV k/\kvs.length < sizeLine/\H'=upd H a (.dK (putK kvs k v))) \/
 ∃ kvs k b,H a=some (.dT kvs)/\y=.ref b/\H b=some (.tup (k.map kV))/\kvs.length < sizeLine/\H'=upd H a (.dT (putK kvs k v))
theorem DGet.t {H:Hp} {a b:Addr} {kvs:List (List Key × V)} {k:List Key} (e:H a=some (.dT kvs)) (eb:H b=some (.tup (k.map kV))):DGet H a (.ref b) (valV kvs k):=.inr ⟨kvs,k,b,.inl e,rfl,eb,rfl⟩
theorem DPut.t {H:Hp} {a b:Addr} {kvs:List (List Key × V)} {k:List Key} {v:V} (e:H a=some (.dT kvs)) (eb:H b=some (.tup (k.map kV))) (hl:kvs.length < sizeLine):
  DPut H a (.ref b) v (upd H a (.dT (putK kvs k v))):=.inr ⟨kvs,k,b,e,rfl,eb,hl,rfl⟩
section
variable {X:Cx} {pins:List (Addr × Obj)} {σ:St} {H:Hp} {s:Shared} {a:Addr} {y v:V} {u r:Value} {o:Option V} {A:Around} {E:Value->Shared->Prop}
theorem Inv.big (I:Inv X pins σ H s):sysModules < s.heap.objs.size:=by
 have h:mainGlobals < s.heap.objs.size:=(I.mod.glob.keeps I.bk).lt;exact Nat.lt_trans (by decide) h
theorem vw {Q:Value->Shared->Prop} (hu:A.units+1 < cLine) (I:Inv X pins σ H s) (g:DGet H a y (some v)) (ry:RelV y u) (h:∀ w' s',Inv X pins σ H s'->RelV v w'->Q w' s'):
  wpAny (model X.prog X.w) A (getItem (.ref a) u) Q E s:=by
 rcases g with ⟨kvs,k,e,ey,l⟩ | ⟨kvs,k,b,e,ey,eb,l⟩
 ·subst ey;obtain ⟨z,hd,vs,rel,dd⟩:=lF I.hok e;obtain ⟨w',hw,rw'⟩:=RelO.some_of (v:=v) (o:=valueAt vs k) (by rw [l]; exact rel.val k);exact wpAny_getItem_of (pP ry) dd.mapOf hw (h w' _ (I.tok _) rw')
 ·subst ey;cases (show u=Value.ref b from ry);obtain ⟨z,hd,xs,rel,dd⟩:=rS I.hok e;obtain ⟨w',hw,rw'⟩:=RelO.some_of (v:=v) (o:=(atKey xs k).map (·.2)) (by rw [l]; exact rel.val k);obtain ⟨p,hp,hp2⟩:=Option.map_eq_some_iff.mp hw;refine wpAny_getItem_heap (tupleKind_room_in1 hu) (qA I.hok eb) dd hp ?_;rw [hp2];exact h w' _ (I.tok _) rw'
theorem zF {Q:Value->Shared->Prop} (hu:A.units+1 < cLine) (I:Inv X pins σ H s) (g:DGet H a y o) (ry:RelV y u) (h:∀ s',Inv X pins σ H s'->Q (.bool (!o.isSome)) s'):
  wpAny (model X.prog X.w) A (compareOp .NotIn u (.ref a)) Q E s:=by
 rcases g with ⟨kvs,k,e,ey,l⟩ | ⟨kvs,k,b,e,ey,eb,l⟩
 ·subst ey;obtain ⟨z,hd,vs,rel,dd⟩:=lF I.hok e;refine wpAny_notIn_of (pP ry) hd dd.mapOf ?_;rw [<- (rel.val k).isSome_eq,<- l];exact h _ (I.tok _)
 ·subst ey;cases (show u=Value.ref b from ry);obtain ⟨z,hd,xs,rel,dd⟩:=rS I.hok e;refine wpAny_notIn_heap (tupleKind_room_in1 hu) (qA I.hok eb) hd dd ?_;have q:=(rel.val k).isSome_eq;rw [Option.isSome_map] at q;rw [<- q,<- l];exact h _ (I.tok _)
theorem jM {h':Heap} {t':Nat} {ob:HO} (I:Inv X pins σ H s) (mu:Mut (H a)) (hs:Heap.SameBut a s.heap h') (he:∃ q,h'.get? a=some q) (new:ObjOk X.prog X.w (upd H a ob) h' a ob) (ht:0 < t':=by first | assumption | exact Nat.succ_pos _ | (apply Inv.tk; assumption) | lia):
  Inv X pins σ (upd H a ob) { s with heap:=h',toks:=t' }:=
 I.write (x:=a) (e:=a) mu (.inl rfl) (fun b q hb z=>(hs.2 b hb).trans z) he new
theorem qc {P:Program} {w:World} {H':Hp} {h':Heap} {kvs:List (Key × V)} {vs:List (Key × Value)} (z:kvs.length<=sizeLine) (hd:(a == sysModules)=false) (rel:KV kvs vs) (dd:h'.DictOf (mixKind P w) a vs):
  ObjOk P w H' h' a (.dK kvs):=⟨z,hd,vs,rel,dd⟩
theorem vi {H':Hp} {Q:Unit->Shared->Prop} (hu:A.units+1 < cLine) (I:Inv X pins σ H s) (g:DPut H a y v H') (ry:RelV y u) (rv:RelV v r) (h:∀ s',Inv X pins σ H' s'->Q () s'):
  wpAny (model X.prog X.w) A (setItem (.ref a) u r) Q E s:=by
 rcases g with ⟨kvs,k,e,ey,l,eH⟩ | ⟨kvs,k,b,e,ey,eb,l,eH⟩
 ·subst ey eH;obtain ⟨z,hd,vs,rel,dd⟩:=xq I.hok e;have hz:vs.length<=sizeLine:=by rw [<- rel.length]; exact z
  have hl:(putK kvs k v).length<=sizeLine:=by have:=b6 kvs k v; lia
  refine wpAny_setItem_pairs (hsz:=hz) (pP ry) dd fun h' dd' hs=>h _ ?_
  have he:∃ q,h'.get? a=some q:=let ⟨q,_,_,hq,_⟩:=dd'; ⟨q,hq⟩
  exact jM I (by rw [e]; exact True.intro) hs he (qc hl hd (rel.put k rv) dd')
 ·subst ey eH;cases (show u=Value.ref b from ry);obtain ⟨z,hd,xs,rel,dd⟩:=BI I.hok e;have hz:xs.length<=sizeLine:=by rw [<- Paired.length rel]; exact z
  have hl:(putK kvs k v).length<=sizeLine:=by have:=b6 kvs k v; lia
  refine wpAny_setItem_heap (hsz:=hz) (tupleKind_room_in1 hu) (qA I.hok eb) dd fun h' dd' hs=>h _ ?_
  obtain ⟨q,es,ep,hq,h2,h3,h4,_,h5⟩:=dd';refine jM I (by rw [e]; exact True.intro) hs ⟨q,hq⟩ ⟨hl,hd,_,(rel.put k eb rv).keeps fun c ys ec=>?_,q,es,ep,hq,h2,h3,h4,h5⟩;rw [ao (BG ec e (fun z=>nomatch z))];exact ec
end
section
variable {X:Cx} {pins:List (Addr × Obj)} {σ:St} {H:Hp} {s:Shared} {a:Addr} {kvs:List (Key × V)} {k:Key} {u:Value} {A:Around} {E:Value->Shared->Prop}
theorem BV {Q:Value->Shared->Prop} (I:Inv X pins σ H s) (e:Rd H a (.dK kvs)) (h:∀ t s',Inv X pins σ H s'->Q (.int kvs.length t) s'):wpAny (model X.prog X.w) A (call (.builtin "len") [.ref a]) Q E s:=by
 obtain ⟨z,hd,vs,rel,dd⟩:=lF I.hok e;refine call_len_dict hd dd (by rw [<- rel.length]; rw [sizeLine_eq] at z; lia) ?_;rw [<- rel.length];exact h _ _ (I.tok _)
end
def NoSl (i:Expr):Prop:=∀ ov iv,subscripted i false ov iv=operate [ov,iv] (getItem ov iv)
theorem zP {prog:Program} {w:World} {A:Around} {E:Value->Shared->Prop} {s:Shared} {env:Env} {value slice:Expr} {pos:Pos} {T id:String} {Q:Value->Shared->Prop}
  (hl:typeLookup (.type T) "__getitem__" = pure (some (.builtin id))) (hs:NoSl slice)
  (h:wpAny (model prog w) A (eval value env) (fun o s₁=>wpAny (model prog w) A (eval slice env) (fun i s₂=>s₂.TypeIs o T/\wpAny (model prog w) A (getItem o i) Q E s₂) E s₁) E s):
  wpAny (model prog w) A (eval (.Subscript value slice pos) env) Q E s:=by
 refine Subscript_ (wpAny_mono h (fun o s₁ h₁=>wpAny_mono h₁ (fun i s₂ h₂=>?_) fun _ _ x=>x) fun _ _ x=>x);obtain ⟨hT,h₂⟩:=h₂;unfold subscriptTail;refine wpAny_bind ?_;rw [getitemInPython_of_ne hT.not_modules];refine wpAny_bind (wpAny_specialOf hT hl ?_);have fin:wpAny (model prog w) A (subscripted slice false o i) (fun r s₃=>wpAny (model prog w) A (letTemporaryGo value o r>>=fun _=>pure r) Q E s₃) E s₂:=by
  rw [hs o i];exact wpAny_operating (wpAny_mono h₂ (fun r s₃ h₃=>wpAny_bind (wpAny_letTemporaryGo (wpAny_pure h₃))) fun _ _ x=>x)
 first
  | exact wpAny_pure (wpAny_bind fin)
  | exact wpAny_bind (wpAny_pure (wpAny_bind fin))
  | exact wpAny_bind fin
theorem rC {X:Cx} {pins:List (Addr × Obj)} {σ:St} {H:Hp} {s:Shared} {a:Addr} {y:V} {o:Option V} (I:Inv X pins σ H s) (g:DGet H a y o):s.TypeIs (.ref a) "dict" := by
 rcases g with ⟨kvs,k,e,_,_⟩ | ⟨kvs,k,b,e,_,_,_⟩
 ·obtain ⟨_,_,vs,_,dd⟩:=lF I.hok e;exact dd.typeIs
 ·obtain ⟨_,_,xs,_,dd⟩:=rS I.hok e;exact dd.typeIs
noncomputable def tDGet (td ty:TE):TE:=fun σ H Q=>td σ H fun x H1=>ty σ H1 fun y H2=>∃ a v,x=.ref a/\DGet H2 a y (some v)/\Q v H2
noncomputable def tDNotIn (ty td:TE):TE:=fun σ H Q=>ty σ H fun y H1=>td σ H1 fun x H2=>∃ a o,x=.ref a/\DGet H2 a y o/\Q (.bl (!o.isSome)) H2
noncomputable def sDPut (td ty tv:TE):TS:=fun D σ H=>tv σ H fun v H1=>td σ H1 fun x H2=>ty σ H2 fun y H3=>∃ a H4,x=.ref a/\DPut H3 a y v H4/\D.nx σ H4
section
variable {X:Cx} {o i e value:Expr} {pos pos' tpos:Pos} {td ty tv:TE}
theorem yj (hu:X.A.units+1 < cLine) (ho:PE X o td) (hi:PE X i ty) (hs:NoSl i):PE X (.Subscript o i pos) (tDGet td ty):=by
 intro pins s σ H Q I h;refine zP PySem.F.slot_dict_getitem.lookup hs (thn (ho pins s σ H _ I h) fun u s1 ⟨x,H1,I1,rx,q1⟩=>thn (hi pins s1 σ H1 _ I1 q1) fun iv s2 ⟨y,H2,I2,ry,a,v,ex,g,q2⟩=>?_);subst ex;obtain rfl:u=Value.ref a:=rx;exact ⟨rC I2 g,vw hu I2 g ry fun w' s3 I3 rw'=>⟨v,H2,I3,rw',q2⟩⟩
theorem pF (hu:X.A.units+1 < cLine) (hi:PE X i ty) (ho:PE X o td):PC X .NotIn i o (tDNotIn ty td):=by
 intro pins s σ H Q I h;refine thn (hi pins s σ H _ I h) fun iv s1 ⟨y,H1,I1,ry,q1⟩=>thn (ho pins s1 σ H1 _ I1 q1) fun u s2 ⟨x,H2,I2,rx,a,ov,ex,g,q2⟩=>?_
 subst ex;obtain rfl:u=Value.ref a:=rx;exact zF hu I2 g ry fun s3 I3=>⟨.bl (!ov.isSome),H2,I3,rfl,q2⟩
theorem yw (hu:X.A.units+1 < cLine) (ho:PE X o td) (hi:PE X i ty) (hv:PE X value tv) (hs:swapsWith value (some (.Subscript o i pos')) pos.line X.env=pure false):
  PS X (.Assign [.Subscript o i pos'] value pos) (sDPut td ty tv):=by
 intro pins s σ H D I h;refine wpAny_Assign_Subscript (thn (hv pins s σ H _ I h) fun r s1 ⟨v,H1,I1,rv,q1⟩=>thn (ho pins s1 σ H1 _ I1 q1) fun u s2 ⟨x,H2,I2,rx,q2⟩=>thn (hi pins s2 σ H2 _ I2 q2) fun iv s3 ⟨y,H3,I3,ry,a,H4,ex,g,q3⟩=>?_) hs;subst ex;obtain rfl:u=Value.ref a:=rx;exact vi hu I3 g ry rv fun s4 I4=>⟨σ,H4,I4,q3⟩
end
theorem wO {P:Program} {w:World} {H:Hp} (h:Heap) (hb:sysModules < h.objs.size):ObjOk P w H (h.push { cls:=.type "dict",data:=.dict #[] }) h.objs.size (.dK []):=
 ⟨Nat.zero_le _,beq_eq_false_iff_ne.mpr (Ne.symm (Nat.ne_of_lt hb)),[],.nil,Heap.DictOf.new h⟩
theorem xg {P:Program} {w:World} {H:Hp} (h:Heap) (hb:sysModules < h.objs.size):ObjOk P w H (h.push { cls:=.type "dict",data:=.dict #[] }) h.objs.size (.dT []):=
 ⟨Nat.zero_le _,beq_eq_false_iff_ne.mpr (Ne.symm (Nat.ne_of_lt hb)),[],.nil,_,#[],0,Heap.get?_push_size _ rfl,⟨rfl,rfl,rfl⟩,rfl,rfl,List.nodup_nil⟩
noncomputable def tDNewK:TE:=fun _ H Q=>∀ p,H p=none->Q (.ref p) (upd H p (.dK []))
noncomputable def tDNewT:TE:=fun _ H Q=>∀ p,H p=none->Q (.ref p) (upd H p (.dT []))
section
variable {X:Cx} {pos:Pos}
theorem mG:PE X (.Dict [] [] pos) tDNewK:=fun pins s σ H Q I h=>
 wpAny_Dict_empty ⟨.ref s.heap.objs.size,_,I.laid (a:=s.heap.objs.size) (o:=.dK []) (t':=s.toks) (fun _ _ q=>Heap.get?_push_of_some _ q) (Nat.le_refl _) (wO s.heap I.big),rfl,h _ (I.hok.fresh (Nat.le_refl _))⟩
theorem j5:PE X (.Dict [] [] pos) tDNewT:=fun pins s σ H Q I h=>
 wpAny_Dict_empty ⟨.ref s.heap.objs.size,_,I.laid (a:=s.heap.objs.size) (o:=.dT []) (t':=s.toks) (fun _ _ q=>Heap.get?_push_of_some _ q) (Nat.le_refl _) (xg s.heap I.big),rfl,h _ (I.hok.fresh (Nat.le_refl _))⟩
end
structure M2 (X:Cx) (o:Expr) (m:Str) (apos:Pos) (e f:Expr) (cpos:Pos):Prop where
 base:attributeBase o m X.env (eval o X.env)=eval o X.env
 few:((backTo cpos (starEach [e,f] X.env)).all (fun x=>!x.1) && (backToKw cpos (keywordEach [] X.env)).all (fun x=>x.1.isSome)
  && decide (([e,f]:List Expr).length+([]:List Keyword).length+(if ([]:List Keyword).isEmpty then 0 else 1) < 30))=true
 line:(apos.endLine == cpos.line)=true
 trees:backTo cpos (starEach [e,f] X.env)=[(false,eval e X.env),(false,eval f X.env)]
def IsD (H:Hp) (a:Addr):Prop:=(∃ kvs,Rd H a (.dK kvs))\/∃ kvs,Rd H a (.dT kvs)
theorem xj {X:Cx} {pins:List (Addr × Obj)} {σ:St} {H:Hp} {s:Shared} {a:Addr} (I:Inv X pins σ H s) (d:IsD H a):
  s.TypeIs (.ref a) "dict" /\ (∀ b,Value.ref a=.ref b->∃ ob,s.heap.get? b=some ob/\ob.dict=none)/\(a == sysModules)=false:=by
 rcases d with ⟨kvs,e⟩ | ⟨kvs,e⟩
 ·obtain ⟨_,hd,vs,_,dd⟩:=lF I.hok e;refine ⟨dd.typeIs,fun b q=>?_,hd⟩;cases q;obtain ⟨ob,_,_,h1,h2,_⟩:=dd;exact ⟨ob,h1,h2.2.1⟩
 ·obtain ⟨_,hd,xs,_,dd⟩:=rS I.hok e;refine ⟨dd.typeIs,fun b q=>?_,hd⟩;cases q;obtain ⟨ob,_,_,h1,h2,_⟩:=dd;exact ⟨ob,h1,h2.2.1⟩
section
variable {X:Cx} {pins:List (Addr × Obj)} {σ:St} {H:Hp} {s:Shared} {a:Addr} {y d:V} {u r:Value} {o:Option V} {A:Around} {E:Value->Shared->Prop}
end
section
variable {X:Cx} {o e f:Expr} {apos cpos:Pos} {td ty tx:TE}
end
section
variable {X:Cx} {pins:List (Addr × Obj)} {σ:St} {H:Hp} {s:Shared} {a:Addr} {kvs:List (Key × V)} {A:Around} {E:Value->Shared->Prop}
end
section
variable {X:Cx} {pins:List (Addr × Obj)} {σ:St} {H:Hp} {s:Shared} {a:Addr} {y:V} {u:Value} {A:Around} {E:Value->Shared->Prop}
end
section
variable {X:Cx}
end
section
variable {κ:Type} [DecidableEq κ]
theorem x5 {kvs:List (κ × V)} {k:κ} (h:valV kvs k=none):¬ k ∈ kvs.map (·.1):=by
 intro m;obtain ⟨p,hp,e⟩:=List.mem_map.mp m;have q:(kvs.any fun kv=>decide (kv.1=k))=true:=List.any_eq_true.mpr ⟨p,hp,decide_eq_true e⟩;rw [gj,h] at q;exact absurd q (by simp)
theorem uk:∀ {l:List κ} {k:κ},l.Nodup->¬ k ∈ l->(l++[k]).Nodup
 | [],k,_,_=>by simp
 | a::r,k,h,hk=>by
  obtain ⟨h1,h2⟩:=List.nodup_cons.mp h;show (a::(r++[k])).Nodup;refine List.nodup_cons.mpr ⟨fun m=>?_,uk h2 fun m=>hk (List.mem_cons.mpr (Or.inr m))⟩;rcases List.mem_append.mp m with q | q
  ·exact h1 q
  ·exact hk (List.mem_cons.mpr (Or.inl (List.mem_singleton.mp q).symm))
end
section
variable {X:Cx} {o i e value:Expr} {pos pos' apos cpos:Pos} {td ty tv ta:TE}
noncomputable def cDGet (td ty:TE):TE:=fun σ H Q=>td σ H fun x H1=>ty σ H1 fun y H2=>match x with
 | .ref a=>∃ v,DGet H2 a y (some v)/\Q v H2
 | _=>False
theorem ma (hu:X.A.units+1 < cLine) (ho:PE X o td) (hi:PE X i ty) (hs:NoSl i):PE X (.Subscript o i pos) (cDGet td ty):=
 (yj hu ho.mono hi.mono hs).imp fun σ H Q q=>⟨_,q,fun x H1 z=>⟨_,z,fun y H2 z=>by
  split at z
  ·obtain ⟨v,g,q⟩:=z;exact ⟨_,v,rfl,g,q⟩
  ·exact z.elim⟩⟩
noncomputable def cDIn (neg:Bool) (ty td:TE):TE:=fun σ H Q=>ty σ H fun y H1=>td σ H1 fun x H2=>match x with
 | .ref a=>∃ v,DGet H2 a y v/\Q (.bl (neg ^^ v.isSome)) H2
 | _=>False
theorem vG (hu:X.A.units+1 < cLine) (hi:PE X i ty) (ho:PE X o td) (h1:behindInMarks .NotIn o=false:=by rfl):PE X (.Compare i [.NotIn] [o] pos) (cDIn true ty td):=
 (AA (pF hu hi.mono ho.mono) h1).imp fun σ H Q q=>⟨_,q,fun y H1 z=>⟨_,z,fun x H2 z=>by
  split at z
  ·obtain ⟨v,g,q⟩:=z;exact ⟨_,v,rfl,g,by simpa using q⟩
  ·exact z.elim⟩⟩
theorem vq (hu:X.A.units+1 < cLine) (hi:PE X i ty) (ho:PE X o td) (h1:behindInMarks .NotIn o=false:=by rfl):PT X (.Compare i [.NotIn] [o] pos) (cTest (cDIn true ty td)):=
 (Bi (pF hu hi.mono ho.mono) h1).imp fun σ H Q q=>⟨_,q,fun y H1 z=>⟨_,z,fun x H2 z=>by
  split at z
  ·obtain ⟨v,g,q⟩:=z;exact ⟨_,v,rfl,g,pW (by simpa using q)⟩
  ·exact z.elim⟩⟩
noncomputable def cDPut (td ty tv:TE):TS:=fun D σ H=>tv σ H fun v H1=>td σ H1 fun x H2=>ty σ H2 fun y H3=>match x with
 | .ref a=>∃ H4,DPut H3 a y v H4/\D.nx σ H4
 | _=>False
theorem jU (hu:X.A.units+1 < cLine) (ho:PE X o td) (hi:PE X i ty) (hv:PE X value tv) (hs:swapsWith value (some (.Subscript o i pos')) pos.line X.env=pure false:=by rfl):
  PS X (.Assign [.Subscript o i pos'] value pos) (cDPut td ty tv):=fun pins s σ H D I h=>
 yw hu ho.mono hi.mono hv.mono hs pins s σ H D I ⟨_,h,fun v H1 z=>⟨_,z,fun x H2 z=>⟨_,z,fun y H3 z=>by
  split at z
  ·obtain ⟨H4,g,q⟩:=z;exact ⟨_,H4,rfl,g,q⟩
  ·exact z.elim⟩⟩⟩
theorem zH {σ:St} {H:Hp} {Q:VK}:cDGet td ty σ H Q=td σ H fun x H1=>ty σ H1 fun y H2=>match x with
 | .ref a=>∃ v,DGet H2 a y (some v)/\Q v H2
 | _=>False:=rfl
theorem Bf {neg:Bool} {σ:St} {H:Hp} {Q:VK}:cDIn neg ty td σ H Q=ty σ H fun y H1=>td σ H1 fun x H2=>match x with
 | .ref a=>∃ v,DGet H2 a y v/\Q (.bl (neg ^^ v.isSome)) H2
 | _=>False:=rfl
theorem zo {D:Ends} {σ:St} {H:Hp}:cDPut td ty tv D σ H=tv σ H fun v H1=>td σ H1 fun x H2=>ty σ H2 fun y H3=>match x with
 | .ref a=>∃ H4,DPut H3 a y v H4/\D.nx σ H4
 | _=>False:=rfl
theorem yS {σ:St} {H:Hp} {Q:VK}:tDNewK σ H Q=∀ p,H p=none->Q (.ref p) (upd H p (.dK [])):=rfl
theorem yo {σ:St} {H:Hp} {Q:VK}:tDNewT σ H Q=∀ p,H p=none->Q (.ref p) (upd H p (.dT [])):=rfl
end
section
variable {X:Cx} {e:Expr} {te:TE} {pos:Pos}
end
section
variable {X:Cx}
variable {o e f:Expr} {to te tf:TE} {apos cpos:Pos}
end
section
variable {X:Cx} {e:Expr} {te:TE} {apos cpos:Pos}
end
section
variable {X:Cx}
end
section
variable {X:Cx} {pins:List (Addr × Obj)} {σ:St} {H:Hp} {s:Shared} {a:Addr} {y v:V} {u r:Value} {A:Around} {E:Value->Shared->Prop}
theorem wU {Q:Value->Shared->Prop} {kvs:List (Key × V)} {k:Key} (I:Inv X pins σ H s) (e:H a=some (.dK kvs)) (ry:RelV (kV k) u) (rv:RelV v r) (hl:kvs.length < sizeLine)
  (h1:∀ v' w' s',valV kvs k=some v'->Inv X pins σ H s'->RelV v' w'->Q w' s') (h2:∀ s',valV kvs k=none->Inv X pins σ (upd H a (.dK (putK kvs k v))) s'->Q r s'):
  wpAny (model X.prog X.w) A (call (.builtin "dict.setdefault") [.ref a,u,r]) Q E s:=by
 obtain ⟨z,hd,vs,rel,dd⟩:=xq I.hok e;have rv2:=rel.val k;refine call_meetsIn PySem.F.slot_dict_setdefault dd.typeIs PySem.F.entry_dict_setdefault (PySem.F.args_dict_setdefault_3 _ _ _) (kt_meets_setdefault (mixKind X.prog X.w) a (pP ry) hd r) ⟨vs,dd,by rw [<- rel.length]; exact z,fun w' hw=>?_,fun hn h' dd' hs=>?_⟩
 ·rw [hw] at rv2;cases q:valV kvs k with
  | none=>rw [q] at rv2; exact (show False from rv2).elim
  | some v'=>rw [q] at rv2; exact h1 v' w' _ q (I.tok _) rv2
 ·have q:valV kvs k=none:=by
   cases q:valV kvs k with
   | none=>rfl
   | some v'=>rw [hn,q] at rv2; exact (show False from rv2).elim
  have he:∃ q,h'.get? a=some q:=let ⟨q,_,_,hq,_⟩:=dd'; ⟨q,hq⟩
  have hl2:(putK kvs k v).length<=sizeLine:=by have:=b6 kvs k v; omega
  exact h2 _ q (jM I (by rw [e]; exact True.intro) hs he (qc hl2 hd (rel.put k rv) dd'))
end
noncomputable def cSetDef (td ty tx:TE):TE:=fun σ H Q=>td σ H fun x H1=>match x with
 | .ref a=>IsD H1 a/\ty σ H1 fun y H2=>tx σ H2 fun z H3=>∃ kvs k,H3 a=some (.dK kvs)/\y=kV k/\kvs.length < sizeLine/\(∀ v,valV kvs k=some v->Q v H3)/\(valV kvs k=none->Q z (upd H3 a (.dK (putK kvs k z))))
 | _=>False
section
variable {X:Cx} {o e f:Expr} {apos cpos:Pos} {td ty tx:TE}
theorem vk (ho:PE X o td) (he:PE X e ty) (hf:PE X f tx) (m:M2 X o "setdefault" apos e f cpos):PE X (.Call (.Attribute o "setdefault" apos) [e,f] [] cpos) (cSetDef td ty tx):=by
 intro pins s σ H Q I h;refine wpAny_Call_method m.base m.few m.line PySem.F.plainAttrs_dict PySem.F.slot_dict_setdefault PySem.F.type_dict_setdefault (thn (ho pins s σ H _ I h) fun u s1 ⟨x,H1,I1,rx,q1⟩=>?_);dsimp only at q1;split at q1
 ·rename_i a;obtain ⟨d,q1⟩:=q1;obtain rfl:u=Value.ref a:=rx;obtain ⟨t1,t2,_⟩:=xj I1 d;refine ⟨t1,t2,?_⟩;rw [m.trees];refine Calls.callWith_builtin rfl (Calls.evalArgs_plain (Calls.spliced_cons (thn (he pins s1 σ H1 _ I1 q1) fun iv s2 ⟨y,H2,I2,ry,q2⟩=>
   Calls.spliced_cons (thn (hf pins s2 σ H2 _ I2 q2) fun fv s3 ⟨z,H3,I3,rz,kvs,k,e3,ey,hl,q3,q4⟩=>Calls.spliced_nil ?_))))
  subst ey;exact wU I3 e3 ry rz hl (fun v' w' s4 hv I4 r4=>⟨v',H3,I4,r4,q3 v' hv⟩) fun s4 hn I4=>⟨z,_,I4,rz,q4 hn⟩
 ·exact q1.elim
theorem vD {σ:St} {H:Hp} {Q:VK}:cSetDef td ty tx σ H Q=td σ H fun x H1=>match x with
 | .ref a=>IsD H1 a/\ty σ H1 fun y H2=>tx σ H2 fun z H3=>∃ kvs k,H3 a=some (.dK kvs)/\y=kV k/\kvs.length < sizeLine/\(∀ v,valV kvs k=some v->Q v H3)/\(valV kvs k=none->Q z (upd H3 a (.dK (putK kvs k z))))
 | _=>False:=rfl
noncomputable def tRetD (te:TE):TS:=fun D σ H=>te σ H fun x H1=>match x with
 | .ref a=>∃ kvs,H1 a=some (.dK kvs)/\∀ ob,D.rt (.ref a) (upd H1 a (.frz ob (.dK kvs)))
 | _=>False
theorem Inv.frozen {pins:List (Addr × Obj)} {σ:St} {H:Hp} {s:Shared} {a:Addr} {kvs:List (Key × V)} (I:Inv X pins σ H s) (e:H a=some (.dK kvs)):∃ ob,Inv X pins σ (upd H a (.frz ob (.dK kvs))) s:=by
 obtain ⟨z,hd,vs,rel,dd⟩:=xq I.hok e;obtain ⟨ob,es,ep,hq,r⟩:=id dd;refine ⟨ob,?_⟩;exact jM (h':=s.heap) (t':=s.toks) I (by rw [e]; exact True.intro) ⟨rfl,fun _ _=>rfl⟩ ⟨ob,hq⟩ ⟨hq,qc z hd rel dd⟩
theorem yp {pos:Pos} (he:PE X e ty):PS X (.Return (some e) pos) (tRetD ty):=by
 intro pins s σ H D I h;refine wpAny_Return_some (thn (he pins s σ H _ I h) fun v s1 ⟨x,H1,I1,r1,q1⟩=>?_);dsimp only at q1;split at q1
 ·rename_i a;obtain ⟨kvs,e1,q1⟩:=q1;obtain ⟨ob,I2⟩:=I1.frozen e1;exact ⟨.ref a,σ,_,I2,r1,q1 ob⟩
 ·exact q1.elim
theorem y9 {D:Ends} {σ:St} {H:Hp}:tRetD ty D σ H=ty σ H fun x H1=>match x with
 | .ref a=>∃ kvs,H1 a=some (.dK kvs)/\∀ ob,D.rt (.ref a) (upd H1 a (.frz ob (.dK kvs)))
 | _=>False:=rfl
end
noncomputable def epOf (o:Obj):Nat:=match o.data with | .dict _ ep=>ep | _=>0
noncomputable def Itm (a:Addr) (o:Obj) (kvs:List (Key × V)):It:=⟨fun i H=>H a=some (.frz o (.dK kvs))/\i < kvs.length,fun i H v H'=>∃ T k x,v=.ref T/\H T=none/\kvs[i]? = some (k,x)/\H'=upd H T (.tup [kV k,x]),fun i H=>H a=some (.frz o (.dK kvs))/\i=kvs.length⟩
theorem zB {P:Program} {w:World} {k:Key} {v:Value} (h:(mixKind P w).is k v=true):RelV (kV k) v:=by
 rcases bH h with ⟨i,t,rfl,rfl⟩ | ⟨x,t,rfl,rfl⟩
 ·exact ⟨t,rfl⟩
 ·exact ⟨t,rfl⟩
theorem qM {X:Cx} {pins:List (Addr × Obj)} {σ:St} {H:Hp} {s:Shared} {a:Addr} {o:Obj} {kvs:List (Key × V)} (I:Inv X pins σ H s) (e:H a=some (.frz o (.dK kvs))):
  ∃ vs,KV kvs vs/\s.heap.DictAt (mixKind X.prog X.w) a vs (epOf o)/\(a == sysModules)=false:=by
 obtain ⟨h1,_,hd,vs,rel,ob,es,ep,hq,he,hdt,r⟩:=(show ObjOk X.prog X.w H s.heap a (.frz o (.dK kvs)) from I.hok a _ e);rw [h1] at hq;cases hq;refine ⟨vs,rel,⟨o,es,h1,he,?_,r⟩,hd⟩;unfold epOf;rw [hdt]
theorem sS {P:Program} {w:World} {K:Frag} {elts:List Expr} {kk:Nat} {pos:Pos} (a it:Addr) (hne:a≠it) (o:Obj) (kvs:List (Key × V)):
  Turn P w K (.Tuple elts kk pos) (Itm a o kvs) [it] it (fun i h=>∃ ok ov,IsItemIter h it a i kvs.length (epOf o) ok ov) where
 mem:=by simp
 obj:=fun i h st b hb=>by
  obtain ⟨ok,ov,he⟩:=st;have e:b=it:=by simpa using hb
  subst e;exact ⟨_,he,fun v z=>by
   have z':Data.fields _=Data.cell v:=z;cases z'⟩
 keep:=fun i h h' st k=>by
  obtain ⟨ok,ov,he⟩:=st;exact ⟨ok,ov,k it (by simp) _ he⟩
 item:=by
  intro X hP hw hK hc i pins s σ H E I hf st hg;subst hP hw hK;obtain ⟨ok,ov,he⟩:=st;obtain ⟨hq,hi⟩:=hg;obtain ⟨vs,rel,hm,hd⟩:=qM I hq;have hl:=rel.length;obtain ⟨⟨k,x⟩,hx⟩:∃ p,kvs[i]? = some p:=⟨kvs[i],by simp [hi]⟩;obtain ⟨⟨k',u⟩,hu,hkk,ru⟩:=aH rel hx;obtain rfl:k=k':=hkk;rw [hl] at he;refine wpAny_pyNext_items_item he hm hu fun key h' hkey ho hT hsz hk=>⟨_,rfl,?_⟩
  refine wpAny_letOwnedTupleGo_items ho fun h'' he'' hs=>?_
  have ti:s.heap.objs.size≠it:=Nat.ne_of_gt (Heap.lt_size he);have hT2:h''.IsTuple s.heap.objs.size #[key,u]:=⟨_,hs.extBut _ _ ti hT,rfl,_,rfl⟩;have I1:Inv X pins σ (upd H s.heap.objs.size (.tup [kV k,x])) { s with heap:=h'',toks:=s.toks }:=by
   refine I.turnedLaid (its:=[it]) (fun b ob hb q=>hs.extBut b ob (by simpa using hb) (hk b ob (by simpa using hb) q)) hf (Nat.le_refl _) ?_ I.tk;exact ⟨by show 2<=sizeLine; decide,[key,u],.cons (zB hkey) (.cons ru .nil),hT2⟩
  refine ⟨.ref s.heap.objs.size,_,I1,rfl,⟨_,k,x,rfl,I.hok.fresh (Nat.le_refl _),hx,rfl⟩,⟨key,u,by rw [hl]; exact he''⟩,fun b hb=>?_⟩;have e:b=it:=by simpa using hb
  subst e;rw [ao (Ne.symm ti)];exact (hf b hb).1
 done:=by
  intro X hP hw hK hc i pins s σ H E I hf st hg;subst hP hw hK;obtain ⟨ok,ov,he⟩:=st;obtain ⟨hq,rfl⟩:=hg;obtain ⟨vs,rel,hm,hd⟩:=qM I hq;have hl:=rel.length;rw [hl] at he;refine wpAny_pyNext_items_end (I.ok.hd hc) he hm (by simp) fun h' hx=>⟨rfl,I.turnedL (its:=[it]) (fun b o hb q=>hx b o (by simpa using hb) q) hf I.tk⟩
 self:=fun A i s Q E st h=>by
  obtain ⟨ok,ov,he⟩:=st;exact PySem.W.kcp_self he h
section
variable {X:Cx} {o:Expr} {to:TE} {apos cpos:Pos}
noncomputable def cItems (to:TE):TI:=fun σ H R=>to σ H fun x H1=>match x with
 | .ref a=>∃ ob kvs,H1 a=some (.frz ob (.dK kvs))/\R (Itm a ob kvs) H1
 | _=>False
theorem w9 {elts:List Expr} {kk:Nat} {tpos:Pos} (ho:PE X o to) (hbase:attributeBase o "items" X.env (eval o X.env)=eval o X.env:=by rfl) (hline:(apos.endLine == cpos.line)=true:=by rfl):
  PI X (.Tuple elts kk tpos) (.Call (.Attribute o "items" apos) [] [] cpos) (cItems to):=by
 intro pins s σ H R I h;refine wpAny_Call_method hbase rfl hline PySem.F.plainAttrs_dict PySem.F.slot_dict_items PySem.F.type_dict_items (thn (ho pins s σ H _ I h) fun u s1 ⟨x,H1,I1,rx,q1⟩=>?_);dsimp only at q1;split at q1
 ·rename_i a;obtain ⟨ob,kvs,e1,q1⟩:=q1;obtain rfl:u=Value.ref a:=rx;obtain ⟨t1,t2,hd⟩:=xj I1 (.inl ⟨kvs,.inr ⟨ob,e1⟩⟩);refine ⟨t1,t2,callWith_method0 ?_⟩;obtain ⟨vs,rel,hm,_⟩:=qM I1 e1;refine call_meetsIn PySem.F.slot_dict_items t1 PySem.F.entry_dict_items (PySem.F.args_dict_items_1 _) (meets_dict_items (mixKind X.prog X.w) a hd) ⟨⟨vs,hm.dictOf⟩,?_⟩;have I2:Inv X pins σ H1 { s1 with heap:=s1.heap.push { cls:=.type "dict_items",data:=.fields #[.ref a] },toks:=s1.toks }:=I1.kept fun b o e=>Heap.get?_push_of_some _ e
  have hm2:(s1.heap.push { cls:=.type "dict_items",data:=.fields #[.ref a] }).DictAt (mixKind X.prog X.w) a vs (epOf ob):=hm.push _;refine wpAny_pyIter_items (d:=a) (kvs:=vs) (ep:=epOf ob) ⟨_,Heap.get?_push_size _ rfl,rfl,rfl⟩ hm2 ?_;have hlt:a < (s1.heap.push { cls:=.type "dict_items",data:=.fields #[.ref a] }).objs.size:=hm2.lt_size;refine ⟨_,[_],_,Itm a ob kvs,H1,rfl,I2.kept (t':=s1.toks) fun b o e=>Heap.get?_push_of_some _ e,sS a _ (Nat.ne_of_lt hlt) ob kvs,⟨.none,.none,?_⟩,fun b hb=>?_,q1⟩
  ·rw [rel.length];exact Heap.get?_push_size _ rfl
  ·have e:=List.mem_singleton.mp hb;subst e;exact I2.fpOk (Nat.le_refl _) (I2.hok.fresh (Nat.le_refl _))
 ·exact q1.elim
theorem wP {σ:St} {H:Hp} {R:It->Hp->Prop}:cItems to σ H R=to σ H fun x H1=>match x with
 | .ref a=>∃ ob kvs,H1 a=some (.frz ob (.dK kvs))/\R (Itm a ob kvs) H1
 | _=>False:=rfl
end
def KVal (p:Key × V):Prop:=∃ i,p.2=V.int i
noncomputable def dEq (ka kb:List (Key × V)):Bool:=ka.length == kb.length && ka.all fun p=>match p.2,valV kb p.1 with | .int i,some (.int j)=>i == j | _,_=>false
section
variable {X:Cx}
theorem yx {A:Around} {s:Shared} {kb:List (Key × V)} {vb:List (Key × Value)} (rb:KV kb vb) (hb:∀ p ∈ kb,KVal p):∀ {ka:List (Key × V)} {va:List (Key × Value)},KV ka va->(∀ p ∈ ka,KVal p) ->
  ∃ r,r=(ka.all fun p=>match p.2,valV kb p.1 with | .int i,some (.int j)=>i == j | _,_=>false)/\PySem.W.KeqHits A s vb va r:=by
 intro ka va r;unfold KV at r
 induction r with
 | nil=>intro _; exact ⟨true,rfl,.nil⟩
 | @cons p q ps qs h t ih=>
  intro ha;obtain ⟨r,hr,hh⟩:=ih fun p hp=>ha p (List.mem_cons_of_mem _ hp)
  obtain ⟨i,hi⟩:=ha p List.mem_cons_self;obtain ⟨h1,h2⟩:=h;rw [hi] at h2;obtain ⟨t1,ht1⟩:=(show ∃ t,q.2=Value.int i t from h2);have rv:=rb.val p.1;obtain ⟨q1,q2⟩:=q;obtain rfl:p.1=q1:=h1;obtain rfl:q2=Value.int i t1:=ht1;rw [List.all_cons,hi];cases e:valV kb p.1 with
  | none=>
   rw [e] at rv;have hn:valueAt vb p.1=none:=RelO.none_of rv;exact ⟨_,rfl,by dsimp only; rw [Bool.false_and]; exact .miss hn⟩
  | some v=>
   rw [e] at rv;obtain ⟨m,hm,em⟩:∃ m ∈ kb,m.2=v:=by
    unfold valV at e;obtain ⟨m,hm,em⟩:=Option.map_eq_some_iff.mp e;exact ⟨m,List.mem_of_find?_eq_some hm,em⟩
   obtain ⟨j,hj⟩:=hb m hm;rw [em] at hj;subst hj;cases ev:valueAt vb p.1 with
   | none=>rw [ev] at rv; exact (show False from rv).elim
   | some y=>
    rw [ev] at rv;obtain ⟨t2,rfl⟩:=(show ∃ t,y=Value.int j t from rv);refine ⟨_,rfl,?_⟩;dsimp only;rw [<- hr];exact .hit ev (SeqAt.EqAt.int_int i t1 j t2) hh
noncomputable def kEqDict:R2:=fun x y H Q=>match x,y with
 | .ref a,.ref b=>∃ ka kb,Rd H a (.dK ka)/\Rd H b (.dK kb)/\(∀ p ∈ ka,KVal p)/\(∀ p ∈ kb,KVal p)/\Q (.bl (dEq ka kb)) H
 | _,_=>False
theorem eqDictE {k:Nat} (hr:Room k X.A):OpR X (compareOp .Eq) kEqDict:=by
 intro pins s σ H x y v u Q I rx ry h;unfold kEqDict at h;split at h
 ·rename_i a b;obtain ⟨ka,kb,ea,eb,ha,hb,q⟩:=h;cases rx;cases ry;obtain ⟨_,da,va,ra,oa⟩:=lF I.hok ea;obtain ⟨_,db,vb,rb,ob⟩:=lF I.hok eb;obtain ⟨r,er,hh⟩:=yx (A:=X.A.in1) (s:=s) rb hb ra ha;have hu:=hr.un;refine PySem.W.keq_eq da db oa ob (by omega) (fun _=>hh) ?_;refine ⟨.bl _,H,I,rfl,?_⟩;rw [<- ra.length,<- rb.length,er];exact q
 ·exact h.elim
noncomputable def kEqF (K:Frag):R2:=fun x y H Q=>match x,y with
 | .int i,.int j=>Q (.bl (decide (i=j))) H
 | .int _,.ref b=>(∃ ys,SqT K H b ys)/\Q (.bl false) H
 | .ref a,.int _=>(∃ xs,SqT K H a xs)/\Q (.bl false) H
 | .ref a,.ref b=>kEqD K false (.ref a) (.ref b) H Q
 | _,_=>False
theorem eqFE (K:Frag) (hK:X.K=K) {k:Nat} (hr:Room k X.A):OpR X (compareOp .Eq) (kEqF K):=by
 subst hK;intro pins s σ H x y v u Q I rx ry h;have hu:=hr.un;unfold kEqF at h;split at h
 ·exact dM pins s σ H _ _ v u Q I rx ry (by rw [ww]; simpa using h)
 ·obtain ⟨⟨ys,hy⟩,q⟩:=h;obtain ⟨t,rfl⟩:=rx;cases ry;obtain ⟨us,r1,pl,_⟩:=I.tuple hy;exact SeqAt.RcAt.int_tuple _ _ pl (by omega) _ _ _ _ ⟨.bl _,H,I,rfl,q⟩
 ·obtain ⟨⟨ys,hy⟩,q⟩:=h;obtain ⟨t,rfl⟩:=ry;cases rx;obtain ⟨us,r1,pl,_⟩:=I.tuple hy;exact SeqAt.RcAt.tuple_int _ _ pl (by omega) _ _ _ _ ⟨.bl _,H,I,rfl,q⟩
 ·exact eqDE X.K rfl hr pins s σ H _ _ v u Q I rx ry h
 ·exact h.elim
theorem uc:CallR X (.builtin "len") (fun xs H Q=>∃ a kvs,xs=[V.ref a]/\Rd H a (.dK kvs)/\Q (.int kvs.length) H):=by
 intro pins s σ H xs us Q I r h;obtain ⟨a,kvs,rfl,ha,q⟩:=h;obtain ⟨u,rfl,ru⟩:=vals1 r;cases ru;exact BV I ha fun t s' I'=>⟨.int kvs.length,H,I',⟨t,rfl⟩,q⟩
end
section
variable {K:Frag} {g:TG} {tc:TT} {te:TE} {σc:St} {D:Addr} {Q:VK} {H:Hp} {td ty:TE}
theorem xB {Dn:Ends} {σ:St}:tBreak Dn σ H=Dn.bk σ H:=rfl
theorem vW {a b:Addr}:kEqDict (.ref a) (.ref b) H Q=∃ ka kb,Rd H a (.dK ka)/\Rd H b (.dK kb)/\(∀ p ∈ ka,KVal p)/\(∀ p ∈ kb,KVal p)/\Q (.bl (dEq ka kb)) H:=rfl
theorem rm {α:Type} (f:α -> Key × V) (xs:List α) (keep:α -> Bool) (R:α -> V->Hp->Prop) {a:Addr} {ob:Obj} (hfree:H D=none) (hl:H a=some (.frz ob (.dK (xs.map f)))) (hn:xs.length<=100000)
  (mono:∀ x v H1 H2 acc,H1 D=some (.lst acc)->(∀ b o,b≠D->H1 b=some o->H2 b=some o)->R x v H1->R x v H2)
  (hs:∀ x T H1 (out:VK) (non:Hp->Prop),x ∈ xs->Same H H1->H1 T=some (.tup [kV (f x).1,(f x).2])->(∀ v H6,keep x=true->Same H1 H6->R x v H6->out v H6)->(∀ H5,keep x=false->Same H1 H5->non H5) ->
   g (.ref T) σc H1 fun σ4 H4=>tc σ4 H4 fun b H5=>if b=true then te σ4 H5 out else non H5)
  (hq:∀ H' vs,Same H H'->H' D=some (.lst vs)->Paired (fun x v=>R x v H') (xs.filter keep) vs->Q (.ref D) H'):compW (Itm a ob (xs.map f)) g tc te σc D Q H:=by
 refine ⟨fun i m acc H2=>m=xs.length - i/\i<=xs.length/\Paired (fun x v=>R x v H2) ((xs.take i).filter keep) acc/\Same H H2/\H2 D=some (.lst acc),⟨xs.length,by simp,Nat.zero_le _,.nil,ah hfree _,upd_same⟩,?_⟩;rintro i m acc H2 ⟨rfl,hi,pr,sm,hD⟩;have len:acc.length<=i:=by
  have a:=pr.length;have b:=List.length_filter_le keep (xs.take i);rw [List.length_take] at b
  lia
 by_cases hlt:i < xs.length
 ·refine .inr ⟨⟨sm _ _ hl,by simpa using hlt⟩,fun x H3 y=>?_⟩;obtain ⟨T,k,u,rfl,hT,hk,rfl⟩:=y;rw [List.getElem?_map,List.getElem?_eq_getElem hlt] at hk;have e2:f xs[i]=(k,u):=Option.some.inj hk;have ht:xs.take (i+1)=xs.take i++[xs[i]]:=by rw [List.take_add_one,List.getElem?_eq_getElem hlt]; rfl
  have s3:=ah hT (.tup [kV k,u]);have hD3:=s3 _ _ hD;refine hs xs[i] T _ _ _ (List.getElem_mem hlt) (sm.trans s3) (by rw [e2]; exact upd_same) (fun v H6 k s6 r=>?_) fun H5 k s5=>?_
  ·refine ⟨s6 _ _ hD3,Nat.lt_of_le_of_lt len (sizeBig (by lia)),xs.length - (i+1),by lia,rfl,hlt,?_,?_,upd_same⟩
   ·have m1:∀ x v,R x v H6->R x v (upd H6 D (.lst (acc++[v]))):=fun x v r=>mono x v H6 _ acc (s6 _ _ hD3) (fun b o nb q=>by rw [ao nb]; exact q) r
    rw [ht,List.filter_append];have f1:[xs[i]].filter keep=[xs[i]]:=by simp [k]
    rw [f1];have lift:∀ {l:List α} {vs:List V},Paired (fun x v=>R x v H2) l vs->Paired (fun x v'=>R x v' (upd H6 D (.lst (acc++[v])))) l vs:=by
     intro l vs pp
     induction pp with
     | nil=>exact .nil
     | cons r _ ih=>exact .cons (mono _ _ H2 _ acc hD (fun b o nb q=>by rw [ao nb]; exact s6 _ _ (s3 _ _ q)) r) ih
    have app:∀ {l:List α} {vs:List V} {x:α} {v':V} {F:α -> V->Prop},Paired F l vs->F x v'->Paired F (l++[x]) (vs++[v']):=by
     intro l vs x v' F pp r
     induction pp with
     | nil=>exact .cons r .nil
     | cons r' _ ih=>exact .cons r' ih
    exact app (lift pr) (m1 _ _ r)
   ·exact aE (sm.trans (s3.trans s6)) hfree
  ·refine ⟨xs.length - (i+1),by lia,rfl,hlt,?_,sm.trans (s3.trans s5),s5 _ _ hD3⟩;rw [ht,List.filter_append];have f1:[xs[i]].filter keep=[]:=by simp [k]
   rw [f1,List.append_nil];have lift:∀ {l:List α} {vs:List V},Paired (fun x v=>R x v H2) l vs->Paired (fun x v'=>R x v' H5) l vs:=by
    intro l vs pp
    induction pp with
    | nil=>exact .nil
    | cons r _ ih=>exact .cons (mono _ _ H2 _ acc hD (fun b o _ q=>s5 _ _ (s3 _ _ q)) r) ih
   exact lift pr
 ·have e:i=xs.length:=by lia
  subst e;rw [List.take_length] at pr;exact .inl ⟨⟨sm _ _ hl,by simp⟩,hq H2 acc sm hD pr⟩
end
section
variable {K:Frag} {J:It} {g:TG} {tc:TT} {te:TE} {σc:St} {D:Addr} {Q:VK} {H:Hp}
theorem iF {α:Type} (xs:List α) (keep:α -> Bool) (R:α -> V->Hp->Prop) (hfree:H D=none) (hn:xs.length<=100000) (hgo:∀ i H1,i < xs.length->Same H H1->J.go i H1) (hst:∀ H1,Same H H1->J.stop xs.length H1)
  (hy:∀ i H1 v H2,i < xs.length->J.yld i H1 v H2->Same H1 H2)
  (mono:∀ x v H1 H2 acc,H1 D=some (.lst acc)->(∀ b o,b≠D->H1 b=some o->H2 b=some o)->R x v H1->R x v H2)
  (hs:∀ i x v H1 H2 (out:VK) (non:Hp->Prop),xs[i]? = some x->Same H H1->J.yld i H1 v H2->(∀ v H6,keep x=true->Same H2 H6->R x v H6->out v H6)->(∀ H5,keep x=false->Same H2 H5->non H5) ->
   g v σc H2 fun σ4 H4=>tc σ4 H4 fun b H5=>if b=true then te σ4 H5 out else non H5)
  (hq:∀ H' vs,Same H H'->H' D=some (.lst vs)->Paired (fun x v=>R x v H') (xs.filter keep) vs->Q (.ref D) H'):compW J g tc te σc D Q H:=by
 refine ⟨fun i m acc H2=>m=xs.length - i/\i<=xs.length/\Paired (fun x v=>R x v H2) ((xs.take i).filter keep) acc/\Same H H2/\H2 D=some (.lst acc),⟨xs.length,by simp,Nat.zero_le _,.nil,ah hfree _,upd_same⟩,?_⟩;rintro i m acc H2 ⟨rfl,hi,pr,sm,hD⟩;have len:acc.length<=i:=by
  have a:=pr.length;have b:=List.length_filter_le keep (xs.take i);rw [List.length_take] at b
  lia
 by_cases hlt:i < xs.length
 ·refine .inr ⟨hgo i H2 hlt sm,fun x H3 y=>?_⟩;have s3:=hy i H2 x H3 hlt y;have ht:xs.take (i+1)=xs.take i++[xs[i]]:=by rw [List.take_add_one,List.getElem?_eq_getElem hlt]; rfl
  have hD3:=s3 _ _ hD;refine hs i xs[i] x _ _ _ _ (List.getElem?_eq_getElem hlt) sm y (fun v H6 k s6 r=>?_) fun H5 k s5=>?_
  ·refine ⟨s6 _ _ hD3,Nat.lt_of_le_of_lt len (sizeBig (by lia)),xs.length - (i+1),by lia,rfl,hlt,?_,?_,upd_same⟩
   ·have m1:∀ x v,R x v H6->R x v (upd H6 D (.lst (acc++[v]))):=fun x v r=>mono x v H6 _ acc (s6 _ _ hD3) (fun b o nb q=>by rw [ao nb]; exact q) r
    rw [ht,List.filter_append];have f1:[xs[i]].filter keep=[xs[i]]:=by simp [k]
    rw [f1];have lift:∀ {l:List α} {vs:List V},Paired (fun x v=>R x v H2) l vs->Paired (fun x v'=>R x v' (upd H6 D (.lst (acc++[v])))) l vs:=by
     intro l vs pp
     induction pp with
     | nil=>exact .nil
     | cons r _ ih=>exact .cons (mono _ _ H2 _ acc hD (fun b o nb q=>by rw [ao nb]; exact s6 _ _ (s3 _ _ q)) r) ih
    have app:∀ {l:List α} {vs:List V} {x:α} {v':V} {F:α -> V->Prop},Paired F l vs->F x v'->Paired F (l++[x]) (vs++[v']):=by
     intro l vs x v' F pp r
     induction pp with
     | nil=>exact .cons r .nil
     | cons r' _ ih=>exact .cons r' ih
    exact app (lift pr) (m1 _ _ r)
   ·exact aE (sm.trans (s3.trans s6)) hfree
  ·refine ⟨xs.length - (i+1),by lia,rfl,hlt,?_,sm.trans (s3.trans s5),s5 _ _ hD3⟩;rw [ht,List.filter_append];have f1:[xs[i]].filter keep=[]:=by simp [k]
   rw [f1,List.append_nil];have lift:∀ {l:List α} {vs:List V},Paired (fun x v=>R x v H2) l vs->Paired (fun x v'=>R x v' H5) l vs:=by
    intro l vs pp
    induction pp with
    | nil=>exact .nil
    | cons r _ ih=>exact .cons (mono _ _ H2 _ acc hD (fun b o _ q=>s5 _ _ (s3 _ _ q)) r) ih
   exact lift pr
 ·have e:i=xs.length:=by lia
  subst e;rw [List.take_length] at pr;exact .inl ⟨hst H2 sm,hq H2 acc sm hD pr⟩
end
section
variable {X:Cx} {e:Expr} {te:TE} {pos:Pos}
theorem mL (xs:List V) (n:Nat) (h:n<=xs.length):cutV xs none (some (n:Int))=xs.take n:=by
 unfold cutV;have e1:HT.sIx xs.length 0 none=0:=by simp [HT.sIx]
 have e2:HT.sIx xs.length xs.length (some (n:Int))=n:=by
  simp only [HT.sIx];rw [if_neg (by lia)]
  lia
 rw [e1,e2];simp
theorem mX (xs:List V) (n:Nat) (h:n<=xs.length):cutV xs (some (n:Int)) none=xs.drop n:=by
 unfold cutV;have e1:HT.sIx xs.length 0 (some (n:Int))=n:=by
  simp only [HT.sIx];rw [if_neg (by lia)]
  lia
 have e2:HT.sIx xs.length xs.length none=xs.length:=by simp [HT.sIx]
 rw [e1,e2];rw [List.take_of_length_le (by rw [List.length_drop]; lia)]
end
section
variable {X:Cx} {o e:Expr} {to te:TE} {apos cpos:Pos}
noncomputable def cPopAt (to te:TE):TE:=fun σ H Q=>to σ H fun x H1=>match x with
 | .ref l=>(∃ xs,H1 l=some (.lst xs))/\te σ H1 fun y H2=>match y with
  | .int i=>∃ (xs:List V) (k:Nat) (v:V),i=(k:Int)/\H2 l=some (.lst xs)/\xs.length<=100000/\xs[k]? = some v/\Q v (upd H2 l (.lst (xs.eraseIdx k)))
  | _=>False
 | _=>False
theorem rA (ho:PE X o to) (he:PE X e te) (hbase:attributeBase o "pop" X.env (eval o X.env)=eval o X.env:=by rfl)
  (hfew:((backTo cpos (starEach [e] X.env)).all (fun x=>!x.1) && (backToKw cpos (keywordEach [] X.env)).all (fun x=>x.1.isSome) && decide ([e].length+([]:List Keyword).length+(if ([]:List Keyword).isEmpty then 0 else 1) < 30))=true:=by rfl)
  (hline:(apos.endLine == cpos.line)=true:=by rfl) (hs:starEach [e] X.env=(false,eval e X.env)::starEach [] X.env:=by rfl) (hplain:(backTo cpos (starEach [] X.env)).any (·.1)=false:=by rfl):
  PE X (.Call (.Attribute o "pop" apos) [e] [] cpos) (cPopAt to te):=
 (uB PySem.F.plainAttrs_list PySem.F.slot_list_pop PySem.F.type_list_pop wK ho.mono (aa he.mono ad hs) hbase hfew hline hs hplain).imp fun σ H Q q=>⟨_,q,fun x H1 z=>by
  split at z
  ·rename_i l;obtain ⟨⟨xs,h⟩,z⟩:=z;refine ⟨.inl ⟨rfl,_,SqL.of h⟩,_,z,fun y H2 z2=>?_⟩;split at z2
   ·obtain ⟨xs2,k,v,rfl,h2,h3,h4,z3⟩:=z2;have hk:k < xs2.length:=(List.getElem?_eq_some_iff.mp h4).1;exact ⟨l,xs2,k,k,v,rfl,rfl,h2,by lia,by lia,by unfold seqIndex?; simp; lia,h4,z3⟩
   ·exact z2.elim
  ·exact z.elim⟩
theorem wq {σ:St} {H:Hp} {Q:VK}:cPopAt to te σ H Q=to σ H fun x H1=>match x with
 | .ref l=>(∃ xs,H1 l=some (.lst xs))/\te σ H1 fun y H2=>match y with
  | .int i=>∃ (xs:List V) (k:Nat) (v:V),i=(k:Int)/\H2 l=some (.lst xs)/\xs.length<=100000/\xs[k]? = some v/\Q v (upd H2 l (.lst (xs.eraseIdx k)))
  | _=>False
 | _=>False:=rfl
end
end L2
namespace L2
open PySem PySem.Spec PyProof.Rows PySem.W
end L2
namespace L2
open PySem PySem.Spec PyProof.Rows
section
variable {prog:Program} {w:World} {A:Around} {s:Shared} {E:Value->Shared->Prop}
theorem yW {name qual x:Str} {params:Arguments} {scope:Scope} {p1 p2 p3 p4 p5:Pos} {j:Nat} {pm ctv:Value} {f c' r:Addr} {its:Array Value} {y:Str} {t:Tok} {mg mb:Str->Option Value} {Q:Value->Shared->Prop}
  (hroom:A.depth < recursionLimit)
  (ho:s.heap.get? f=some (PySem.W.kla_obj name qual params (.Call (.Name "len" p1) [.Subscript (.Name x p2) (.Constant (.int 0) j p3) p4] [] p5) scope [] pm c' ctv))
  (hcd:s.heap.CodeRec (.ref c') qual) (hk:scope.kind=.function) (hco:scope.isCoroutine=false) (hgen:scope.isGenerator=false) (hcell:∀ x ∈ scope.names,x.2≠.cell)
  (hx:scope.names.lookup x=some .local) (hlen:scope.names.lookup ("len" : Str)=some .globalImplicit) (hxd:(x == ("__debug__" : Str))=false)
  (hbind:bindArgs (PySem.W.kla_fn name qual params (.Call (.Name "len" p1) [.Subscript (.Name x p2) (.Constant (.int 0) j p3) p4] [] p5) scope [] pm (.ref c') ctv) ⟨[.ref r],[]⟩=pure [(x,.ref r)])
  (hr:IsTup s.heap r its) (h0:its[0]? = some (.str y t)) (hy:y.length<=sizeLine)
  (hg:s.heap.Ns mainGlobals mg) (hm:mg "len" = none) (hb:s.heap.Ns builtinsNs mb) (hbb:mb "len" = some (.builtin "len")) (hlim:s.heap.NoLimit)
  (h:∀ h' tk t',(∀ b o,s.heap.get? b=some o->h'.get? b=some o)->Q (.int y.length t') { s with heap:=h',toks:=tk }):
  wpAny (model prog w) A (call (.ref f) [.ref r]) Q E s:=by
 refine wpAny_call (PySem.W.kla_callFunE hroom ho rfl hco hgen rfl hcd ?_);rw [hbind];refine wpAny_pure (wpAny_newFunctionEnv hcell (fun z hz=>by have:=List.mem_singleton.mp hz; subst this; exact hx) (fun h₁ hns hsb=>?_) hk);have kp:∀ b o,s.heap.get? b=some o->h₁.get? b=some o:=fun b o e=>hsb.extBut b o (Nat.ne_of_lt (Heap.lt_size e)) (Heap.get?_push_of_some _ e)
 refine ⟨hlim.keeps kp,PySem.W.kla_codeExpr ?_⟩;refine wpAny_Call_Name_kw (Calls.Name_function_global hk hlen (Calls.loadGlobal_builtin (hg.keeps kp) hm (hb.keeps kp) hbb ?_));refine PyProof.Rows.callWith_builtin1 ?_ rfl rfl;have e1:([(x,Value.ref r)].reverse).lookup x=some (.ref r):=by simp
 refine Calls.spliced_cons (Subscript_ (wpAny_Name (wpAny_loadName_local hk hx hns e1 (wpAny_Constant_int ?_)) hxd));have hr1:IsTup h₁ r its:=by obtain ⟨o,ho,r'⟩:=hr; exact ⟨o,kp _ _ ho,r'⟩
 have sz:0 < its.size:=(Array.getElem?_eq_some_iff.mp h0).1;refine subscriptTail_builtinR (x:=.str y t) hr1.typeIs slot_tuple_getitem.lookup
  (getItem_tuple (j:=0) hr1 (by decide) (by decide) ?_ h0 ⟨rfl,?_⟩)
 ·exact seqIndex_of (by decide) (by simpa using sz)
 have hl:=line63;exact Calls.spliced_nil (len_str (by lia) (h _ _ _ kp))
end
theorem ObjOk.there {P:Program} {w:World} {H:Hp} {h:Heap} {a:Addr} {o:HO} (x:ObjOk P w H h a o):∃ ob,h.get? a=some ob:=by
 induction o with
 | lst xs=>obtain ⟨_,_,_,_,e⟩:=x; exact ⟨_,e⟩
 | tup xs=>obtain ⟨_,_,_,_,e,_⟩:=x; exact ⟨_,e⟩
 | dK kvs=>obtain ⟨_,_,_,_,_,_,_,e,_⟩:=x; exact ⟨_,e⟩
 | dT kvs=>obtain ⟨_,_,_,_,_,_,_,e,_⟩:=x; exact ⟨_,e⟩
 | set S n=>obtain ⟨_,_,_,_,e,_⟩:=x; exact ⟨_,e⟩
 | ins C dx fs=>obtain ⟨_,_,_,e,_⟩:=x; exact ⟨_,e⟩
 | own y=>exact x
 | xd fs=>obtain ⟨_,⟨_,_,_,e,_⟩,_⟩:=x; exact ⟨_,e⟩
 | rng lo hi=>obtain ⟨_,_,_,e⟩:=x; exact ⟨_,e⟩
 | frz ob u ih=>obtain ⟨e,_⟩:=x; exact ⟨_,e⟩
 | tbl ps=>obtain ⟨_,e,_⟩:=x; exact ⟨_,e⟩
 | met f y=>exact ⟨_,x⟩
 | ext φ=>obtain ⟨_,e,_⟩:=x; exact e
section
variable {X:Cx} {pins:List (Addr × Obj)} {σ:St} {H:Hp} {s:Shared}
theorem tI {pos lp:Pos} {c cv:Value}:∀ l:List Value,TriplesOk l->codeAmong pos (l++[rawInt lp.line,rawInt lp.col,c])=some cv->codeAmong pos l=some cv\/cv=c:=by
 intro l
 fun_induction TriplesOk l with
 | case1=>
  intro _ h;simp only [List.nil_append,rawInt,codeAmong] at h;split at h
  ·exact .inr (Option.some.inj h).symm
  ·cases h
 | case2 i t j u x rest ih=>
  intro ht h;simp only [List.cons_append,codeAmong] at h ⊢;split at h
  ·rename_i g;rw [if_pos g];exact .inl h
  ·rename_i g;rw [if_neg g];exact ih ht h
 | case3=>exact fun h=>h.elim
theorem qt {lp:Pos} {c:Value}:∀ l:List Value,TriplesOk l->TriplesOk (l++[rawInt lp.line,rawInt lp.col,c]):=by
 intro l
 fun_induction TriplesOk l with
 | case1=>exact fun _=>True.intro
 | case2 i t j u x rest ih=>exact fun h=>ih h
 | case3=>exact fun h=>h.elim
theorem Inv.tabled {P c':Addr} {ps more:Array Value} {h':Heap} {t':Nat} (I:Inv X pins σ H s) (hP:H P=some (.tbl ps)) (k:∀ b u,b≠P->s.heap.get? b=some u->h'.get? b=some u) (hc:s.heap.objs.size<=c') (ho:∃ o,h'.get? c'=some o)
  (new:h'.get? P=some { cls:=.none,data:=.fields (ps++more) }) (tab:TabOk (upd H c' (.own P)) h' P (ps++more)) (ht:0 < t'):Inv X pins σ (upd H c' (.own P)) { s with heap:=h',toks:=t' }:=by
 have ne:∀ b,H b=none->b≠P:=fun b n z=>by rw [z,hP] at n; cases n
 have neo:∀ b u,H b=some u->(∀ qs,u≠.tbl qs)->b≠P:=fun b u e n z=>by rw [z,hP] at e; cases e; exact n _ rfl
 have hn:H c'=none:=I.hok.fresh hc;have neH:∀ b u,H b=some u->b≠c':=fun b u e z=>by rw [z,hn] at e; cases e
 refine I.un ⟨fun b o e n _ _=>k b o (ne b n) e,fun b o e n _ _=>⟨o.slots,k b o (ne b n) e⟩,fun b o e n _=>by rw [ao (fun z=>by subst z; exact absurd (Heap.lt_size e) (Nat.not_lt.mpr hc))]; exact n,fun b o e _=>?_,
  fun b xs e=>by rw [ao (neH b _ e)]; exact e,fun b o u e=>by rw [ao (neH b _ e)]; exact e,fun b qs e=>⟨#[],by rw [ao (neH b _ e),e]; simp⟩⟩ (fun b u e=>?_) ht
 ·by_cases hb:b=P
  ·exact ⟨_,by rw [hb]; exact new⟩
  ·exact ⟨o,k b o hb e⟩
 ·by_cases hbc:b=c'
  ·subst hbc;rw [upd_same] at e;cases e;exact ho
  rw [ao hbc] at e;by_cases hb:b=P
  ·subst hb;rw [hP] at e;cases e;exact ⟨more,new,tab⟩
  ·refine (I.hok b u e).stay (fun c v hc q=>k c v ?_ q) (fun c q=>by rw [ao (neH c _ q)]; exact q) fun c xs q=>by rw [ao (neH c _ q)]; exact q
   rcases hc with z | z
   ·rw [z]; exact hb
   ·exact neo c _ z fun _ z=>by cases z
end
theorem Inv.laidFr {X:Cx} {pins:List (Addr × Obj)} {σ:St} {H:Hp} {s:Shared} {a:Addr} {o:HO} {m:Str->Option Value} {h':Heap} {t':Nat} (I:Inv X pins σ H s) (hm:s.heap.Ns X.env.locals m) (hm':h'.Ns X.env.locals m)
  (k:∀ b u,b≠X.env.locals->s.heap.get? b=some u->h'.get? b=some u) (hf:s.heap.get? a=none) (hn:H a=none) (new:ObjOk X.prog X.w (upd H a o) h' a o) (ht:0 < t'):Inv X pins σ (upd H a o) { s with heap:=h',toks:=t' }:=by
 have ne:∀ b ob,s.heap.get? b=some ob->b≠a:=fun b ob e z=>by rw [z,hf] at e; cases e
 have neH:∀ b u,H b=some u->b≠a:=fun b u e z=>by rw [z,hn] at e; cases e
 have neL:∀ b u,H b=some u->b≠X.env.locals:=fun b u e z=>by rw [z,I.free] at e; cases e
 refine I.step (g':=s.gens) (d':=s.drawn) (ch:=[]) (fun _ z=>nomatch z) (fun b ob hL _ _ e _=>k b ob hL e) (fun b ob hL _ _ e _=>⟨ob.slots,k b ob hL e⟩) (fun b ob _ e n=>by rw [ao (ne b ob e)]; exact n)
  (fun b ob _ e=>?_) (fun b xs e=>by rw [ao (neH b _ e)]; exact e) (fun b ob u e=>by rw [ao (neH b _ e)]; exact e) (fun b ps e=>⟨#[],by rw [ao (neH b _ e),e]; simp⟩) (fun m2 hm2=>?_) (fun b u e=>?_) I.bare ht
 ·by_cases hb:b=X.env.locals
  ·obtain ⟨o',es,ep,e',_⟩:=hm';exact ⟨o',by rw [hb]; exact e'⟩
  ·exact ⟨ob,k b ob hb e⟩
 ·have:m2=m:=funext fun x=>hm2.agree hm x
  rw [this]; exact hm'
 ·by_cases hb:b=a
  ·subst hb;rw [upd_same] at e;cases e;exact new
  ·rw [ao hb] at e;refine (I.hok b u e).stay (fun c v hc q=>k c v ?_ q) (fun c q=>by rw [ao (neH c _ q)]; exact q) fun c xs q=>by rw [ao (neH c _ q)]; exact q
   rcases hc with z | z
   ·rw [z]; exact neL b u e
   ·exact neL c _ z
def Desc {α:Type} (g:α -> Nat) (xs xs':List α):Prop:=xs'.Perm xs/\xs'.Pairwise fun a b=>g b<=g a
theorem lm {α β:Type} {R:α -> β -> Prop} {l l':List α} (p:l'.Perm l):∀ {m:List β},Paired R l m->∃ m':List β,m'.Perm m/\Paired R l' m':=by
 induction p with
 | nil=>exact fun {m} h=>⟨m,.refl _,h⟩
 | cons x _ ih=>
  intro m h;cases h with
  | cons a r=>
   obtain ⟨m',q1,q2⟩:=ih r;exact ⟨_::m',q1.cons _,.cons a q2⟩
 | swap x y l=>
  intro m h;cases h with
  | cons a r=>
   cases r with
   | cons b r=>exact ⟨_,.swap _ _ _,.cons b (.cons a r)⟩
 | trans _ _ ih1 ih2=>
  intro m h;obtain ⟨m1,q1,q2⟩:=ih2 h;obtain ⟨m2,q3,q4⟩:=ih1 q2;exact ⟨m2,q3.trans q1,q4⟩
theorem iu {α β:Type} {R:α -> β -> Prop}:∀ {l:List α} {m:List β},Paired R l m->∀ b ∈ m,∃ a ∈ l,R a b
 | _,_,.nil,b,h=>absurd h List.not_mem_nil
 | _,_,.cons q r,b,h=>by
  rcases List.mem_cons.mp h with e | h
  ·rw [e]; exact ⟨_,List.mem_cons_self ..,q⟩
  ·obtain ⟨a,h1,h2⟩:=iu r b h;exact ⟨a,List.mem_cons_of_mem _ h1,h2⟩
theorem dF {α β:Type} {R:α -> β -> Prop} {S:α -> α -> Prop} {S':β -> β -> Prop} (f:∀ a b c d,R a b->R c d->S a c->S' b d):∀ {l:List α} {m:List β},Paired R l m->l.Pairwise S->m.Pairwise S'
 | _,_,.nil,_=>.nil
 | _,_,.cons a r,h=>by
  obtain ⟨h1,h2⟩:=List.pairwise_cons.mp h;refine List.pairwise_cons.mpr ⟨fun d hd=>?_,dF f r h2⟩;obtain ⟨c,hc,rc⟩:=iu r d hd;exact f _ _ _ _ a rc (h1 c hc)
theorem bi {key:V->Nat}:∀ {xs:List V} {vs:List Value},Vals xs vs->Paired (fun (p:Int × Value) x=>p.1=key x/\RelV x p.2) ((xs.map fun x=>(key x:Int)).zip vs) xs
 | _,_,.nil=>.nil
 | _,_,.cons a r=>.cons ⟨rfl,a⟩ (bi r)
theorem ln {key:V->Nat}:∀ {ps:List (Int × Value)} {xs:List V},Paired (fun (p:Int × Value) x=>p.1=key x/\RelV x p.2) ps xs->Vals xs (ps.map Prod.snd)
 | _,_,.nil=>.nil
 | _,_,.cons a r=>.cons a.2 (ln r)
theorem xl {key:V->Nat} {xs:List V} {vs out:List Value} (r:Vals xs vs) (h:KskOut true (xs.map fun x=>(key x:Int)) vs out):∃ xs',Desc key xs xs'/\Vals xs' out:=by
 obtain ⟨ps,hp,rfl,hs⟩:=h;obtain ⟨xs',q1,q2⟩:=lm hp (bi (key:=key) r);exact ⟨xs',⟨q1,dF (fun a b c d ra rc q=>by
  have q':c.1<=a.1:=by simpa using q
  rw [ra.1,rc.1] at q'
  lia) q2 hs⟩,ln q2⟩
structure LamAt (K:Frag) (mg:Str->Option Value) (c P:Addr):Prop where
 code:∃ od vs sl file tf flags tg inF text tt,K.lookup c=some ⟨.type "code",od,.fields vs,sl⟩/\vs[11]? = some (.ref P)/\vs.getD 11 .none=.ref P/\vs.getD 18 .none=.str file tf /\
  vs.getD 7 .none=.int flags tg/\vs.getD 9 .none=.bool inF/\vs.getD 10 .none=.int text tt
 ne:c≠P
 bm:∃ b sl,mg "__builtins__" = some (.ref b)/\b≠builtinsNs/\b≠mainGlobals/\K.lookup b=some ⟨.type "module",some builtinsNs,.plain,sl⟩
theorem LamAt.hd {K:Frag} {mg:Str->Option Value} {c P:Addr} {h:Heap} (L:LamAt K mg c P) (X:K.In h):PySem.W.CodeHd h c P:=by
 obtain ⟨od,vs,sl,file,tf,flags,tg,inF,text,tt,e1,e2,e3,e4,e5,e6,e7⟩:=L.code;exact ⟨_,vs,file,tf,flags,tg,inF,text,tt,X _ _ e1,rfl,rfl,e2,e3,e4,e5,e6,e7,L.ne⟩
section
variable {X:Cx}
noncomputable def cSortLen (K:Frag) (P:Addr) (te:TE):TE:=fun σ H Q=>te σ H fun v H1=>match v with
 | .ref p=>∃ (xs:List V) (key:V->Nat),SqL K H1 p xs/\xs.length < 64/\(∀ x ∈ xs,∃ r y rest,x=.ref r/\SqT K H1 r (.str y::rest)/\y.length<=sizeLine/\key x=y.length)/\H1 P=some (.tbl #[]) /\
   ∀ q H' xs',H1 q=none->Same H1 H'->H' q=some (.lst xs')->Desc key xs xs'->Q (.ref q) H'
 | _=>False
theorem mP {P c' l:Addr} {x:Str} {params:Arguments} {scope:Scope} {k j:Nat} {p1 p2 p3 p4 p5:Pos} {pins:List (Addr × Obj)} {s1:Shared} {σ:St} {H1 H2:Hp} {Q:VK} {E:Value->Shared->Prop} {h':Heap} {tk:Nat} {fo:Obj} {ctv:Value} {xs:List V} {key:V->Nat} (hr:Room k X.A) (hml:X.mg "len" = none)
  (hk:scope.kind=.function) (hco:scope.isCoroutine=false) (hgen:scope.isGenerator=false) (hcell:∀ x ∈ scope.names,x.2≠.cell)
  (hx:scope.names.lookup x=some .local) (hlen:scope.names.lookup ("len" : Str)=some .globalImplicit) (hxd:(x == ("__debug__" : Str))=false)
  (hbind:∀ (qual:Str) (body:Expr) (pm cv ctv u:Value),bindArgs (PySem.W.kla_fn "<lambda>" qual params body scope [] pm cv ctv) ⟨[u],[]⟩=pure [(x,u)])
  (I1:Inv X pins σ H1 s1) (hs:Same H1 H2) (a1:SqL X.K H1 l xs) (a2:xs.length < 64) (a3:∀ x ∈ xs,∃ r y rest,x=.ref r/\SqT X.K H1 r (.str y::rest)/\y.length<=sizeLine/\key x=y.length)
  (neP:∀ {b:Addr} {o:Obj},s1.heap.get? b=some o->o.cls≠.none->b≠P)
  (hfo:PySem.W.kla_obj (Str.ofString "<lambda>") (X.env.qual++Str.ofString "<lambda>") params ((Expr.Name (Str.ofString "len") p1).Call [(Expr.Name x p2).Subscript (Expr.Constant (Const.int 0) j p3) p4] [] p5) scope [] ((X.mg (Str.ofString "__name__")).getD Value.none) c' ctv=fo)
  (hsz:s1.heap.objs.size<=h'.objs.size) (hcL:c'≠X.env.locals) (hrec:h'.CodeRec (.ref c') (X.env.qual++Str.ofString "<lambda>")) (kp2:∀ b u,b≠P->s1.heap.get? b=some u->(h'.push fo).get? b=some u)
  (htk:0 < tk) (I2:Inv X pins σ H2 { s1 with heap:=h'.push fo,toks:=tk })
  (a5:∀ q H' xs',H1 q=none->Same H1 H'->H' q=some (.lst xs')->Desc key xs xs'->Q (.ref q) H'):
  wpAny (model X.prog X.w) X.A (call (.builtin "sorted") [.ref l] [("key",.ref h'.objs.size),("reverse",.bool true)]) (fun u s'=>∃ v H',Inv X pins σ H' s'/\RelV v u/\Q v H') E { s1 with heap:=h'.push fo,toks:=tk }:=by
 have hLs:X.env.locals < s1.heap.objs.size:=I1.lt;obtain ⟨m,F⟩:=I2.fr;obtain ⟨its,rv,pl,hz⟩:=I1.list a1;have hl:=rv.length;have pl2:(h'.push fo).IsList l its.toArray:=by
  obtain ⟨o,e,hc,hd⟩:=pl.isList;exact ⟨o,kp2 l o (neP e (by rw [hc]; nofun)) e,hc,hd⟩
 have kept2:∀ {h:Heap} {own:List (Addr × Obj)},Fr X.base X.env.locals h m->News X.base X.env.locals h (allNews X.base (h'.push fo) X.env.locals++own)->∀ b o,b≠X.env.locals->(h'.push fo).get? b=some o->h.get? b=some o:=by
  intro h own F' N' b o hb e;cases q:X.base.get? b with
  | some u=>
   have:=I2.bk b u q;rw [show ({ s1 with heap:=h'.push fo,toks:=tk }:Shared).heap.get? b=some o from e] at this;cases this;exact F'.keep b _ q
  | none=>exact (N' (b,o) (List.mem_append_left _ (lh hb q e))).1
 refine tokQ (s:={ s1 with heap:=h'.push fo,toks:=tk }) htk (ksk_sorted (s:={ s1 with heap:=h'.push fo,toks:=tk }) (b:=true) (kz:=xs.map fun x=>(key x:Int)) F xk pl2 (by rw [List.length_map]; exact hl) (by lia) (ksk_s2 _ _ _) (fun _=>ksk_l2 _ _ _) (fun x=>ksk_t2 _ x true) ?turn ?done)
 case turn=>
  intro i v k2 hv hk2 h tk2 own F' N';rw [List.getElem?_map] at hk2;obtain ⟨z,hzi,hzk⟩:∃ z,xs[i]? = some z/\(key z:Int)=k2:=by
   cases q:xs[i]? with
   | none=>rw [q] at hk2; simp at hk2
   | some z=>rw [q] at hk2; exact ⟨z,rfl,by simpa using hk2⟩
  obtain ⟨v',hv',rz⟩:=rv.get hzi;rw [hv] at hv';cases hv';obtain ⟨r,y',rest,rfl,ht,hy,hky⟩:=a3 z (List.mem_of_getElem? hzi);cases rz;obtain ⟨its2,rv2,pl3,hz2⟩:=I1.tuple ht;obtain ⟨u0,hu0,r0⟩:=rv2.get (i:=0) rfl;obtain ⟨t0,rfl⟩:=r0;have kp3:=kept2 F' N';have hrL:r≠X.env.locals:=fun e=>by
   obtain ⟨m0,⟨o,es,ep,e1,e2,_⟩,_⟩:=I1.loc;obtain ⟨o',e3,_,n,e4⟩:=pl3;rw [e,e1] at e3;cases e3;rw [e2] at e4;cases e4
  have pl4:IsTup h r its2.toArray:=by
   obtain ⟨o,e,hc,hd⟩:=pl3;exact ⟨o,kp3 r o hrL (kp2 r o (neP e (by rw [hc]; nofun)) e),hc,hd⟩
  obtain ⟨c2,oc,ws,tq,e2,hoc,hrest⟩:=hrec;cases e2;have hfL:h'.objs.size≠X.env.locals:=Nat.ne_of_gt (Nat.lt_of_lt_of_le hLs hsz);obtain ⟨mb,hb1,hb2⟩:=I1.mod.blt;have hrd:=hr.dp;subst hfo;refine yW (s:={ s1 with heap:=h,toks:=tk2 }) (mg:=X.mg) (mb:=mb) (by show X.A.depth < _; lia) (kp3 _ _ hfL (Heap.get?_push_size _ rfl)) ⟨c',oc,ws,tq,rfl,kp3 _ _ hcL (Heap.get?_push_of_some _ hoc),hrest⟩ hk hco hgen hcell hx hlen hxd (hbind _ _ _ _ _ _) pl4
   (by simpa using hu0) hy (I1.mod.glob.keeps F'.keep) hml (hb1.keeps F'.keep) (hb2 "len" (by decide)) (I1.mod.nolimit.keeps F'.keep) fun h4 tk4 t4 kp4=>?_
  rw [<- hky,hzk];exact KskEnd.intro (F'.kept kp4) (N'.grown kp4) fun p hp=>hp
 case done=>
  intro D h3 tk3 out c3 F3 N3 l1 ko (ht3:0 < tk3);obtain ⟨xs',hd,rv'⟩:=xl rv ko;have nD:=N3 (D,seqObj "list" out c3) (.head _);have hDn:(h'.push fo).get? D=none:=by
   cases q:(h'.push fo).get? D with
   | none=>rfl
   | some o=>exact absurd (l1 (D,o) (lh nD.2.1 nD.2.2 q)) (Nat.lt_irrefl _)
  have hH2:H2 D=none:=by
   cases q:H2 D with
   | none=>rfl
   | some u=>
    obtain ⟨o,e⟩:=(I2.hok D u q).there;rw [show ({ s1 with heap:=h'.push fo,toks:=tk }:Shared).heap.get? D=none from hDn] at e;cases e
  have hlx:xs'.length<=sizeLine:=by rw [hd.1.length_eq,sizeLine_eq]; lia
  have I3:=I2.laidFr (a:=D) (o:=.lst xs') (m:=m) (h':=h3) (t':=tk3) F.ns F3.ns (kept2 (own:=[]) F3 (fun p hp=>N3 p (by rw [List.append_nil] at hp; exact .tail _ hp))) hDn hH2 ⟨hlx,out.toList,c3,rv',by simpa using nD.1⟩ ht3;exact ⟨.ref D,_,I3,rfl,a5 D _ xs' (hs.free hH2) (hs.trans (ah hH2 _)) upd_same hd⟩
theorem sw {K:Frag} {P c:Addr} {te:TE} {x y:Str} {py:Pos} {params:Arguments} {scope:Scope} {k j j2:Nat} {p pos p1 p2 p3 p4 p5 lp kp rp p6:Pos} (hK:X.K=K) (hr:Room k X.A) (hg:Gl X "sorted") (hm:X.mg "sorted" = none) (hml:X.mg "len" = none)
  (hcode:X.env.code=.ref c) (hL:LamAt K X.mg c P) (he:PE X (.Name y py) te)
  (hk:scope.kind=.function) (hco:scope.isCoroutine=false) (hgen:scope.isGenerator=false) (hcell:∀ x ∈ scope.names,x.2≠.cell)
  (hx:scope.names.lookup x=some .local) (hlen:scope.names.lookup ("len" : Str)=some .globalImplicit) (hxd:(x == ("__debug__" : Str))=false)
  (hdef:defaultsOf params X.env=([],[])) (hcl:closureFor scope X.env=pure [])
  (hbind:∀ (qual:Str) (body:Expr) (pm cv ctv u:Value),bindArgs (PySem.W.kla_fn "<lambda>" qual params body scope [] pm cv ctv) ⟨[u],[]⟩=pure [(x,u)]) (hq:X.env.qual++Str.ofString "<lambda>" = lamQ:=by rfl):
  PE X (.Call (.Name "sorted" p) [.Name y py] [{ arg:=some "key",value:=.Lambda params (.Call (.Name "len" p1) [.Subscript (.Name x p2) (.Constant (.int 0) j p3) p4] [] p5) scope lp,pos:=kp },
   { arg:=some "reverse",value:=.Constant (.bool true) j2 p6,pos:=rp }] pos) (cSortLen K P te):=by
 subst hK;intro pins s σ H Q I h;refine wpAny_Call_Name_kw (gW I hg hm iX ?_ (by decide) (by decide));refine callWith_kw (e:=.Name y py) (rest:=[]) ?_;refine Calls.spliced_cons (thn (he pins s σ H _ I h) fun u s1 ⟨v,H1,I1,r1,q1⟩=>Calls.spliced_nil ?_)
 match v,r1,q1 with
 | .ref l,rfl,⟨xs,key,a1,a2,a3,a4,a5⟩=>
  have kin:=I1.kIn;have hgP:mainGlobals≠P:=fun z=>by
   obtain ⟨o,es,ep,e1,_⟩:=I1.mod.glob;have:=(I1.bs _ _ e1).2;rw [z,a4] at this; cases this
  have hb:s1.heap.BuiltinsAt X.mg P:=by
   obtain ⟨b,sl,b1,b2,b3,b4⟩:=hL.bm;refine ⟨b,_,b1,b2,b3,fun z=>?_,kin _ _ b4,rfl,rfl,rfl⟩;have:=(I1.bs _ _ (I1.ok.mod.kin _ _ b4)).2;rw [z,a4] at this; cases this
  obtain ⟨ps,hP,t1,t2⟩:=I1.hok P _ a4;rw [Array.empty_append] at hP t1 t2;have hP:s1.heap.get? P=some (PySem.W.tabObj ps):=hP;have hLs:X.env.locals < s1.heap.objs.size:=I1.lt;have neP:∀ {b:Addr} {o:Obj},s1.heap.get? b=some o->o.cls≠.none->b≠P:=fun {b o} e hc z=>by rw [z,hP] at e; cases e; exact hc rfl
  cases hca:codeAmong lp ps.toList with
  | none=>
   refine evalAll_cons (wpAny_bind (tokQ I1.tk (PySem.W.kla_eval hdef (PySem.W.kla_makeFunction hcl I1.ok.glob (I1.mod.glob.keeps I1.bk) hcode (hL.hd kin) hP t1 hca hgP hb fun c' ctv h' tk hx1 hge hlt hrec htb (htk:0 < tk)=>wpAny_bind (wpAny_standAt (wpAny_pure ?_))))));refine evalAll_cons (wpAny_bind (Constant_bool (wpAny_bind (wpAny_standAt (wpAny_pure (evalAll_nil ?_))))));generalize hfo:PySem.W.kla_obj (Str.ofString "<lambda>") (X.env.qual++Str.ofString "<lambda>") params
       ((Expr.Name (Str.ofString "len") p1).Call [(Expr.Name x p2).Subscript (Expr.Constant (Const.int 0) j p3) p4] [] p5) scope [] ((X.mg (Str.ofString "__name__")).getD Value.none) c' ctv=fo
   have kp2:∀ b u,b≠P->s1.heap.get? b=some u->(h'.push fo).get? b=some u:=fun b u hb e=>Heap.get?_push_of_some _ (hx1 b u hb e)
   obtain ⟨c2,oc,ws,tq,e2,hoc,hrest⟩:=id hrec;cases e2;have hn:H1 c'=none:=I1.hok.fresh hge;have I2:=I1.tabled (h':=h'.push fo) (t':=tk) (ps:=#[]) (more:=ps++#[rawInt lp.line,rawInt lp.col,.ref c']) a4 kp2 hge ⟨_,Heap.get?_push_of_some _ hoc⟩ (by rw [Array.empty_append]; exact Heap.get?_push_of_some _ htb) (by
    rw [Array.empty_append];refine ⟨by rw [Array.toList_append]; exact qt _ t1,fun pos cv q=>?_⟩;rw [Array.toList_append] at q;rcases tI _ t1 q with q | q
    ·obtain ⟨c3,z1,z2,z3,o3,vs3,tt3,z4,z5,z6⟩:=t2 pos cv q;cases z4;exact ⟨c3,z1,by rw [ao (aX z2 hn)]; exact z2,c3,o3,vs3,tt3,rfl,kp2 _ _ (fun z=>by rw [z,a4] at z2; cases z2) z5,z6⟩
    ·exact ⟨c',q,upd_same,by rw [<- hq]; exact ⟨c',oc,ws,tq,rfl,Heap.get?_push_of_some _ hoc,hrest⟩⟩) htk
   exact mP hr hml hk hco hgen hcell hx hlen hxd hbind I1 (ah hn _) a1 a2 a3 neP hfo (Nat.le_of_lt (Nat.lt_of_le_of_lt hge hlt)) (Nat.ne_of_gt (Nat.lt_of_lt_of_le hLs hge)) hrec kp2 htk I2 a5
  | some cv=>
   obtain ⟨c',rfl,z2,hrec⟩:=t2 _ _ hca;refine evalAll_cons (wpAny_bind (tokQ I1.tk (PySem.W.kla_eval hdef (PySem.W.kla_makeFunctionHit hcl I1.ok.glob (I1.mod.glob.keeps I1.bk) hcode (hL.hd kin) hP t1 hca hb fun ctv h' tk hx1 hge (htk:0 < tk)=>wpAny_bind (wpAny_standAt (wpAny_pure ?_))))));refine evalAll_cons (wpAny_bind (Constant_bool (wpAny_bind (wpAny_standAt (wpAny_pure (evalAll_nil ?_))))));have kp2:∀ (fo:Obj) b u,s1.heap.get? b=some u->(h'.push fo).get? b=some u:=fun fo b u e=>Heap.get?_push_of_some _ (hx1 b u e)
   obtain ⟨c2,oc,ws,tq,e2,hoc,hrest⟩:=hrec;cases e2;exact mP hr hml hk hco hgen hcell hx hlen hxd hbind I1 (Same.refl _) a1 a2 a3 neP rfl hge (fun z=>by rw [z,I1.free] at z2; cases z2) ⟨c',oc,ws,tq,rfl,hx1 _ _ hoc,by rw [hq]; exact hrest⟩ (fun b u _=>kp2 _ b u) htk (I1.kept (kp2 _)) a5
end
noncomputable def isTab (o:Obj):Bool:=match o.cls,o.data with
 | .none,.fields vs=>vs.isEmpty
 | _,_=>false
noncomputable def cut (K:Frag):Frag:=K.filter fun p=>!isTab p.2
theorem cut_lookup:∀ {K:Frag} {a:Addr} {o:Obj},K.lookup a=some o->isTab o=false->(cut K).lookup a=some o
 | [],_,_,e,_=>by cases e
 | (b,x)::K,a,o,e,h=>by
  unfold cut;rw [List.lookup_cons] at e;rw [List.filter_cons];cases hb:a == b with
  | true=>
   rw [hb] at e;cases e;rw [if_pos (by simp [h]),List.lookup_cons,hb]
  | false=>
   rw [hb] at e;have:=cut_lookup e h;by_cases hx:(!isTab x)=true
   ·rw [if_pos hx,List.lookup_cons,hb]; exact this
   ·rw [if_neg hx]; exact this
theorem uu {K:Frag} {a:Addr} {o:Obj} (e:(cut K).lookup a=some o):(a,o) ∈ K/\isTab o=false:=by
 have:=List.mem_filter.mp (PySem.W.mem_of_lookupK e);exact ⟨this.1,by simpa using this.2⟩
theorem cut_ns {K:Frag} {n:Addr} {x:Str} {r:Option Value} (h:nsIn K n x=some r):nsIn (cut K) n x=some r:=by
 unfold nsIn at h ⊢;cases q:K.lookup n with
 | none=>rw [q] at h; cases h
 | some o=>
  rw [q] at h;obtain ⟨cl,od,da,sl⟩:=o;cases da with
  | dict es ep=>rw [cut_lookup q (by unfold isTab; cases cl <;> rfl)]; exact h
  | _=>cases h
theorem cut_code {K:Frag} {cd:Value} {q:Str} (h:codeIn K cd q=true):codeIn (cut K) cd q=true:=by
 unfold codeIn at h ⊢;cases cd with
 | ref c=>
  cases e:K.lookup c with
  | none=>simp only [e] at h; cases h
  | some o=>
   obtain ⟨cl,od,da,sl⟩:=o;cases da with
   | fields vs=>
    simp only [e] at h;have hv:isTab ⟨cl,od,.fields vs,sl⟩=false:=by
     unfold isTab;cases cl <;> try rfl
     show vs.isEmpty=false;cases z:vs.isEmpty with
     | false=>rfl
     | true=>
      have:vs=#[]:=by simpa using z
      rw [this] at h;simp at h
    simp only [cut_lookup e hv]; exact h
   | _=>simp only [e] at h; cases h
 | _=>cases h
theorem cut_keep {K:Frag} {f:Addr} {cl:Value} {od:Option Addr} {fd:FuncData} {sl:Array (Option Value)} (h:(cut K).lookup f=some ⟨cl,od,.func fd,sl⟩):keepIn (cut K) (.ref f)=true:=by
 unfold keepIn;simp only [h]
theorem cut_tab {K:Frag} {x:Str} {c P:Addr} (h:PySem.W.tabIn K x=some (c,P)):PySem.W.tabIn (cut K) x=some (c,P):=by
 unfold PySem.W.tabIn at h ⊢;split at h
 ·rename_i f hf;simp only [cut_ns hf];split at h
  ·rename_i hfo;simp only [cut_lookup hfo (by unfold isTab; split <;> first | rfl | (rename_i q; cases q))];split at h
   ·rename_i c₂ hc;split at h
    ·rename_i vs _ hco;split at h
     ·rename_i P₂ hv;have hn:∀ cl od sl,isTab ⟨cl,od,.fields vs,sl⟩=false:=fun cl od sl=>by
       unfold isTab;cases cl <;> try rfl
       show vs.isEmpty=false;cases z:vs.isEmpty with
       | false=>rfl
       | true=>
        have z:vs=#[]:=by simpa using z
        rw [z] at hv;cases hv
      simp only [cut_lookup hco (hn _ _ _),hv];exact h
     ·cases h
    ·cases h
   ·cases h
  ·cases h
 ·cases h
structure LamFn (K:Frag) (mg:Str->Option Value) (x:Str) (c P:Addr):Prop where
 tb:PySem.W.tabIn K x=some (c,P)
 cd:∀ f fd oc od sl,mg x=some (.ref f)->K.lookup f=some ⟨oc,od,.func fd,sl⟩->fd.code=.ref c
 lam:LamAt K mg c P
theorem wo {K:Frag} {h:Heap} {mg:Str->Option Value} {x:Str} {c P b:Addr} {od:Option Addr} {vs:Array Value} {sl sl2:Array (Option Value)} {file:Str} {tf tg tt:Tok} {flags text:Int} {inF:Bool} (X:K.In h) (G:h.Ns mainGlobals mg)
  (tb:PySem.W.tabIn K x=some (c,P)) (e1:K.lookup c=some ⟨.type "code",od,.fields vs,sl⟩) (e2:vs[11]? = some (.ref P)) (e4:vs.getD 18 .none=.str file tf) (e5:vs.getD 7 .none=.int flags tg) (e6:vs.getD 9 .none=.bool inF) (e7:vs.getD 10 .none=.int text tt) (ne:c≠P)
  (b1:nsIn K mainGlobals "__builtins__" = some (some (.ref b))) (b2:b≠builtinsNs) (b3:b≠mainGlobals) (b4:K.lookup b=some ⟨.type "module",some builtinsNs,.plain,sl2⟩):LamFn K mg x c P where
 tb:=tb
 cd:=fun f fd oc od sl hm ho=>PySem.W.law_code X G tb hm (X _ _ ho) rfl
 lam:=⟨⟨od,vs,sl,file,tf,flags,tg,inF,text,tt,e1,e2,by
   have:vs.getD 11 .none=(vs[11]?).getD .none:=by simp [Array.getD_eq_getD_getElem?]
   rw [this,e2]; rfl,e4,e5,e6,e7⟩,ne,b,sl2,mg_of X G b1,b2,b3,b4⟩
theorem Fn.calC {P:Program} {w:World} {K:Frag} {mg:Str->Option Value} {base:Heap} {x:Str} {st:Stmt} {N ps:List Str} {k:Nat} {sp:Sp} {c P':Addr} (F:Fn K mg x st) (L:LamFn K mg x c P') (S:FnScope N ps (defScope st)) (len:∀ vs H Q E,sp vs H Q E->vs.length=ps.length)
  (hb:∀ (kV doc pm:Value) (an:Option Addr) (cdv ct:Value) (us:List Value),us.length=ps.length->bindArgs (fnOf x x (defArgs st) (defBody st) (defScope st) .none kV doc pm an cdv ct) ⟨us,[]⟩=pure (ps.zip us))
  (hbody:∀ (f:Addr) (A:Around) (outer:List Env) (s:Shared) (H:Hp) (vs:List V) (Q:VK) (E:XK),Room k (A.deeper (envOfC x (defScope st) s.heap.objs.size f (.ref c)))->sp vs H Q E ->
   ∃ t,PSs (cxOf CX0 P w K mg base N x (defScope st) f (.ref c) A outer s H E).nox (defBody st) t/\t { nx:=fun _ H'=>Q .non H',rt:=Q } (start N vs) H):Callee P w K mg base (k+1) x ps sp:=by
 obtain ⟨f,fd,F,m⟩:=F;obtain ⟨oc,od,kV,doc,pm,an,cdv,ct,osl,rfl,lk,hcd⟩:=id F.ex;have hc:cdv=.ref c:=L.cd f _ _ _ _ m lk;subst hc;refine ⟨f,_,qT lk hcd S len fun A outer s H vs Q E hr hsp=>?_,F.binds hb,F.kp,m⟩;obtain ⟨t,h,q⟩:=hbody f A outer s H vs Q E hr hsp;exact ⟨t,h.nox,q⟩
theorem uO {P:Program} {w:World} {K:Frag} {mg mb:Str->Option Value} {CX:CXT} {k:Nat} {fa a c T:Addr} {fd:FuncData} {x:Str} {sp:Sp} {s₁:Shared} {vs:List Value} {ns:List Int}
  (KX:K.In s₁.heap) (hns:s₁.heap.Ns mainGlobals mg) (hb:s₁.heap.Ns builtinsNs mb) (hbb:∀ x:Str,x ≠ "__name__" -> mb x=bootBuiltins x) (hlim:s₁.heap.NoLimit) (hg:s₁.gens=#[]) (htk:0 < s₁.toks)
  (ha:s₁.heap.get? a=some { cls:=.type "list",data:=.seq vs.toArray }) (hi:IntsAre vs ns) (hl:ns.length<=sizeLine) (hr:Room k callerA)
  (hT:s₁.heap.get? T=some (PySem.W.tabObj #[])) (hC:PySem.W.CodeHd s₁.heap c T) (hKT:K.lookup T=none)
  (F:∀ base:Heap,K.In base->base.Ns mainGlobals mg->FnOk P w K mg base CX k fa fd [x] sp) (hbind:∀ (s:Shared) (u:Value),BindsTo s fd ⟨[u],[]⟩ [(x,u)])
  (hsp:∀ H:Hp,H T=some (.tbl #[])->SqL K H a (ns.map V.int)->sp [.ref a] H (fun v _=>v=.bl true) fun _ _ _=>False)
  (hCX:∀ H e s',CX [] H s₁ (fun _ _ _=>False) e s'->False):
  codeAny (model P w) callerA (.call (.ref fa) ⟨[.ref a],[]⟩) (fun r s'=>r=.ok (.ret (.bool true))/\OldK s₁.heap s'.heap/\s'.os=s₁.os/\AllBare s'.gens) s₁:=by
 have rv:=oO hi;have lenV:=hi.length;have haT:a≠T:=fun z=>by rw [z,hT] at ha; cases ha
 have core:∀ H:Hp,(∀ b,H b=none\/b=T\/(b=a/\∃ o xs,H b=some (.frz o (.lst xs))))->H T=some (.tbl #[])->SqL K H a (ns.map V.int)->HOk P w H s₁.heap->(H a≠none->K.lookup a=none) ->
   codeAny (model P w) callerA (.call (.ref fa) ⟨[.ref a],[]⟩) (fun r s'=>r=.ok (.ret (.bool true))/\OldK s₁.heap s'.heap/\s'.os=s₁.os/\AllBare s'.gens) s₁:=by
  intro H hO hHT hS hok hK;have base_of:∀ {b:Addr} {o:Obj},s₁.heap.get? b=some o->H b=none->(hidT s₁.heap H).get? b=some o:=fun e n=>w6 e n
  have noA:∀ {b:Addr} {o:Obj} {es:Array DictEntry} {ep:Nat},s₁.heap.get? b=some o->o.data=.dict es ep->H b=none:=fun {b o es ep} e d=>by
   rcases hO b with z | z | ⟨z,_⟩
   ·exact z
   ·rw [z,hT] at e; cases e; cases d
   ·rw [z,ha] at e; cases e; cases d
  have nsK:∀ {b:Addr} {m:Str->Option Value},s₁.heap.Ns b m->(hidT s₁.heap H).Ns b m:=fun {b m} ⟨o,es,ep,e,d,r⟩=>⟨o,es,ep,base_of e (noA e d),d,r⟩
  have hKb:K.In (hidT s₁.heap H):=fun b o e=>base_of (KX b o e) (by
   rcases hO b with z | z | ⟨z,o',xs,q⟩
   ·exact z
   ·rw [z,hKT] at e; cases e
   ·rw [z] at e q;rw [hK (by rw [q]; simp)] at e; cases e)
  have hM:Mod K mg (hidT s₁.heap H):=⟨hKb,nsK hns,⟨mb,nsK hb,hbb⟩,let ⟨mc,h1,h2⟩:=hlim; ⟨mc,nsK h1,h2⟩⟩;have e0:Env0 P w K mg (hidT s₁.heap H) callerA [] s₁ H:=⟨rfl,hM,fun b o e=>z8 e,Nat.le_of_eq (uI _ _),trivial,fun b hb=>absurd (show b ∈ ([]:List Addr) from hb) (by simp),hok,.of_eq hg,htk⟩;refine codeAny_mono ((F _ hKb (nsK hns)).run callerA [] s₁ H ⟨[.ref a],[]⟩ [.ref a] [.ref a] _ _ hr e0 (hbind s₁ (.ref a)) (.cons rfl .nil) (hsp H hHT hS)) fun r s' h=>?_
  cases r with
  | error e=>exact (hCX H e s' h).elim
  | ok fl=>
   cases fl with
   | next=>exact False.elim h
   | brk=>exact False.elim h
   | cont=>exact False.elim h
   | ret u=>
    obtain ⟨v,H',_,os,bare,un,hok',r',q⟩:=h;have q':v=.bl true:=q;subst q';obtain rfl:u=Value.bool true:=r';have kept:∀ b o,b≠T->s₁.heap.get? b=some o->s'.heap.get? b=some o:=fun b o hbT e=>by
     rcases hO b with z | z | ⟨z,ob,xs,z1⟩
     ·exact un.keep b o e z (by intro z; exact absurd (show b ∈ ([]:List Addr) from z) (by simp)) (by simp)
     ·exact absurd z hbT
     ·have z2:=un.frzs b ob _ z1;obtain ⟨e1,_⟩:=hok b _ z1;obtain ⟨e2,_⟩:=hok' b _ z2;rw [e] at e1; cases e1;exact e2
    obtain ⟨more,hm⟩:=un.tbls T #[] hHT;obtain ⟨more2,hT2,_⟩:=hok' T _ hm;have hT':s'.heap.get? T=some (PySem.W.tabObj (#[]++(more++more2))):=by rw [<- Array.append_assoc]; exact hT2
    refine ⟨rfl,⟨fun b o e=>?_,fun b o e=>?_⟩,os,bare⟩
    ·by_cases hbT:b=T
     ·subst hbT;rw [hT] at e;cases e;exact .inr (.inl ⟨(hC.tab hT).isCodeTable,rfl,#[],more++more2,rfl,hT'⟩)
     ·exact .inl (kept b o hbT e)
    ·by_cases hbT:b=T
     ·exact ⟨_,by rw [hbT]; exact hT'⟩
     ·exact ⟨o,kept b o hbT e⟩
 have okT:∀ H:Hp,ObjOk P w H s₁.heap T (.tbl #[]):=fun H=>⟨#[],hT,True.intro,fun pos cv q=>by cases q⟩
 cases hk:K.lookup a with
 | some o=>
  have e:=KX a o hk;rw [ha] at e;cases e;refine core (fun b=>if b=T then some (.tbl #[]) else none) (fun b=>?_) (if_pos rfl) (.inr ⟨_,vs.toArray,_,hk,rfl,rfl,rfl,by rw [List.size_toArray,lenV]; exact hl,by simpa using rv⟩) (fun b u z=>?_) fun z=>absurd (if_neg haT) z
  ·by_cases hb:b=T
   ·exact .inr (.inl hb)
   ·exact .inl (if_neg hb)
  ·by_cases hb:b=T
   ·have z':=(if_pos hb).symm.trans z;cases z';subst hb;exact okT _
   ·have z':=(if_neg hb).symm.trans z;cases z'
 | none=>
  refine core (fun b=>if b=T then some (.tbl #[]) else if b=a then some (.frz { cls:=.type "list",data:=.seq vs.toArray } (.lst (ns.map V.int))) else none) (fun b=>?_) (if_pos rfl) (.inl (.inr ⟨{ cls:=.type "list",data:=.seq vs.toArray },?_⟩)) (fun b u z=>?_) fun _=>hk
  ·by_cases hb:b=T
   ·exact .inr (.inl hb)
   ·by_cases hba:b=a
    ·exact .inr (.inr ⟨hba,_,_,by rw [if_neg hb,if_pos hba]⟩)
    ·exact .inl (by rw [if_neg hb,if_neg hba])
  ·show (if a=T then _ else _)=_;rw [if_neg haT,if_pos rfl]
  ·by_cases hb:b=T
   ·have z':=(if_pos hb).symm.trans z;cases z';subst hb;exact okT _
   ·have z:=(if_neg hb).symm.trans z;by_cases hba:b=a
    ·have z':=(if_pos hba).symm.trans z;cases z';subst hba;exact ⟨ha,by rw [List.length_map]; exact hl,vs,_,rv,ha⟩
    ·have z':=(if_neg hba).symm.trans z;cases z'
theorem walk_ofXT {l:PySem.W.OpenLaw} {n k:Nat} {q:Program} {loose:List Str} {XP:(Str->Option Value)->Heap->Prop} {α:Type} {Yf:Shared->α} {Ya:World->α} {d:DefRec} {K:Params->Frag} {c T:Addr} {CX:World->CXT} {sp:World->Sp} {x:Str}
  (hn:l.most=some n) (hn2:n<=sizeLine) (hdf:d.params.defaults=[]) (hr:Room k callerA)
  (hY:∀ (w:World) (s:Shared),Yf s=Ya w->(K w.params).In s.heap/\0 < s.toks/\s.heap.get? T=some (PySem.W.tabObj #[])/\PySem.W.CodeHd s.heap c T/\(K w.params).lookup T=none)
  (F:∀ (w:World) (mg:Str->Option Value) (fa:Addr) (h:Heap),(K w.params).In h->h.Ns mainGlobals mg->mg d.name=some (.ref fa) ->
   ∃ fd:FuncData,(∀ (s:Shared) (u:Value),BindsTo s fd ⟨[u],[]⟩ [(x,u)]) /\
    ∀ base:Heap,(K w.params).In base->base.Ns mainGlobals mg->FnOk l.prog w (K w.params) mg base (CX w) k fa fd [x] (sp w))
  (hsp:∀ (w:World) (H:Hp) (a:Addr) (ns:List Int),ns.length<=n->H T=some (.tbl #[])->SqL (K w.params) H a (ns.map V.int)->sp w [.ref a] H (fun v _=>v=.bl true) fun _ _ _=>False)
  (hCX:∀ (w:World) (H:Hp) (s:Shared) (e:Value) (s':Shared),CX w [] H s (fun _ _ _=>False) e s'->False):
  PySem.W.WalkX q loose XP Yf Ya l.row.toRowW d [] (fun f vs=>PySem.call f vs):=by
 refine qC hn hdf fun w s₀ s₁ mg mb fa a vs ns G Y kp ht hmg hobj hints hlen hg=>?_
 obtain ⟨K0,t0,eT,eC,eK⟩:=hY w s₀ Y;have KX:(K w.params).In s₁.heap:=fun b o e=>kp b o (K0 b o e)
 obtain ⟨fd,hb,hF⟩:=F w mg fa _ KX G.T.g hmg;exact uO KX G.T.g G.T.b G.T.builtins G.T.nolimit hg (Nat.lt_of_lt_of_le t0 ht) hobj hints (Nat.le_trans hlen hn2) hr (kp _ _ eT) (eC.keeps kp) eK hF hb (fun H hO hS=>hsp w H a ns hlen hO hS) fun H e s'=>hCX w H s₁ e s'
theorem pI {h:Heap}:∀ {K:Frag},PySem.W.X.AllIn h K->∀ p ∈ K,h.get? p.1=some p.2
 | [],_,p,hp=>absurd hp List.not_mem_nil
 | q::K,al,p,hp=>by
  rcases List.mem_cons.mp hp with e | hp
  ·rw [e]; exact al.1
  ·exact pI al.2 p hp
theorem BF {K:Params->Frag} {as:List Addr} {n t:Nat} {w:World} {s:Shared} {c T:Addr} {od:Option Addr} {vs:Array Value} {sl:Array (Option Value)} {file:Str} {tf tg tt:Tok} {flags text:Int} {inF:Bool} (y:PySem.W.X.obsZ as s=PySem.W.X.valZ K n t w) (e:∀ P,as=(K P).map (·.1)) (ht:0 < t)
  (e1:(K w.params).lookup c=some ⟨.type "code",od,.fields vs,sl⟩) (e2:vs[11]? = some (.ref T)) (e4:vs.getD 18 .none=.str file tf) (e5:vs.getD 7 .none=.int flags tg) (e6:vs.getD 9 .none=.bool inF) (e7:vs.getD 10 .none=.int text tt) (ne:c≠T)
  (eT:(K w.params).lookup T=some (PySem.W.tabObj #[])):
  (cut (K w.params)).In s.heap/\0 < s.toks/\s.heap.get? T=some (PySem.W.tabObj #[])/\PySem.W.CodeHd s.heap c T/\(cut (K w.params)).lookup T=none:=by
 obtain ⟨al,h,_,q⟩:=PySem.W.X.z_facts e y;have mem:∀ p ∈ K w.params,s.heap.get? p.1=some p.2:=pI al;refine ⟨fun a o z=>mem _ (uu z).1,by rw [q]; exact ht,h _ _ eT,⟨_,vs,file,tf,flags,tg,inF,text,tt,h _ _ e1,rfl,rfl,e2,by
   have:vs.getD 11 .none=(vs[11]?).getD .none:=by simp [Array.getD_eq_getD_getElem?]
   rw [this,e2]; rfl,e4,e5,e6,e7,ne⟩,?_⟩
 cases z:(cut (K w.params)).lookup T with
 | none=>rfl
 | some o=>
  have z1:=uu z;have z2:=mem _ z1.1;rw [h _ _ eT] at z2;cases z2;exact absurd z1.2 (by decide)
section
variable {X:Cx}
theorem sR {K:Frag} {P:Addr} {te:TE} {σ:St} {H:Hp} {Q:VK}:cSortLen K P te σ H Q=te σ H fun v H1=>match v with
 | .ref p=>∃ (xs:List V) (key:V->Nat),SqL K H1 p xs/\xs.length < 64/\(∀ x ∈ xs,∃ r y rest,x=.ref r/\SqT K H1 r (.str y::rest)/\y.length<=sizeLine/\key x=y.length)/\H1 P=some (.tbl #[]) /\
   ∀ q H' xs',H1 q=none->Same H1 H'->H' q=some (.lst xs')->Desc key xs xs'->Q (.ref q) H'
 | _=>False:=rfl
end
structure LamOk (K:Frag) (x:Str) (c T:Addr):Prop where
 tb:PySem.W.tabIn K x=some (c,T)
 code:∃ od vs sl file tf flags tg inF text tt,K.lookup c=some ⟨.type "code",od,.fields vs,sl⟩/\vs[11]? = some (.ref T)/\vs.getD 18 .none=.str file tf/\vs.getD 7 .none=.int flags tg/\vs.getD 9 .none=.bool inF/\vs.getD 10 .none=.int text tt
 ne:c≠T
 bm:∃ b sl,nsIn K mainGlobals "__builtins__" = some (some (.ref b))/\b≠builtinsNs/\b≠mainGlobals/\K.lookup b=some ⟨.type "module",some builtinsNs,.plain,sl⟩
 tab:K.lookup T=some (PySem.W.tabObj #[])
theorem lamok_mk {K:Frag} {x:Str} {c T b f:Addr} {od od1:Option Addr} {oc:Value} {fd:FuncData} {vs:Array Value} {sl sl1 sl2:Array (Option Value)} {file:Str} {tf tg tt:Tok} {flags text:Int} {inF:Bool}
  (a:nsIn K mainGlobals x=some (some (.ref f))) (l:K.lookup f=some ⟨oc,od1,.func fd,sl1⟩) (hc:fd.code=.ref c) (e1:K.lookup c=some ⟨.type "code",od,.fields vs,sl⟩) (e2:vs[11]? = some (.ref T)) (e4:vs.getD 18 .none=.str file tf) (e5:vs.getD 7 .none=.int flags tg) (e6:vs.getD 9 .none=.bool inF) (e7:vs.getD 10 .none=.int text tt) (ne:c≠T)
  (b1:nsIn K mainGlobals "__builtins__" = some (some (.ref b))) (b2:b≠builtinsNs) (b3:b≠mainGlobals) (b4:K.lookup b=some ⟨.type "module",some builtinsNs,.plain,sl2⟩) (eT:K.lookup T=some (PySem.W.tabObj #[])):LamOk K x c T:=
 ⟨by unfold PySem.W.tabIn; simp only [a,l,hc,e1,e2],⟨od,vs,sl,file,tf,flags,tg,inF,text,tt,e1,e2,e4,e5,e6,e7⟩,ne,⟨b,sl2,b1,b2,b3,b4⟩,eT⟩
theorem LamOk.zz {K:Params->Frag} {x:Str} {as:List Addr} {n t:Nat} {w:World} {s:Shared} {c T:Addr} (L:LamOk (K w.params) x c T) (y:PySem.W.X.obsZ as s=PySem.W.X.valZ K n t w) (e:∀ P,as=(K P).map (·.1)) (ht:0 < t):
  (cut (K w.params)).In s.heap/\0 < s.toks/\s.heap.get? T=some (PySem.W.tabObj #[])/\PySem.W.CodeHd s.heap c T/\(cut (K w.params)).lookup T=none:=by
 obtain ⟨od,vs,sl,file,tf,flags,tg,inF,text,tt,e1,e2,e4,e5,e6,e7⟩:=L.code;exact BF y e ht e1 e2 e4 e5 e6 e7 L.ne L.tab
theorem qr {o:Obj} (h:o.cls≠.none):isTab o=false:=by
 unfold isTab;split
 ·rename_i a b; exact absurd a h
 ·rfl
theorem LamOk.fn {K:Frag} {x:Str} {c T:Addr} {h:Heap} {mg:Str->Option Value} (L:LamOk K x c T) (X:(cut K).In h) (G:h.Ns mainGlobals mg):LamFn (cut K) mg x c T:=by
 obtain ⟨od,vs,sl,file,tf,flags,tg,inF,text,tt,e1,e2,e4,e5,e6,e7⟩:=L.code;obtain ⟨b,sl2,b1,b2,b3,b4⟩:=L.bm;exact wo X G (cut_tab L.tb) (cut_lookup e1 (qr (by nofun))) e2 e4 e5 e6 e7 L.ne (cut_ns b1) b2 b3 (cut_lookup b4 (qr (by nofun)))
theorem cut_keepF {K:Frag} {f:Addr} (h:PySem.W.fnIn K f=true):keepIn (cut K) (.ref f)=true:=by
 unfold PySem.W.fnIn at h;split at h
 ·rename_i fd _ e;exact cut_keep (cut_lookup e (by unfold isTab; split <;> first | rfl | (rename_i q; cases q)))
 ·cases h
section
variable {X:Cx}
end
structure ClsT (K:Frag) (mg:Str->Option Value) (x:Str):Prop where
 m:mg x=some (.ref (xA K x))
 c:Cls K (xA K x)
def MethT (K:Frag) (x m qual:Str) (st:Stmt):Prop:=∃ f fd,Meth K (xA K x) m f/\Fun K m qual st f fd
def MkT (K:Frag) (x qual:Str) (st:Stmt):Prop:=∃ f fd,Mk K (xA K x) f/\Fun K "__init__" qual st f fd
def MCal (P:Program) (w:World) (K:Frag) (mg:Str->Option Value) (base:Heap) (k:Nat) (x m:Str) (ps:List Str) (sp:Sp):Prop:=
 ∃ f fd,FnOk P w K mg base CX0 k f fd ps sp/\Binds K fd ps []/\Meth K (xA K x) m f
theorem MethT.cal {P:Program} {w:World} {K:Frag} {mg:Str->Option Value} {base:Heap} {x m qual:Str} {st:Stmt} {N ps:List Str} {k:Nat} {sp:Sp} (F:MethT K x m qual st) (S:FnScope N ps (defScope st)) (len:∀ vs H Q E,sp vs H Q E->vs.length=ps.length)
  (hb:∀ (kV doc pm:Value) (an:Option Addr) (cdv ct:Value) (us:List Value),us.length=ps.length->bindArgs (fnOf m qual (defArgs st) (defBody st) (defScope st) .none kV doc pm an cdv ct) ⟨us,[]⟩=pure (ps.zip us))
  (hbody:∀ (f:Addr) (cdv:Value) (A:Around) (outer:List Env) (s:Shared) (H:Hp) (vs:List V) (Q:VK) (E:XK),Room k (A.deeper (envOfC qual (defScope st) s.heap.objs.size f cdv))->sp vs H Q E ->
   ∃ t,PSs (cxOf CX0 P w K mg base N qual (defScope st) f cdv A outer s H E).nox (defBody st) t/\t { nx:=fun _ H'=>Q .non H',rt:=Q } (start N vs) H):MCal P w K mg base (k+1) x m ps sp:=by
 obtain ⟨f,fd,M,F⟩:=F;exact ⟨f,fd,F.ok S len (hbody f),F.binds hb,M⟩
section
variable {X:Cx} {k:Nat} {x m:Str} {ps:List Str} {sp:Sp} {p pos apos:Pos} {e o:Expr} {es:List Expr} {ta:TE} {t:TA}
theorem lZ {pl:Sem Bool} (C:ClsT X.K X.mg x) (M:MCal X.prog X.w X.K X.mg X.base k x m ps sp) (hr:Room k X.A) (he:PE X o ta) (ha:PA X (e::es) t)
  (hst:starEach (e::es) X.env=(false,eval e X.env)::starEach es X.env:=by rfl) (hpl:(backTo pos (starEach es X.env)).any (·.1)=false:=by rfl)
  (ht:eval (.Call (.Attribute o m apos) (e::es) [] pos) X.env=(do
   let ov <- eval o X.env
   standAt apos.atName
   let (f,first) <- holding [ov] (getMethod ov m pl)
   callWith pos f first (backTo pos (starEach (e::es) X.env)) (backToKw pos (keywordEach [] X.env))):=by rfl):
  PE X (.Call (.Attribute o m apos) (e::es) [] pos) (tMeth (xA X.K x) m sp [] E0 ta t):=by
 obtain ⟨f,fd,F,b,M⟩:=M;exact yE (pl:=pl) he C.c M F hr b .nil pass0 ha hst hpl ht
theorem zI {C:Addr} {E:XK} {dvs:List V} {σ:St} {H:Hp} {Q:VK}:tMeth C m sp dvs E ta t σ H Q=ta σ H fun x H1=>∃ a dx fs,x=.ref a/\H1 a=some (.ins C dx fs)/\fs.lookup m=none/\t σ H1 fun vs H2=>sp (x::(vs++dvs)) H2 Q E:=rfl
theorem yT {C:Addr} {E:XK} {dvs:List V} {σ:St} {H:Hp} {Q:VK}:tMake C sp dvs E t σ H Q=t σ H fun vs H1=>∀ x dx,H1 x=none->H1 dx=none->dx≠x->sp (.ref x::(vs++dvs)) (upd (upd H1 dx (.own x)) x (.ins C dx [])) (fun v H2=>v=.non/\Q (.ref x) H2) E:=rfl
theorem Bu {K:Frag} {f:Str} {σ:St} {H:Hp} {Q:VK}:tFld K ta f σ H Q=ta σ H fun x H1=>∃ a C dx fs v,x=.ref a/\H1 a=some (.ins C dx fs)/\Cls K C/\NoAttr K C f/\fs.lookup f=some v/\Q v H1:=rfl
theorem AI {K:Frag} {tv:TE} {f:Str} {D:Ends} {σ:St} {H:Hp}:sFld K ta tv f D σ H=tv σ H fun y H1=>ta σ H1 fun x H2=>∃ a C dx fs,x=.ref a/\H2 a=some (.ins C dx fs)/\Cls K C/\NoAttr K C f/\fs.length < 1000/\D.nx σ (upd H2 a (.ins C dx (putF f y fs))):=rfl
noncomputable def kTupL (K:Frag):List V->Hp->VK->Prop:=fun xs H Q=>match xs with
 | [.ref p]=>∃ ys,SqL K H p ys/\∀ l,H l=none->Q (.ref l) (upd H l (.tup ys))
 | _=>False
theorem vP (K:Frag) (hK:X.K=K):CallR X (.type "tuple") (kTupL K):=by
 subst hK;intro pins s σ H xs us Q I r q;unfold kTupL at q;split at q
 ·obtain ⟨ys,h,q⟩:=q;exact oH pins s σ H _ us Q I r ⟨_,ys,rfl,.inl ⟨h,q⟩⟩
 ·exact q.elim
theorem zV {K:Frag} {p:Addr} {H:Hp} {Q:VK}:kTupL K [.ref p] H Q=∃ ys,SqL K H p ys/\∀ l,H l=none->Q (.ref l) (upd H l (.tup ys)):=rfl
end
section
variable {X:Cx}
noncomputable def kMax2:List V->Hp->VK->Prop:=fun xs H Q=>match xs with
 | [.int a,.int b]=>Q (.int (if a < b then b else a)) H
 | _=>False
theorem mH (hc:X.calm=true):CallR X (.builtin "max") kMax2:=by
 intro pins s σ H xs us Q I r q;unfold kMax2 at q;split at q
 ·exact vF hc pins s σ H _ us Q I r ⟨_,_,rfl,q⟩
 ·exact q.elim
theorem zl {a b:Int} {H:Hp} {Q:VK}:kMax2 [.int a,.int b] H Q=Q (.int (if a < b then b else a)) H:=rfl
end
section
variable {X:Cx} {a b c:Expr} {ta tb tc:TE} {pos:Pos}
theorem yL {te:TE} {σ:St} {H:Hp} {Q:Bool->Hp->Prop}:tTest te σ H Q=te σ H fun z H3=>∃ k,z=.bl k/\Q k H3:=rfl
end
section
variable {K:Frag} {α:Type} {xs:List α} {item:α -> V} {h:α -> List V} {H:Hp} {D:Addr} {σc:St} {Q:VK}
end
end L2
namespace L2
open PySem
section
variable {K:Frag} {h:Heap} {mg:Str->Option Value} {x m qual:Str} {C f:Addr} {fd:FuncData} {st:Stmt}
theorem qI (X:K.In h) (G:h.Ns mainGlobals mg) (n:nsIn K mainGlobals x=some (some (.ref C))) (pg:PySem.W.plainGet K C Str.empty=true) (hd:PySem.W.hasDictIn K C=true) (po:PySem.W.plainOver K C=true)
  (sa:findIn K (.ref C) "__setattr__" = some (some (.builtin "object.__setattr__"))):ClsT K mg x:=⟨by rw [jk n]; exact mg_of X G n,by rw [jk n]; exact ⟨pg,hd,po,sa⟩⟩
theorem aS {a:Str} (n:nsIn K mainGlobals x=some (some (.ref C))) (e:findIn K (.ref C) a=some none):NoAttr K (xA K x) a:=by rw [jk n]; exact e
theorem nM (n:nsIn K mainGlobals x=some (some (.ref C))) (a:findIn K (.ref C) m=some (some (.ref f))) (w:PySem.W.isFn K (.ref f)=true) (kp:keepIn K (.ref f)=true) (F:Fun K m qual st f fd):MethT K x m qual st:=
 ⟨f,fd,by rw [jk n]; exact ⟨a,w,kp⟩,F⟩
theorem wb (n:nsIn K mainGlobals x=some (some (.ref C))) (mk:PySem.W.makesIn K C=true) (kc:keepIn K (.ref C)=true) (a:findIn K (.ref C) "__init__" = some (some (.ref f))) (w:PySem.W.isFn K (.ref f)=true) (F:Fun K "__init__" qual st f fd):MkT K x qual st:=
 ⟨f,fd,by rw [jk n]; exact ⟨mk,a,w,kc⟩,F⟩
end
end L2
namespace L2
open PySem PySem.Spec PyProof.Rows
section
variable {X:Cx} {o e f:Expr} {to te tf:TE} {apos cpos:Pos}
end
section
variable {X:Cx} {e:Expr} {te:TE} {lo hi:Option Expr} {st:Expr} {tl th ts:TO} {p2 pos:Pos}
end
def Rise (xs:Array Nat):Prop:=∀ a b,a < b->∀ (hb:b < xs.size) (ha:a < xs.size),xs[a] < xs[b]
theorem nP {xs:Array Nat} {j:Nat} (hr:Rise xs):∀ (fuel lo hi:Nat),hi - lo<=fuel->lo<=hi->hi<=xs.size->(∀ i (h:i < xs.size),i < lo->xs[i] < j)->(∀ i (h:i < xs.size),hi<=i->j<=xs[i]) ->
  SetTable.below.go xs j fuel lo hi<=xs.size/\(∀ i (h:i < xs.size),i < SetTable.below.go xs j fuel lo hi->xs[i] < j)/\(∀ i (h:i < xs.size),SetTable.below.go xs j fuel lo hi<=i->j<=xs[i])
 | 0,lo,hi,hf,h1,h2,h3,h4=>by
  have:lo=hi:=by lia
  subst this;unfold SetTable.below.go;exact ⟨h2,h3,h4⟩
 | fuel+1,lo,hi,hf,h1,h2,h3,h4=>by
  unfold SetTable.below.go;by_cases hlt:lo < hi
  ·rw [if_pos hlt];have hm:(lo+hi) / 2 < xs.size:=by lia
   have hg:xs.getD ((lo+hi) / 2) j=xs[(lo+hi) / 2]:=by simp [hm]
   simp only [hg];by_cases hx:xs[(lo+hi) / 2] < j
   ·rw [if_pos hx];refine nP hr fuel _ hi (by lia) (by lia) h2 (fun i h hi'=>?_) h4;rcases Nat.lt_or_ge i ((lo+hi) / 2) with z | z
    ·exact Nat.lt_trans (hr i _ z hm h) hx
    ·obtain rfl:i=(lo+hi) / 2:=by lia
     exact hx
   ·rw [if_neg hx];refine nP hr fuel lo _ (by lia) (by lia) (by lia) h3 (fun i h hi'=>?_);rcases Nat.lt_or_ge ((lo+hi) / 2) i with z | z
    ·have:=hr _ i z h hm
     lia
    ·obtain rfl:i=(lo+hi) / 2:=by lia
     lia
  ·rw [if_neg hlt];obtain rfl:lo=hi:=by lia
   exact ⟨h2,h3,h4⟩
theorem we {xs:Array Nat} (hr:Rise xs) (j:Nat):SetTable.below xs j<=xs.size/\(∀ i (h:i < xs.size),i < SetTable.below xs j->xs[i] < j)/\(∀ i (h:i < xs.size),SetTable.below xs j<=i->j<=xs[i]):=by
 unfold SetTable.below;exact nP hr xs.size 0 xs.size (by lia) (by lia) (Nat.le_refl _) (fun i _ h=>absurd h (by lia)) (fun i h z=>absurd h (by lia))
theorem pj {xs:Array Nat}:Rise xs ↔ xs.toList.Pairwise (· < ·):=by
 rw [List.pairwise_iff_getElem];constructor
 ·intro h a b ha hb hab;have:=h a b hab (by simpa using hb) (by simpa using ha);simpa using this
 ·intro h a b hab hb ha;have:=h a b (by simpa using ha) (by simpa using hb) hab;simpa using this
theorem rF {xs:Array Nat} (hr:Rise xs) {j:Nat} (hj:¬ xs[SetTable.below xs j]? = some j):Rise (SetTable.insertAt xs (SetTable.below xs j) j):=by
 obtain ⟨b0,b1,b2⟩:=we hr j;generalize SetTable.below xs j=p at *;have hlt:∀ i (h:i < xs.size),p<=i->j < xs[i]:=fun i h z=>by
  have h0:=b2 i h z;rcases Nat.lt_or_ge j xs[i] with q | q
  ·exact q
  ·exfalso;have e:xs[i]=j:=by lia
   rcases Nat.lt_or_ge p i with z2 | z2
   ·have hp:p < xs.size:=by lia
    have:=hr p i z2 h hp;have:=b2 p hp (Nat.le_refl _)
    lia
   ·obtain rfl:i=p:=by lia
    exact hj (by rw [Array.getElem?_eq_getElem h,e])
 have hl:=pj.mp hr;rw [pj,SetTable.toList_insertAt];have A:∀ a ∈ xs.toList.take p,a < j:=fun a ha=>by
  obtain ⟨i,hi,rfl⟩:=List.mem_take_iff_getElem.mp ha;have:=b1 i (by simp at hi; lia) (by lia);simpa using this
 have B:∀ b ∈ xs.toList.drop p,j < b:=fun b hb=>by
  obtain ⟨i,hi,rfl⟩:=List.mem_drop_iff_getElem.mp hb;have:=hlt (p+i) (by simp at hi; lia) (by lia);simpa using this
 have hl':=hl;rw [<- List.take_append_drop p xs.toList,List.pairwise_append] at hl';refine List.pairwise_append.mpr ⟨hl'.1,List.pairwise_cons.mpr ⟨B,hl'.2.1⟩,fun a ha b hb=>?_⟩;rcases List.mem_cons.mp hb with rfl | hb
 ·exact A a ha
 ·exact Nat.lt_trans (A a ha) (B b hb)
def Laid0 (t:SetTable):Prop:=Rise t.place/\t.dummies=#[]
theorem uD (j:Nat):SetTable.has #[] j=false:=by
 unfold SetTable.has;simp
theorem nB {t:SetTable} (h0:t.dummies=#[]) (f:Nat->Int) (h:Int):∀ (n:Nat) (p:SetTable.Probe) (j:Nat) (d:Option Nat),p.dummy=none->SetTable.probe.go t f h n p=some (.empty j d)->d=none/\¬ t.place[SetTable.below t.place j]? = some j
 | 0,p,j,d,_,e=>by simp [SetTable.probe.go] at e
 | n+1,p,j,d,hp,e=>by
  unfold SetTable.probe.go at e;have hs:t.slot p.j=if t.place[SetTable.below t.place p.j]? == some p.j then .live (SetTable.below t.place p.j) else .empty:=by
   unfold SetTable.slot;rw [h0,uD];rfl
  rw [hs] at e;by_cases z:t.place[SetTable.below t.place p.j]? = some p.j
  ·rw [if_pos (by rw [z]; exact beq_self_eq_true _)] at e;dsimp only at e;split at e
   ·cases e
   ·refine nB h0 f h n _ j d ?_ e;unfold SetTable.advance;split
    ·exact hp
    ·exact hp
  ·rw [if_neg (by simpa using z)] at e;dsimp only at e;injection e with e
   injection e with e1 e2
   subst e1 e2;exact ⟨hp,z⟩
theorem tH (n:Nat):Rise (Array.range n):=fun a b h hb ha=>by simpa using h
theorem dq (t:SetTable) (n:Nat):Laid0 (t.standIn n):=⟨tH n,rfl⟩
theorem xK {t:SetTable} (h:Laid0 t) (n:Nat):Laid0 (t.orStandIn n):=by
 unfold SetTable.orStandIn;split
 ·exact h
 ·exact dq t n
theorem uZ {t:SetTable} (L:Laid0 t) (es:Array (Int × Value)) (h:Int) (x:Value):Laid0 (layNew t es h x).2.1:=by
 unfold layNew;split
 ·rename_i slot wd e;refine xK ?_ _;unfold SetTable.freeSlot at e;split at e
  ·rename_i j d e2;obtain ⟨rfl,hj⟩:=nB L.2 _ h _ _ j d rfl e2;cases e;refine ⟨rF L.1 hj,?_⟩;show (if SetTable.has t.dummies _ then _ else t.dummies)=#[];rw [L.2,uD];rfl
  ·cases e
 ·exact dq t _
theorem sH {mask finger moves:Nat} {led plain:Bool} {hs:Array Int} {r:SetTable × Array Nat} (h:SetTable.laid mask finger moves led plain hs=some r):Laid0 r.1:=by
 unfold SetTable.laid at h;cases q:SetTable.layClean mask hs with
 | none=>rw [q] at h; cases h
 | some ow=>
  rw [q] at h;cases h;refine ⟨?_,rfl⟩;have:(((List.range (mask+1)).filterMap fun j=>(ow.getD j none).map (j,·)).map (·.1)).Pairwise (· < ·):=by
   rw [List.pairwise_map,List.pairwise_filterMap];refine List.pairwise_lt_range.imp fun {a b} hab x hx y hy=>?_
   obtain ⟨_,_,rfl⟩:=Option.map_eq_some_iff.mp hx;obtain ⟨_,_,rfl⟩:=Option.map_eq_some_iff.mp hy;exact hab
  intro a b hab hb ha;have:=List.pairwise_iff_getElem.mp this a b (by simpa using ha) (by simpa using hb) hab;simpa using this
theorem li {t:SetTable} (es:Array (Int × Value)) (n:Nat):Laid0 (relayAll t es n).2.1:=by
 unfold relayAll;split
 ·rename_i t' order e;have q:=sH e;dsimp only;split
  ·exact q
  ·exact dq t _
 ·exact dq t _
noncomputable def intOf:Value->Int
 | .int x _=>x
 | _=>0
def IsInts (w:World) (h:Heap) (a:Addr) (led:Bool) (ss:List Int):Prop:=
 ∃ es ep t,h.get? a=some { cls:=.type "set",dict:=none,data:=.set es ep t,slots:=#[] }/\(∀ e ∈ es.toList,∃ x u,e=(hashInt x,Value.int x u)) /\
  (es.toList.map fun e=>intOf e.2).Perm ss/\t.fits es.size=true/\t.led=led/\Laid0 t
section
variable {prog:Program} {w:World} {A:Around} {E:Value->Shared->Prop} {s:Shared}
theorem jy (x:Int) (u:Tok):Value.isInt x (Value.int x u)=true:=by simp [Value.isInt]
theorem tZ {es:Array (Int × Value)} (h:∀ e ∈ es.toList,∃ x u,e=(hashInt x,Value.int x u)):ElemsOf (PySem.intKind prog w) es.toList:=fun e he=>by
 obtain ⟨x,u,rfl⟩:=h e he;exact ⟨⟨x,jy x u,rfl⟩,rfl⟩
theorem v5 {es:List (Int × Value)} (h:∀ e ∈ es,∃ x u,e=(hashInt x,Value.int x u)) (x:Int):
  (es.findIdx? fun e=>(PySem.intKind prog w).is x e.2)=none ↔ x ∉ es.map fun e=>intOf e.2:=by
 rw [List.findIdx?_eq_none_iff];constructor
 ·intro q hm;obtain ⟨e,he,rfl⟩:=List.mem_map.mp hm;obtain ⟨y,u,rfl⟩:=h e he;have:=q _ he;rw [show (PySem.intKind prog w).is (intOf (hashInt y,Value.int y u).2) (hashInt y,Value.int y u).2=true from jy y u] at this;cases this
 ·intro q e he;obtain ⟨y,u,rfl⟩:=h e he;cases hb:(PySem.intKind prog w).is x (Value.int y u) with
  | false=>rfl
  | true=>
   have e2:y=x:=by
    obtain ⟨t,q⟩:=Value.isInt_shape (v:=Value.int y u) hb;injection q
   exact absurd (List.mem_map.mpr ⟨_,he,by rw [<- e2]; rfl⟩) q
noncomputable def addI (ss:List Int) (x:Int):List Int:=if x ∈ ss then ss else ss++[x]
theorem add_int {a:Addr} {led:Bool} {ss:List Int} {x:Int} {u:Tok} {Q:Bool->Shared->Prop} (hS:IsInts w s.heap a led ss) (room:ss.length+1 < scanBound)
  (h:∀ h' b,Heap.SameBut a s.heap h'->IsInts w h' a led (addI ss x)->Q b { s with heap:=h' }):
  wpAny (model prog w) A (setAddHashed a (.int x u) (hashInt x)) Q E s:=by
 obtain ⟨es,ep,t,ho,hel,hp,hf,hl,hL⟩:=hS;have hE:=tZ (prog:=prog) (w:=w) hel;have hk:(PySem.intKind prog w).is x (Value.int x u)=true:=jy x u;have hsz:es.size=ss.length:=by have:=hp.length_eq; simpa using this
 have hb:es.size < scanBound:=by lia
 unfold setAddHashed setAddHashedIn;refine wpAny_holding (wpAny_bind (wpAny_setState_of ho rfl hf ?_));dsimp only;rw [byScan_of (knd:=PySem.intKind prog w) rfl hb hE,if_pos rfl];unfold setAddByScan;refine wpAny_bind (wpAny_bind (wpAny_rule (wpAny_bind (wpAny_setScan_of (knd:=PySem.intKind prog w) hk ho rfl hf hE ?_))));have hfind:=v5 (prog:=prog) (w:=w) hel x;cases hr:es.toList.findIdx? (fun e=>(PySem.intKind prog w).is x e.2) with
 | some j=>
  have hin:x ∈ ss:=by
   rw [<- hp.mem_iff];apply Classical.byContradiction;intro z;rw [hfind.mpr z] at hr;cases hr
  refine wpAny_pure (wpAny_pure ?_);have:=h s.heap false (Heap.SameBut.refl a s.heap) ⟨es,ep,t,ho,hel,by unfold addI; rw [if_pos hin]; exact hp,hf,hl,hL⟩;exact this
 | none=>
  have hin:x ∉ ss:=by
   rw [<- hp.mem_iff];exact hfind.mp hr
  dsimp only;have p1:=layNew_perm t es (hashInt x) (Value.int x u);have p2:=layNew_fits t es (hashInt x) (Value.int x u);have p3:=tm t es (hashInt x) (Value.int x u);have p4:=uZ hL es (hashInt x) (Value.int x u);generalize layNew t es (hashInt x) (Value.int x u)=L at p1 p2 p3 p4 ⊢;obtain ⟨es1,t1,wd,gave⟩:=L;dsimp only at p1 p2 p3 p4 ⊢;rw [Array.toList_push] at p1;have hel1:∀ e ∈ es1.toList,∃ x u,e=(hashInt x,Value.int x u):=fun e he=>by
   rcases List.mem_append.mp (p1.mem_iff.mp he) with q | q
   ·exact hel e q
   ·rw [List.mem_singleton.mp q]; exact ⟨x,u,rfl⟩
  have hp1:(es1.toList.map fun e=>intOf e.2).Perm (addI ss x):=by
   refine (p1.map _).trans ?_;unfold addI;rw [if_neg hin,List.map_append];exact hp.append_right _
  have hz1:es1.size=ss.length+1:=by
   have:=p1.length_eq;simp only [Array.length_toList,List.length_append,List.length_singleton] at this
   lia
  have gw:∀ (b:Bool) (s₁:Shared) (Q':Unit->Shared->Prop),Q' () s₁ -> wpAny (model prog w) A (match b with | true=>rule "set.scan.the-table-gave-way" | false=>pure ()) Q' E s₁:=fun b s₁ Q' q=>by
   cases b
   ·exact wpAny_pure q
   ·exact wpAny_rule q
  refine wpAny_bind (gw _ _ _ ?_);split
  ·refine wpAny_bind ?_;rw [hashByValue_scannable 8 (x:=Value.int x u) rfl];refine wpAny_pure ?_;have pk:plainKind (Value.int x u)=true:=rfl;simp only [pk,↓reduceIte];obtain ⟨t2,et,f2,l2,L2'⟩:∃ t2:SetTable,t2=t1/\t2.fits es1.size=true/\t2.led=led/\Laid0 t2:=⟨_,rfl,p2,p3.1.trans hl,p4⟩;rw [<- et];refine wpAny_bind (wpAny_storeSet_of ho rfl ?_ (fits_of_scanBound (by lia)));have o1:=md (es':=es1) (t':=t2) ho;have sb1:=Heap.SameBut.update s.heap a (Obj.putSet es1 t2);refine wpAny_ite_split (fun _=>?_) fun _=>?_
   ·have q1:=relayAll_perm t2 es1 (SetTable.grown es1.size);have q2:=relayAll_fits t2 es1 (SetTable.grown es1.size);have q3:=pK t2 es1 (SetTable.grown es1.size);have q4:=li (t:=t2) es1 (SetTable.grown es1.size);generalize relayAll t2 es1 (SetTable.grown es1.size)=R at q1 q2 q3 q4 ⊢;obtain ⟨es2,t3,g2⟩:=R;dsimp only at q1 q2 q3 q4 ⊢;have z2:es2.size=es1.size:=by have:=q1.length_eq; simpa using this
    refine wpAny_bind (gw _ _ _ ?_);refine wpAny_bind (wpAny_storeSet_of o1 rfl ?_ (fits_of_scanBound (by lia)));have o2:=md (s:={ s with heap:=s.heap.update a (Obj.putSet es1 t2) }) (es':=es2) (t':=t3) o1;exact wpAny_pure (wpAny_pure (h _ _ (sb1.trans (Heap.SameBut.update _ a _)) ⟨es2,_,t3,o2,fun e he=>hel1 e (q1.mem_iff.mp he),(q1.map _).trans hp1,q2,q3.1.trans l2,q4⟩))
   ·exact wpAny_pure (wpAny_pure (h _ _ sb1 ⟨es1,_,t2,o1,hel1,hp1,f2,l2,L2'⟩))
  ·rename_i np;refine wpAny_bind (wpAny_pure ?_);simp only [↓reduceIte];obtain ⟨t2,et,f2,l2,L2'⟩:∃ t2:SetTable,t2=t1/\t2.fits es1.size=true/\t2.led=led/\Laid0 t2:=⟨_,rfl,p2,p3.1.trans hl,p4⟩;rw [<- et];refine wpAny_bind (wpAny_storeSet_of ho rfl ?_ (fits_of_scanBound (by lia)));have o1:=md (es':=es1) (t':=t2) ho;have sb1:=Heap.SameBut.update s.heap a (Obj.putSet es1 t2);refine wpAny_ite_split (fun _=>?_) fun _=>?_
   ·have q1:=relayAll_perm t2 es1 (SetTable.grown es1.size);have q2:=relayAll_fits t2 es1 (SetTable.grown es1.size);have q3:=pK t2 es1 (SetTable.grown es1.size);have q4:=li (t:=t2) es1 (SetTable.grown es1.size);generalize relayAll t2 es1 (SetTable.grown es1.size)=R at q1 q2 q3 q4 ⊢;obtain ⟨es2,t3,g2⟩:=R;dsimp only at q1 q2 q3 q4 ⊢;have z2:es2.size=es1.size:=by have:=q1.length_eq; simpa using this
    refine wpAny_bind (gw _ _ _ ?_);refine wpAny_bind (wpAny_storeSet_of o1 rfl ?_ (fits_of_scanBound (by lia)));have o2:=md (s:={ s with heap:=s.heap.update a (Obj.putSet es1 t2) }) (es':=es2) (t':=t3) o1;exact wpAny_pure (wpAny_pure (h _ _ (sb1.trans (Heap.SameBut.update _ a _)) ⟨es2,_,t3,o2,fun e he=>hel1 e (q1.mem_iff.mp he),(q1.map _).trans hp1,q2,q3.1.trans l2,q4⟩))
   ·exact wpAny_pure (wpAny_pure (h _ _ sb1 ⟨es1,_,t2,o1,hel1,hp1,f2,l2,L2'⟩))
end
section
variable {prog:Program} {w:World} {A:Around} {R:Result->Shared->Prop} {I:Addr} {fp wr:List Addr} {G:Array GenState->Array GenState->Prop} {n:Nat} {P:Nat->Value->Prop} {St:Nat->Shared->Prop}
end
section
variable {prog:Program} {w:World} {A:Around} {E:Value->Shared->Prop} {s:Shared}
section
variable {it a:Addr} {es:Array (Int × Value)} {n ep i:Nat} {t:SetTable}
end
end
section
variable {prog:Program} {w:World} {A:Around} {E:Value->Shared->Prop} {s:Shared}
end
section
variable {X:Cx}
end
section
variable {prog:Program} {w:World} {A:Around} {E:Value->Shared->Prop} {s:Shared}
end
section
variable {X:Cx} {pins:List (Addr × Obj)} {σ:St} {H:Hp} {s:Shared} {A:Around}
end
section
variable {prog:Program} {w:World} {A:Around} {E:Value->Shared->Prop} {s:Shared}
end
section
variable {X:Cx}
end
section
variable {K:Frag} {J:It} {g:TG} {tc:TT} {te:TE} {σc:St} {D:Addr} {Q:VK} {H:Hp}
theorem kX {α:Type} (xs:List α) (R:α -> V->Hp->Prop) (hfree:H D=none) (hn:xs.length<=100000) (hgo:∀ i H1,i < xs.length->Same H H1->J.go i H1) (hst:∀ H1,Same H H1->J.stop xs.length H1)
  (hy:∀ i H1 v H2,i < xs.length->J.yld i H1 v H2->Same H1 H2)
  (mono:∀ x v H1 H2 acc,H1 D=some (.lst acc)->(∀ b o,b≠D->H1 b=some o->H2 b=some o)->R x v H1->R x v H2)
  (hs:∀ i x v H1 H2 (out:VK) (non:Hp->Prop),xs[i]? = some x->Same H H1->(∀ b,H1 b=none->b≠D)->J.yld i H1 v H2->(∀ v H6,Same H2 H6->R x v H6->out v H6) ->
   g v σc H2 fun σ4 H4=>tc σ4 H4 fun b H5=>if b=true then te σ4 H5 out else non H5)
  (hq:∀ H' vs,Same H H'->H' D=some (.lst vs)->Paired (fun x v=>R x v H') xs vs->Q (.ref D) H'):compW J g tc te σc D Q H:=by
 refine ⟨fun i m acc H2=>m=xs.length - i/\i<=xs.length/\Paired (fun x v=>R x v H2) (xs.take i) acc/\Same H H2/\H2 D=some (.lst acc),⟨xs.length,by simp,Nat.zero_le _,.nil,ah hfree _,upd_same⟩,?_⟩;rintro i m acc H2 ⟨rfl,hi,pr,sm,hD⟩;have len:acc.length<=i:=by
  have a:=pr.length;rw [List.length_take] at a
  lia
 by_cases hlt:i < xs.length
 ·refine .inr ⟨hgo i H2 hlt sm,fun x H3 y=>?_⟩;have s3:=hy i H2 x H3 hlt y;have hD3:=s3 _ _ hD;refine hs i xs[i] x _ _ _ _ (List.getElem?_eq_getElem hlt) sm (fun b hb z=>by rw [z,hD] at hb; cases hb) y fun v H6 s6 r=>?_
  refine ⟨s6 _ _ hD3,Nat.lt_of_le_of_lt len (sizeBig (by lia)),xs.length - (i+1),by lia,rfl,hlt,?_,aE (sm.trans (s3.trans s6)) hfree,upd_same⟩;rw [List.take_add_one,List.getElem?_eq_getElem hlt];have lift:∀ {l:List α} {vs:List V} {z:α} {u:V} {F G:α -> V->Prop},(∀ a b,F a b->G a b)->Paired F l vs->G z u->Paired G (l++[z]) (vs++[u]):=by
   intro l vs z u F G f pp r
   induction pp with
   | nil=>exact .cons r .nil
   | cons r' _ ih=>exact .cons (f _ _ r') ih
  exact lift (fun _ _ r'=>mono _ _ H2 _ acc hD (fun b o nb q=>by rw [ao nb]; exact s6 _ _ (s3 _ _ q)) r') pr (mono _ _ H6 _ acc (s6 _ _ hD3) (fun b o nb q=>by rw [ao nb]; exact q) r)
 ·have hi':i=xs.length:=by lia
  subst hi';rw [List.take_length] at pr;exact .inl ⟨hst H2 sm,hq H2 acc sm hD pr⟩
end
section
variable {X:Cx} {o e:Expr} {to te:TE} {apos cpos:Pos}
noncomputable def cExtend (to te:TE):TE:=fun σ H Q=>to σ H fun x H1=>match x with
 | .ref l=>(∃ xs,H1 l=some (.lst xs))/\te σ H1 fun y H2=>match y with
  | .ref b=>∃ xs zs,H2 l=some (.lst xs)/\H2 b=some (.lst zs)/\xs.length+zs.length<=sizeLine/\Q .non (upd H2 l (.lst (xs++zs)))
  | _=>False
 | _=>False
theorem kR (ho:PE X o to) (he:PE X e te) (hbase:attributeBase o "extend" X.env (eval o X.env)=eval o X.env:=by rfl)
  (hfew:((backTo cpos (starEach [e] X.env)).all (fun x=>!x.1) && (backToKw cpos (keywordEach [] X.env)).all (fun x=>x.1.isSome) && decide ([e].length+([]:List Keyword).length+(if ([]:List Keyword).isEmpty then 0 else 1) < 30))=true:=by rfl)
  (hline:(apos.endLine == cpos.line)=true:=by rfl) (hs:starEach [e] X.env=(false,eval e X.env)::starEach [] X.env:=by rfl) (hplain:(backTo cpos (starEach [] X.env)).any (·.1)=false:=by rfl):
  PE X (.Call (.Attribute o "extend" apos) [e] [] cpos) (cExtend to te):=
 (uB PySem.F.plainAttrs_list PySem.F.slot_list_extend PySem.F.type_list_extend ve ho.mono (aa he.mono ad hs) hbase hfew hline hs hplain).imp fun σ H Q q=>⟨_,q,fun x H1 z=>by
  split at z
  ·rename_i l;obtain ⟨⟨xs,h⟩,z⟩:=z;refine ⟨.inl ⟨rfl,_,SqL.of h⟩,_,z,fun y H2 z2=>?_⟩;split at z2
   ·obtain ⟨xs2,zs,h2,h3,h4,z3⟩:=z2;exact ⟨l,_,xs2,zs,rfl,rfl,h2,h3,h4,z3⟩
   ·exact z2.elim
  ·exact z.elim⟩
theorem vd {σ:St} {H:Hp} {Q:VK}:cExtend to te σ H Q=to σ H fun x H1=>match x with
 | .ref l=>(∃ xs,H1 l=some (.lst xs))/\te σ H1 fun y H2=>match y with
  | .ref b=>∃ xs zs,H2 l=some (.lst xs)/\H2 b=some (.lst zs)/\xs.length+zs.length<=sizeLine/\Q .non (upd H2 l (.lst (xs++zs)))
  | _=>False
 | _=>False:=rfl
end
section
variable {prog:Program} {w:World} {A:Around} {E:Value->Shared->Prop} {s:Shared} {a:Addr} {δ:Type} {R:δ -> Value->Prop} {D:List (Str × δ)} {k:Str} {tk:Tok}
end
section
variable {X:Cx} {i:Expr} {p pos:Pos} {ty:TE} {x:Str}
end
section
variable {X:Cx} {k:Nat} {x:Str} {ps:List Str} {sp:Sp} {p pos:Pos} {e:Expr} {es:List Expr} {t:TA}
end
section
variable {X:Cx}
end
section
variable {K:Frag}
theorem c7 {cl:Value} {od:Option Addr} {cd:ClassData} {sl:Array (Option Value)}:isTab ⟨cl,od,.cls cd,sl⟩=false:=by
 unfold isTab;cases cl <;> rfl
theorem zt {x:Str} {v:Value} {r:Option Value} (h:PySem.W.ownIn K x v=some r):PySem.W.ownIn (cut K) x v=some r:=by
 unfold PySem.W.ownIn at h ⊢;cases v with
 | ref a=>
  cases q:K.lookup a with
  | none=>simp only [q] at h; cases h
  | some o=>
   obtain ⟨cl,od,da,sl⟩:=o;cases da with
   | cls cd=>
    simp only [q] at h;simp only [cut_lookup q c7];exact cut_ns h
   | _=>simp only [q] at h; cases h
 | _=>exact h
theorem oV {x:Str}:∀ {l:List Value} {r:Option Value},PySem.W.alongIn K x l=some r->PySem.W.alongIn (cut K) x l=some r
 | [],r,h=>h
 | c::l,r,h=>by
  unfold PySem.W.alongIn at h ⊢;cases q:PySem.W.ownIn K x c with
  | none=>simp only [q] at h; cases h
  | some y=>
   simp only [q] at h;simp only [zt q];cases y with
   | none=>exact oV h
   | some v=>exact h
theorem cut_find {t:Value} {x:Str} {r:Option Value} (h:findIn K t x=some r):findIn (cut K) t x=some r:=by
 unfold findIn at h ⊢;cases t with
 | ref a=>
  cases q:K.lookup a with
  | none=>simp only [q] at h; cases h
  | some o=>
   obtain ⟨cl,od,da,sl⟩:=o;cases da with
   | cls cd=>
    simp only [q] at h;simp only [cut_lookup q c7];exact oV h
   | _=>simp only [q] at h; cases h
 | _=>exact h
theorem uC {C:Addr} {cd:ClassData} (h:PySem.W.clsIn K C=some cd):PySem.W.clsIn (cut K) C=some cd:=by
 unfold PySem.W.clsIn at h ⊢;cases q:K.lookup C with
 | none=>simp only [q] at h; cases h
 | some o=>
  obtain ⟨cl,od,da,sl⟩:=o;cases da with
  | cls cd=>
   simp only [q] at h;simp only [cut_lookup q c7];exact h
  | _=>simp only [q] at h; cases h
theorem uh {C:Addr} {f:ClassData->Bool} (h:(PySem.W.clsIn K C).any f=true):(PySem.W.clsIn (cut K) C).any f=true:=by
 cases q:PySem.W.clsIn K C with
 | none=>rw [q] at h; cases h
 | some cd=>rw [q] at h; rw [uC q]; exact h
theorem cut_hasDict {C:Addr} (h:PySem.W.hasDictIn K C=true):PySem.W.hasDictIn (cut K) C=true:=uh h
theorem cut_over {C:Addr} (h:PySem.W.plainOver K C=true):PySem.W.plainOver (cut K) C=true:=uh h
theorem cut_get {C:Addr} (h:PySem.W.plainGet K C Str.empty=true):PySem.W.plainGet (cut K) C Str.empty=true:=by
 unfold PySem.W.plainGet at h ⊢;rw [Bool.and_eq_true,beq_iff_eq,beq_iff_eq] at h;rw [cut_find h.1,cut_find h.2];simp
theorem cut_type {v t:Value} (h:PySem.W.typeIn K v=some t) (n:t≠.none):PySem.W.typeIn (cut K) v=some t:=by
 unfold PySem.W.typeIn at h ⊢;cases v with
 | ref a=>
  obtain ⟨o,ho,e⟩:=Option.map_eq_some_iff.mp h;have e:o.cls=t:=e;exact Option.map_eq_some_iff.mpr ⟨o,cut_lookup ho (qr (by rw [e]; exact n)),e⟩
 | _=>exact h
theorem cut_isFn {v:Value} (h:PySem.W.isFn K v=true):PySem.W.isFn (cut K) v=true:=by
 unfold PySem.W.isFn at h ⊢;rw [beq_iff_eq] at h;rw [cut_type h (by nofun)];simp
theorem cut_special {v:Value} {x:Str} {r:Option Value} (h:PySem.W.specialIn K v x=some r):PySem.W.specialIn (cut K) v x=some r:=by
 unfold PySem.W.specialIn at h ⊢;obtain ⟨t,a,b⟩:=Option.bind_eq_some_iff.mp h;exact Option.bind_eq_some_iff.mpr ⟨t,cut_type a (fun z=>by rw [z] at b; cases b),cut_find b⟩
theorem cut_mro {C:Addr} {b:Value} {r:Bool} (h:PySem.W.mroIn K C b=some r):PySem.W.mroIn (cut K) C b=some r:=by
 unfold PySem.W.mroIn at h ⊢;obtain ⟨cd,a,e⟩:=Option.bind_eq_some_iff.mp h;exact Option.bind_eq_some_iff.mpr ⟨cd,uC a,e⟩
theorem xO {v b:Value} {r:Bool} (h:PySem.W.instIn K v b=some r):PySem.W.instIn (cut K) v b=some r:=by
 unfold PySem.W.instIn at h ⊢;obtain ⟨t,a,e⟩:=Option.bind_eq_some_iff.mp h;refine Option.bind_eq_some_iff.mpr ⟨t,cut_type a (fun z=>by rw [z] at e; cases e),?_⟩;cases t with
 | ref C=>exact cut_mro e
 | _=>exact e
theorem cut_makes {C:Addr} (h:PySem.W.makesIn K C=true):PySem.W.makesIn (cut K) C=true:=by
 unfold PySem.W.makesIn at h ⊢;cases q:K.lookup C with
 | none=>simp only [q] at h; cases h
 | some o=>
  obtain ⟨cl,od,da,sl⟩:=o;cases da with
  | cls cd=>
   simp only [q] at h;simp only [cut_lookup q c7];simp only [Bool.and_eq_true,beq_iff_eq] at h ⊢;exact ⟨⟨h.1.1,cut_special h.1.2⟩,xO h.2⟩
  | _=>simp only [q] at h; cases h
theorem vm {C:Addr} {cd:ClassData} (hc:PySem.W.clsIn K C=some cd) (h:keepIn K (.ref C)=true):keepIn (cut K) (.ref C)=true:=by
 unfold PySem.W.clsIn at hc;unfold keepIn at h ⊢;cases q:K.lookup C with
 | none=>simp only [q] at hc; cases hc
 | some o=>
  obtain ⟨cl,od,da,sl⟩:=o;cases da with
  | cls cd=>
   simp only [q] at h;simp only [cut_lookup q c7];rw [beq_iff_eq] at h;rw [cut_special h];simp
  | _=>simp only [q] at hc; cases hc
theorem uM {C:Addr} (h:PySem.W.makesIn K C=true):∃ cd,PySem.W.clsIn K C=some cd:=by
 unfold PySem.W.makesIn at h;unfold PySem.W.clsIn;cases q:K.lookup C with
 | none=>simp only [q] at h; cases h
 | some o=>
  obtain ⟨cl,od,da,sl⟩:=o;cases da with
  | cls cd=>exact ⟨cd,rfl⟩
  | _=>simp only [q] at h; cases h
theorem cut_keepM {C:Addr} (m:PySem.W.makesIn K C=true) (h:keepIn K (.ref C)=true):keepIn (cut K) (.ref C)=true:=by
 obtain ⟨cd,hc⟩:=uM m;exact vm hc h
end
class LenSp (sp:Sp) (n:outParam Nat):Prop where
 h:∀ vs H Q E,sp vs H Q E->vs.length=n
noncomputable def az (f:Addr->Sp):Sp:=fun vs H Q E=>match vs with
 | .ref x::r=>f x r H Q E
 | _=>False
theorem az.el {f:Addr->Sp} {vs:List V} {H:Hp} {Q:VK} {E:XK} (h:az f vs H Q E):∃ x r,vs=.ref x::r/\f x r H Q E:=by
 unfold az at h;split at h
 ·exact ⟨_,_,rfl,h⟩
 ·exact h.elim
noncomputable def bB (f:Int->Sp):Sp:=fun vs H Q E=>match vs with
 | .int x::r=>f x r H Q E
 | _=>False
theorem bB.el {f:Int->Sp} {vs:List V} {H:Hp} {Q:VK} {E:XK} (h:bB f vs H Q E):∃ x r,vs=.int x::r/\f x r H Q E:=by
 unfold bB at h;split at h
 ·exact ⟨_,_,rfl,h⟩
 ·exact h.elim
noncomputable def dP (f:Str->Sp):Sp:=fun vs H Q E=>match vs with
 | .str x::r=>f x r H Q E
 | _=>False
theorem dP.el {f:Str->Sp} {vs:List V} {H:Hp} {Q:VK} {E:XK} (h:dP f vs H Q E):∃ x r,vs=.str x::r/\f x r H Q E:=by
 unfold dP at h;split at h
 ·exact ⟨_,_,rfl,h⟩
 ·exact h.elim
noncomputable def jj (f:Bool->Sp):Sp:=fun vs H Q E=>match vs with
 | .bl x::r=>f x r H Q E
 | _=>False
theorem jj.el {f:Bool->Sp} {vs:List V} {H:Hp} {Q:VK} {E:XK} (h:jj f vs H Q E):∃ x r,vs=.bl x::r/\f x r H Q E:=by
 unfold jj at h;split at h
 ·exact ⟨_,_,rfl,h⟩
 ·exact h.elim
noncomputable def oQ (f:V->Sp):Sp:=fun vs H Q E=>match vs with
 | x::r=>f x r H Q E
 | []=>False
theorem oQ.el {f:V->Sp} {vs:List V} {H:Hp} {Q:VK} {E:XK} (h:oQ f vs H Q E):∃ x r,vs=x::r/\f x r H Q E:=by
 cases vs with
 | nil=>exact h.elim
 | cons x r=>exact ⟨x,r,rfl,h⟩
noncomputable def aM (f:Hp->VK->XK->Prop):Sp:=fun vs H Q E=>match vs with
 | []=>f H Q E
 | _::_=>False
theorem aM.el {f:Hp->VK->XK->Prop} {vs:List V} {H:Hp} {Q:VK} {E:XK} (h:aM f vs H Q E):vs=[]/\f H Q E:=by
 cases vs with
 | nil=>exact ⟨rfl,h⟩
 | cons x r=>exact h.elim
instance {f:Hp->VK->XK->Prop}:LenSp (aM f) 0:=⟨fun vs H Q E h=>by rw [(aM.el h).1]; rfl⟩
instance {f:Addr->Sp} {n:Nat} [i:∀ x,LenSp (f x) n]:LenSp (az f) (n+1):=⟨fun vs H Q E h=>by
 obtain ⟨x,r,e,h⟩:=az.el h;rw [e,List.length_cons,(i x).h r H Q E h]⟩
instance {f:Int->Sp} {n:Nat} [i:∀ x,LenSp (f x) n]:LenSp (bB f) (n+1):=⟨fun vs H Q E h=>by
 obtain ⟨x,r,e,h⟩:=bB.el h;rw [e,List.length_cons,(i x).h r H Q E h]⟩
instance {f:Str->Sp} {n:Nat} [i:∀ x,LenSp (f x) n]:LenSp (dP f) (n+1):=⟨fun vs H Q E h=>by
 obtain ⟨x,r,e,h⟩:=dP.el h;rw [e,List.length_cons,(i x).h r H Q E h]⟩
instance {f:Bool->Sp} {n:Nat} [i:∀ x,LenSp (f x) n]:LenSp (jj f) (n+1):=⟨fun vs H Q E h=>by
 obtain ⟨x,r,e,h⟩:=jj.el h;rw [e,List.length_cons,(i x).h r H Q E h]⟩
instance {f:V->Sp} {n:Nat} [i:∀ x,LenSp (f x) n]:LenSp (oQ f) (n+1):=⟨fun vs H Q E h=>by
 obtain ⟨x,r,e,h⟩:=oQ.el h;rw [e,List.length_cons,(i x).h r H Q E h]⟩
def KCalX (P:Program) (w:World) (K:Frag) (mg:Str->Option Value) (base:Heap) (k:Nat) (x:Str) (ps:List Str) (sp:Sp):Prop:=
 ∃ f fd,FnOk P w K mg base (XR P w) k f fd ps sp/\Binds K fd ps []/\Mk K (xA K x) f
theorem MkT.calX {P:Program} {w:World} {K:Frag} {mg:Str->Option Value} {base:Heap} {x qual:Str} {st:Stmt} {N ps:List Str} {k:Nat} {sp:Sp} (F:MkT K x qual st) (S:FnScope N ps (defScope st)) (len:∀ vs H Q E,sp vs H Q E->vs.length=ps.length)
  (hb:∀ (kV doc pm:Value) (an:Option Addr) (cdv ct:Value) (us:List Value),us.length=ps.length->bindArgs (fnOf "__init__" qual (defArgs st) (defBody st) (defScope st) .none kV doc pm an cdv ct) ⟨us,[]⟩=pure (ps.zip us))
  (hbody:∀ (f:Addr) (cdv:Value) (A:Around) (outer:List Env) (s:Shared) (H:Hp) (vs:List V) (Q:VK) (E:XK),Room k (A.deeper (envOfC qual (defScope st) s.heap.objs.size f cdv))->sp vs H Q E ->
   ∃ t,PSs (cxOf (XR P w) P w K mg base N qual (defScope st) f cdv A outer s H E) (defBody st) t/\t { nx:=fun _ H'=>Q .non H',rt:=Q } (start N vs) H):KCalX P w K mg base (k+1) x ps sp:=by
 obtain ⟨f,fd,M,F⟩:=F;have hB:=F.binds hb;obtain ⟨oc,od,kV,doc,pm,an,cdv,ct,osl,rfl,lk,hcd⟩:=F.ex;exact ⟨f,_,qT lk hcd S len (hbody f cdv),hB,M⟩
section
variable {X:Cx} {k:Nat} {x:Str} {ps:List Str} {sp:Sp} {p pos:Pos} {e:Expr} {es:List Expr} {t:TA} {E:XK}
theorem xW (C:ClsT X.K X.mg x) (M:KCalX X.prog X.w X.K X.mg X.base k x ps sp) (hr:Room (k+1) X.A) (hx:Passes (XR X.prog X.w) X E) (hg:Gl X x) (ha:PA X (e::es) t) (hd:(x == ("__debug__" : Str))=false:=by decide)
  (he:starEach (e::es) X.env=(false,eval e X.env)::starEach es X.env:=by rfl) (hpl:(backTo pos (starEach es X.env)).any (·.1)=false:=by rfl):PE X (.Call (.Name x p) (e::es) [] pos) (tMake (xA X.K x) sp [] E t):=by
 obtain ⟨f,fd,F,b,M⟩:=M;exact ut M F hr hg C.m b .nil hx ha hd he hpl
end
end L2
namespace L2
open PySem PyProof.Rows
section
variable {α:Type} {le:α -> α -> Prop}
def Srt (le:α -> α -> Prop) (l:List α):Prop:=l.Pairwise le
structure MInv (le:α -> α -> Prop) (A B out:List α) (ia ib:Nat):Prop where
 ha:ia<=A.length
 hb:ib<=B.length
 srt:Srt le out
 low:∀ x ∈ out,(∀ y ∈ A.drop ia,le x y)/\∀ y ∈ B.drop ib,le x y
 perm:(out++(A.drop ia++B.drop ib)).Perm (A++B)
end
section
variable {α:Type} {le:α -> α -> Prop}
structure HInv (le:α -> α -> Prop) (A B out:List α) (na nb:Nat):Prop where
 ha:na<=A.length
 hb:nb<=B.length
 srt:Srt le out.reverse
 low:∀ x ∈ out,(∀ y ∈ A.take na,le y x)/\∀ y ∈ B.take nb,le y x
 perm:(A.take na++B.take nb++out).Perm (A++B)
end
section
variable {prog:Program} {w:World} {A:Around} {E:Value->Shared->Prop} {s:Shared}
abbrev At2 (st:SortSt) (P:Nat->Nat->Prop) (c:Option (Option Nat) × Nat × Nat) (st':SortSt):Prop:=st'=st/\∃ l o,c=(none,l,o)/\P l o
@[elab_as_elim] theorem At2.el {st:SortSt} {P:Nat->Nat->Prop} {motive:Option (Option Nat) × Nat × Nat->SortSt->Prop} {c:Option (Option Nat) × Nat × Nat} {st':SortSt} (h:At2 st P c st') (k:∀ l o,P l o->motive (none,l,o) st):motive c st':=by
 obtain ⟨rfl,l,o,rfl,h⟩:=h;exact k l o h
end
noncomputable abbrev leB (lt:Keyed->Keyed->Bool):Keyed->Keyed->Prop:=fun x y=>lt y x=false
section
variable {prog:Program} {w:World} {A:Around} {E:Value->Shared->Prop} {s:Shared}
abbrev Lo0 (lt:Keyed->Keyed->Bool) (a b:Array Keyed) (n:Nat) (c:Option (Array Keyed) × Array Keyed × Nat × Nat × Nat):Prop:=∃ out ia ib g,c=(none,out,ia,ib,g)/\MInv (leB lt) a.toList b.toList out.toList ia ib/\ia+1 < a.size/\ib < b.size/\n < ia+ib
@[elab_as_elim] theorem Lo0.el {lt:Keyed->Keyed->Bool} {a b:Array Keyed} {n:Nat} {motive:Option (Array Keyed) × Array Keyed × Nat × Nat × Nat->Prop} {c:Option (Array Keyed) × Array Keyed × Nat × Nat × Nat} (h:Lo0 lt a b n c) (k:∀ out ia ib g,MInv (leB lt) a.toList b.toList out.toList ia ib->ia+1 < a.size->ib < b.size->n < ia+ib->motive (none,out,ia,ib,g)):motive c:=by
 obtain ⟨out,ia,ib,g,rfl,h1,h2,h3,h4⟩:=h;exact k _ _ _ _ h1 h2 h3 h4
abbrev Lo1 (lt:Keyed->Keyed->Bool) (a b:Array Keyed) (n:Nat) (c:Option (Array Keyed) × Array Keyed × Nat × Nat × Nat × Nat):Prop:=∃ out ia ib ac bc,c=(none,out,ia,ib,ac,bc)/\MInv (leB lt) a.toList b.toList out.toList ia ib/\ia+1 < a.size/\ib < b.size/\n<=ia+ib
@[elab_as_elim] theorem Lo1.el {lt:Keyed->Keyed->Bool} {a b:Array Keyed} {n:Nat} {motive:Option (Array Keyed) × Array Keyed × Nat × Nat × Nat × Nat->Prop} {c:Option (Array Keyed) × Array Keyed × Nat × Nat × Nat × Nat} (h:Lo1 lt a b n c) (k:∀ out ia ib ac bc,MInv (leB lt) a.toList b.toList out.toList ia ib->ia+1 < a.size->ib < b.size->n<=ia+ib->motive (none,out,ia,ib,ac,bc)):motive c:=by
 obtain ⟨out,ia,ib,ac,bc,rfl,h1,h2,h3,h4⟩:=h;exact k _ _ _ _ _ h1 h2 h3 h4
abbrev Lo2 (lt:Keyed->Keyed->Bool) (a b:Array Keyed) (n:Nat) (c:Option (Array Keyed) × Array Keyed × Nat × Nat × Nat × Nat × Nat):Prop:=∃ out ia ib g ac bc,c=(none,out,ia,ib,g,ac,bc)/\MInv (leB lt) a.toList b.toList out.toList ia ib/\ia+1 < a.size/\ib < b.size/\n<=ia+ib
@[elab_as_elim] theorem Lo2.el {lt:Keyed->Keyed->Bool} {a b:Array Keyed} {n:Nat} {motive:Option (Array Keyed) × Array Keyed × Nat × Nat × Nat × Nat × Nat->Prop} {c:Option (Array Keyed) × Array Keyed × Nat × Nat × Nat × Nat × Nat} (h:Lo2 lt a b n c) (k:∀ out ia ib g ac bc,MInv (leB lt) a.toList b.toList out.toList ia ib->ia+1 < a.size->ib < b.size->n<=ia+ib->motive (none,out,ia,ib,g,ac,bc)):motive c:=by
 obtain ⟨out,ia,ib,g,ac,bc,rfl,h1,h2,h3,h4⟩:=h;exact k _ _ _ _ _ _ h1 h2 h3 h4
end
section
variable {prog:Program} {w:World} {A:Around} {E:Value->Shared->Prop} {s:Shared}
abbrev Hi0 (lt:Keyed->Keyed->Bool) (a b:Array Keyed) (x n:Nat) (c:Option (Array Keyed) × Nat × Nat × Array Keyed × Nat):Prop:=∃ na nb out g,c=(none,na,nb,out,g)/\HInv (leB lt) a.toList b.toList out.toList na nb/\0 < na/\1 < nb/\na+nb+x < n
@[elab_as_elim] theorem Hi0.el {lt:Keyed->Keyed->Bool} {a b:Array Keyed} {x n:Nat} {motive:Option (Array Keyed) × Nat × Nat × Array Keyed × Nat->Prop} {c:Option (Array Keyed) × Nat × Nat × Array Keyed × Nat} (h:Hi0 lt a b x n c) (k:∀ na nb out g,HInv (leB lt) a.toList b.toList out.toList na nb->0 < na->1 < nb->na+nb+x < n->motive (none,na,nb,out,g)):motive c:=by
 obtain ⟨na,nb,out,g,rfl,h1,h2,h3,h4⟩:=h;exact k _ _ _ _ h1 h2 h3 h4
abbrev Hi1 (lt:Keyed->Keyed->Bool) (a b:Array Keyed) (x n:Nat) (c:Option (Array Keyed) × Nat × Nat × Array Keyed × Nat × Nat):Prop:=∃ na nb out ac bc,c=(none,na,nb,out,ac,bc)/\HInv (leB lt) a.toList b.toList out.toList na nb/\0 < na/\1 < nb/\na+nb+x<=n
@[elab_as_elim] theorem Hi1.el {lt:Keyed->Keyed->Bool} {a b:Array Keyed} {x n:Nat} {motive:Option (Array Keyed) × Nat × Nat × Array Keyed × Nat × Nat->Prop} {c:Option (Array Keyed) × Nat × Nat × Array Keyed × Nat × Nat} (h:Hi1 lt a b x n c) (k:∀ na nb out ac bc,HInv (leB lt) a.toList b.toList out.toList na nb->0 < na->1 < nb->na+nb+x<=n->motive (none,na,nb,out,ac,bc)):motive c:=by
 obtain ⟨na,nb,out,ac,bc,rfl,h1,h2,h3,h4⟩:=h;exact k _ _ _ _ _ h1 h2 h3 h4
abbrev Hi2 (lt:Keyed->Keyed->Bool) (a b:Array Keyed) (x n:Nat) (c:Option (Array Keyed) × Nat × Nat × Array Keyed × Nat × Nat × Nat):Prop:=∃ na nb out g ac bc,c=(none,na,nb,out,g,ac,bc)/\HInv (leB lt) a.toList b.toList out.toList na nb/\0 < na/\1 < nb/\na+nb+x<=n
@[elab_as_elim] theorem Hi2.el {lt:Keyed->Keyed->Bool} {a b:Array Keyed} {x n:Nat} {motive:Option (Array Keyed) × Nat × Nat × Array Keyed × Nat × Nat × Nat->Prop} {c:Option (Array Keyed) × Nat × Nat × Array Keyed × Nat × Nat × Nat} (h:Hi2 lt a b x n c) (k:∀ na nb out g ac bc,HInv (leB lt) a.toList b.toList out.toList na nb->0 < na->1 < nb->na+nb+x<=n->motive (none,na,nb,out,g,ac,bc)):motive c:=by
 obtain ⟨na,nb,out,g,ac,bc,rfl,h1,h2,h3,h4⟩:=h;exact k _ _ _ _ _ _ h1 h2 h3 h4
end
section
variable {prog:Program} {w:World} {A:Around} {E:Value->Shared->Prop} {s:Shared}
end
end L2
namespace L2
open PySem PySem.Spec PyProof.Rows
section
variable {X:Cx} {pins:List (Addr × Obj)} {σ:St} {H:Hp} {s:Shared} {a:Addr} {e o:Expr} {te to ty:TE}
end
section
variable {prog:Program} {w:World} {A:Around} {E:Value->Shared->Prop} {s:Shared}
end
section
variable {X:Cx}
end
section
variable {prog:Program} {w:World} {A:Around} {E:Value->Shared->Prop} {s:Shared}
end
section
variable {prog:Program} {w:World} {A:Around} {E:Value->Shared->Prop} {s:Shared}
end
section
variable {X:Cx}
end
section
variable {prog:Program} {w:World} {A:Around} {E:Value->Shared->Prop} {s:Shared}
end
section
variable {X:Cx}
end
section
variable {X:Cx} {o e:Expr} {td ty to te:TE} {apos cpos:Pos}
end
section
variable {prog:Program} {w:World} {A:Around} {E:Value->Shared->Prop} {s:Shared} {it d:Addr} {i ep:Nat} {es:Array DictEntry}
def RawD (h:Heap) (d:Addr) (es:Array DictEntry) (ep:Nat):Prop:=∃ o,h.get? d=some o/\o.ExactDict/\o.data=.dict es ep
theorem RawD.ty (hm:RawD s.heap d es ep):s.TypeIs (.ref d) "dict" := let ⟨o,ho,hc,_⟩:=hm; ⟨o,ho,hc.1⟩
theorem RawD.lt {h:Heap} (hm:RawD h d es ep):d < h.objs.size:=let ⟨_,ho,_⟩:=hm; Heap.lt_size ho
theorem v8 {Q:Value->Shared->Prop} (lo:(d == sysModules)=false) (hm:RawD s.heap d es ep)
  (q:Q (.ref s.heap.objs.size) { s with heap:=s.heap.push { cls:=.type "dict_keyiterator",data:=.fields #[.ref d,.int 0 0,.int es.size 0,.int ep 0] } }):wpAny (model prog w) A (pyIter (.ref d)) Q E s:=by
 have ty:=hm.ty;obtain ⟨o,ho,hc,hdat⟩:=hm;refine wpAny_pyIter_slot ty PySem.F.slot_dict_iter (wpAny_call_entry PySem.F.slot_dict_iter ty PySem.F.entry_dict_iter ?_ (PySem.F.args_dict_iter_1 _));unfold Builtin.«dict.__iter__»; refine wpAny_bind ?_; unfold Builtin.Dict.dictSlotNone; refine wpAny_bind (wpAny_notOrdered_dict ty ?_);change wpAny _ _ (pure _) _ _ s; refine wpAny_pure ?_; change wpAny _ _ (Builtin.Dict.showsAll d>>=_) _ _ s; unfold Builtin.Dict.showsAll; rw [if_neg (by simp [lo])];exact wpAny_bind (wpAny_pure (wpAny_bind (wpAny_dictEntries ho hdat (wpAny_bind (wpAny_dictEpoch ho hdat (wpAny_bind (wpAny_newObj_type (wpAny_pure ⟨_,rfl, "dict_keyiterator",_,⟨_,Heap.get?_push_size _ rfl,rfl⟩,PySem.F.slot_dict_keyiterator_next.lookup,by simpa [rawInt] using q⟩))))))))
theorem pM {Q:Option Value->Shared->Prop} (hh:A.handled=none) (hit:s.heap.IsKeyIter it d i es.size ep) (hm:RawD s.heap d es ep)
  (one:∀ e h',es[i]? = some e->h'.IsKeyIter it d (i+1) es.size ep->Heap.SameBut it s.heap h'->Q (some e.key) { s with heap:=h' })
  (non:es[i]? = none->∀ h',Heap.ExtBut it s.heap h'->Q none { s with heap:=h' }):wpAny (model prog w) A (pyNext (.ref it)) Q E s:=by
 have ty:=hit.typeIs;obtain ⟨o,ho,hc,hd⟩:=id hit;obtain ⟨od,hod,_,hdd⟩:=id hm;unfold pyNext; refine wpAny_bind (wpAny_attempt (wpAny_callSpecial?_slot (name:=Str.ofString "__next__") ty PySem.F.slot_dict_keyiterator_next (wpAny_call_entry PySem.F.slot_dict_keyiterator_next ty PySem.F.entry_dict_keyiterator_next ?_ (PySem.F.args_dict_keyiterator_next_1 _))));refine wpAny_bind (wpAny_pure (wpAny_bind (wpAny_bind ?_))); refine wpAny_bind (wpAny_typeNameOfWhole_keyiter ty (wpAny_pure (wpAny_bind (wpAny_fieldsOf ho hd ?_))));simp only [show Builtin.Dict_items.ownsTuple "dict_keyiterator" = false by decide,if_false,Bool.false_eq_true];change wpAny _ _ (if (Value.ref d == Value.none)=true then _ else _) _ _ s;rw [if_neg (nofun:¬ ((Value.ref d == Value.none)=true))];refine wpAny_bind (wpAny_pure (wpAny_bind (wpAny_dictEntries hod hdd ?_))); rw [if_neg (by simp)];refine wpAny_bind (wpAny_pure (wpAny_bind (wpAny_dictEpoch hod hdd ?_))); rw [if_neg (by simp)]; refine wpAny_pure ?_;simp only [Int.toNat_natCast,show ¬ ((i:Int) < 0) by lia,if_false];cases he:es[i]? with
 | some e=>
  refine wpAny_bind ?_; refine wpAny_bind (wpAny_typeNameOfWhole_keyiter ty (wpAny_pure ?_)); refine wpAny_bind (wpAny_isOneOf_keyiter ty ?_);change wpAny _ _ (setField (.ref it) 1 (rawInt ((i:Int)+1))>>=_) _ _ s; refine wpAny_bind (wpAny_setField ho hd (by simp) ?_);have nx:(s.heap.update it (Obj.mapFields (·.setIfInBounds 1 (rawInt ((i:Int)+1))))).IsKeyIter it d (i+1) es.size ep:=⟨_,Heap.get?_update_self _ ho (Obj.isFreed_of_fields (Obj.data_mapFields hd _)),(Obj.cls_mapFields ..).trans hc,by rw [Obj.data_mapFields hd]; simp [rawInt]⟩;refine wpAny_bind (wpAny_holding (wpAny_bind (wpAny_isOneOf_keyiter (s:={ s with heap:=s.heap.update it (Obj.mapFields (·.setIfInBounds 1 (rawInt ((i:Int)+1)))) }) nx.typeIs ?_)));change wpAny _ _ (pure e.key) _ _ _; exact wpAny_pure (wpAny_pure ⟨_,rfl,wpAny_pure (one e _ he nx (Heap.SameBut.update ..))⟩)
 | none=>
  refine wpAny_bind ?_; refine wpAny_bind (wpAny_typeNameOfWhole_keyiter ty (wpAny_pure ?_));change wpAny _ _ (setField (.ref it) 0 .none>>=_) _ _ s; refine wpAny_bind (wpAny_setField ho hd (by simp) ?_);change wpAny _ _ (newExc (.type "StopIteration") []>>=_) _ _ _; refine wpAny_bind ?_; simp only [newTuple,newExc];refine wpAny_bind (wpAny_newObj_type (wpAny_bind (m:=firstArgMember _ _) (wpAny_of_eq (a:=Value.none) (by first | rfl | (unfold firstArgMember; rfl)) (wpAny_newObj_type ?_ (by size_fits)))) (by size_fits));simp only [raiseNew]; refine wpAny_bind (wpAny_handled ?_); rw [show A.in1.handled=_ from hh]; refine wpAny_bind (wpAny_pure (wpAny_throw ?_));refine wpAny_bind (wpAny_isInstance (b:=true) (T := "StopIteration") ⟨_,Heap.get?_push_size _ rfl,rfl⟩ isSubtype_stop (wpAny_pure (non he _ ?_)));exact ((Heap.SameBut.update ..).extBut.push _).push _
end
section
variable {X:Cx}
end
section
variable {X:Cx}
end
section
variable {X:Cx}
end
section
variable {X:Cx} {o e:Expr} {to te:TE} {apos cpos:Pos}
end
theorem qm:typeLookup (.type "list") "keys" = pure none:=am_miss_of_fast (by kernel_rfl)
section
variable {prog:Program} {w:World} {A:Around} {E:Value->Shared->Prop} {s:Shared} {a:Addr} {its:Array Value} {n:Nat}
theorem uJ {Q:Option Value->Shared->Prop} (hx:s.heap.get? a=some { cls:=.type "list",dict:=none,data:=.seq its n,slots:=#[] }) (hA:A.handled=none)
  (q:∀ h' tk,(∀ b o,s.heap.get? b=some o->h'.get? b=some o)->Q none { s with heap:=h',toks:=tk }):wpAny (model prog w) A (getAttr? (.ref a) "keys") Q E s:=by
 obtain ⟨hp,g,d,tk,os⟩:=s;have ty:∀ tk',(⟨hp,g,d,tk',os⟩:Shared).TypeIs (.ref a) "list" := fun _=>⟨_,hx,rfl⟩
 have g1:=sub_AttributeError; have g3:=PySem.F.slot_list_getattribute.lookup; have g4:=PySem.F.slot_list_getattribute.bind (.ref a); have g5:=am_list_getattr_none;unfold getAttr? getAttrBy? getAttrBy
 repeat (any_goals (first | assumption | exact ty _ | ((with_reducible show wpAny _ _ (call (Value.builtin "list.__getattribute__") _ _) _ _ _); refine call_meets PySem.F.slot_list_getattribute (ty _) am_entry_list_getattribute (PySem.F.args_list_getattribute_2 _ _) (meets_getattribute_miss_list a its n #[] "keys" _ qm (by decide) (by size_fits)) ⟨hx,hA,fun h' tk' e hx'=>?_⟩) | wp_step))
 obtain ⟨t',u',he⟩:=hx'.there;show wpAny _ _ (getattributeRaised _ _ _ _ _ _ _) _ _ _;unfold getattributeRaised
 repeat (any_goals (first | assumption | wp_step))
 exact q h' tk' hx'.keeps
end
theorem cW:plainId "dict.update.loop" = true:=by decide +kernel
theorem iM:entryFor table "dict.update.loop" = some Builtin.«dict.update.loop»:=entryFor_of_tree (by kernel_rfl)
section
variable {prog:Program} {w:World} {A:Around} {E:Value->Shared->Prop} {K:Type} [DecidableEq K] {knd:KeyKind prog w K}
theorem xp {s:Shared} {d I l t:Addr} {i n:Nat} {its:Array Value} {kvs:List (K × Value)} {k:K} {key v:Value} {o:Obj} {Q:PySem.Fin->Shared->Prop} (hit:s.heap.IsListIter I l i) (hl:s.heap.IsList l its) (hx:its[i]? = some (.ref t)) (ht:s.heap.get? t=some o) (tc:o.cls=.type "tuple") (td:o.data=.seq #[key,v] n)
  (hk:knd.is k key=true) (hd:s.heap.DictOf knd d kvs) (hz:kvs.length<=sizeLine) (nt:t≠I) (nd:d≠I)
  (q:∀ h' tk,h'.IsListIter I l (i+1)->h'.DictOf knd d (stored kvs k v)->(∀ b o,b≠I->b≠d->s.heap.get? b=some o->h'.get? b=some o)->Q (.again (.builtin "dict.update.loop" ⟨[.ref d,.ref I,rawInt ((i:Int)+1),.none],[]⟩)) { s with heap:=h',toks:=tk }):
  wpAny (model prog w) A (Builtin.«dict.update.loop» ⟨[.ref d,.ref I,rawInt i,.none],[]⟩) Q E s:=by
 unfold Builtin.«dict.update.loop»;refine wpAny_bind (wpAny_pyNext_list_item hit hl hx fun h1 hit1 sb=>?_);have ht1:=sb.extBut t _ nt ht;have hT:({ s with heap:=h1 }:Shared).TypeIs (.ref t) "tuple" := ⟨_,ht1,tc⟩;have hd1:h1.DictOf knd d kvs:=by
  obtain ⟨o,es,ep,ho,r⟩:=hd;exact ⟨o,es,ep,sb.extBut d o nd ho,r⟩
 change wpAny _ _ (holding [Value.ref t] _>>=_) _ _ _;refine wpAny_bind (wpAny_holding (wpAny_bind ?_));change wpAny _ _ (tryCatch _ _) _ _ _;refine wpAny_tryCatch ?_;unfold Builtin.Dict.pairItems;refine wpAny_bind (wpAny_typeOf hT ?_);rw [if_pos (by decide)];refine wpAny_bind (wpAny_seqItems ht1 td (wpAny_pure ?_));change wpAny _ _ (holding [key,v] (dictSet d key v)) _ _ _;unfold dictSet;refine wpAny_holding (wpAny_holding (wpAny_bind (knd.pyHash hk (wpAny_dictSetHashed_pairs (s:={ s with heap:=h1,toks:=s.toks+1 }) hk hd1 (fun h2 hd2 sb2=>?_) hz))));change wpAny _ _ (pure _) _ _ _;refine wpAny_pure (q h2 (s.toks+1) ?_ hd2 fun b o n1 n2 e=>sb2.extBut b o n2 (sb.extBut b o n1 e));obtain ⟨o,ho,r⟩:=hit1;exact ⟨o,sb2.extBut I o (Ne.symm nd) ho,r⟩
theorem zA {s:Shared} {d I l:Addr} {i:Nat} {its:Array Value} {Q:PySem.Fin->Shared->Prop} (hh:A.handled=none) (hit:s.heap.IsListIter I l i) (hl:s.heap.IsList l its) (hx:its[i]? = none)
  (q:∀ h',Heap.ExtBut I s.heap h'->Q (.done (.ret .none)) { s with heap:=h' }):wpAny (model prog w) A (Builtin.«dict.update.loop» ⟨[.ref d,.ref I,rawInt i,.none],[]⟩) Q E s:=by
 unfold Builtin.«dict.update.loop»;refine wpAny_bind (wpAny_pyNext_list_end hh hit hl hx fun h1 eb=>?_);change wpAny _ _ (Builtin.Dict.addKeywords d []>>=_) _ _ _;exact wpAny_bind (wpAny_pure (wpAny_pure (q h1 eb)))
def PairAt (knd:KeyKind prog w K) (h:Heap) (p:K × Value) (u:Value):Prop:=∃ (t n:Nat) (key:Value) (o:Obj),u=.ref t/\h.get? t=some o/\o.cls=.type "tuple" /\ o.data=.seq #[key,p.2] n/\knd.is p.1 key=true
theorem xz {d I l:Addr} {its:Array Value} {R:Result->Shared->Prop} (hh:A.handled=none) (nd:d≠I) (nl:l≠I) (nld:l≠d) (ps:List (K × Value)) (hlen:ps.length=its.size) (hsz:ps.length<=100000):
  ∀ (m i:Nat) (s:Shared) (kvs:List (K × Value)),its.size - i=m->i<=its.size->s.heap.IsListIter I l i->s.heap.IsList l its->s.heap.DictOf knd d kvs->kvs.length<=i->(∀ (j:Nat) p u,ps[j]? = some p->its[j]? = some u->PairAt knd s.heap p u) ->
   (∀ h' tk,h'.DictOf knd d ((ps.drop i).foldl (fun a p=>stored a p.1 p.2) kvs)->(∀ b o,b≠I->b≠d->s.heap.get? b=some o->h'.get? b=some o)->R (.ok (.ret .none)) { s with heap:=h',toks:=tk }) ->
   codeAny (model prog w) A (.builtin "dict.update.loop" ⟨[.ref d,.ref I,rawInt i,.none],[]⟩) R s:=by
 intro m
 induction m with
 | zero=>
  intro i s kvs hm hi hit hl hd hk hp q;refine codeAny_builtin iM ?_;rw [Around.under_plainId cW];refine zA hh hit hl (by simp; lia) fun h' eb=>q h' s.toks ?_ fun b o n1 _ e=>eb b o n1 e
  rw [List.drop_eq_nil_of_le (by lia)];obtain ⟨o,es,ep,ho,r⟩:=hd;exact ⟨o,es,ep,eb d o nd ho,r⟩
 | succ m ih=>
  intro i s kvs hm hi hit hl hd hk hp q;have hlt:i < its.size:=by lia
  have hlp:i < ps.length:=by lia
  obtain ⟨t,n,key,ot,eu,ht,tc,td,hkey⟩:=hp i ps[i] its[i] (List.getElem?_eq_getElem hlp) (Array.getElem?_eq_getElem hlt);have nt:t≠I:=fun z=>by
   obtain ⟨o,ho,hc,_⟩:=hit;rw [z,ho] at ht;cases ht;rw [tc] at hc; exact absurd hc (by simp)
  refine codeAny_builtin iM ?_;rw [Around.under_plainId cW];refine xp hit hl (t:=t) (by rw [Array.getElem?_eq_getElem hlt,eu]) ht tc td hkey hd (Nat.le_trans hk (Nat.le_trans hi (by rw [<- hlen]; exact Nat.le_trans hsz (by decide)))) nt nd fun h1 tk hit1 hd1 kp=>⟨plainId_quiet cW _,?_⟩
  have hl1:h1.IsList l its:=by
   obtain ⟨o,ho,r⟩:=hl;exact ⟨o,kp l o nl nld ho,r⟩
  have hc:((i:Int)+1)=((i+1:Nat):Int):=by push_cast; rfl
  rw [hc];refine ih (i+1) { s with heap:=h1,toks:=tk } _ (by lia) (by lia) hit1 hl1 hd1 (Nat.le_trans (stored_length_le _ _ _) (by lia)) (fun j p u hj hu=>?_) fun h2 tk2 hd2 kp2=>?_
  ·obtain ⟨t',n',key',o',e1,e2,tc,td',e3⟩:=hp j p u hj hu;refine ⟨t',n',key',o',e1,kp t' _ (fun z=>?_) (fun z=>?_) e2,tc,td',e3⟩
   ·obtain ⟨o,ho,hc,_⟩:=hit;rw [z,ho] at e2;cases e2;rw [tc] at hc; exact absurd hc (by simp)
   ·obtain ⟨o,es,ep,ho,hc,_⟩:=hd;rw [z,ho] at e2;cases e2;have hc:=hc.1; rw [tc] at hc; exact absurd hc (by simp)
  ·refine q h2 tk2 ?_ fun b o n1 n2 e=>kp2 b o n1 n2 (kp b o n1 n2 e)
   rw [List.drop_eq_getElem_cons hlp];exact hd2
theorem mM:∀ (ps kvs:List (K × Value)),((kvs++ps).map (·.1)).Nodup->ps.foldl (fun a p=>stored a p.1 p.2) kvs=kvs++ps
 | [],kvs,_=>by simp
 | p::ps,kvs,h=>by
  have hn:valueAt kvs p.1=none:=by
   unfold valueAt;rw [List.find?_eq_none.mpr fun x hx=>?_]
   ·rfl
   ·rw [List.map_append,List.map_cons,List.nodup_append] at h;exact fun e=>h.2.2 x.1 (List.mem_map.mpr ⟨x,hx,rfl⟩) p.1 List.mem_cons_self (by simpa using e)
  rw [List.foldl_cons,stored_absent hn,mM ps _ (by simpa using h)];simp
theorem sy {s:Shared} {l:Addr} {its:Array Value} {n:Nat} {Q:Value->Shared->Prop} (hh:A.handled=none) (hl:s.heap.get? l=some { cls:=.type "list",dict:=none,data:=.seq its n,slots:=#[] }) (ps:List (K × Value)) (hlen:ps.length=its.size) (hsz:ps.length<=100000) (nd:(ps.map (·.1)).Nodup)
  (hp:∀ (j:Nat) p u,ps[j]? = some p->its[j]? = some u->PairAt knd s.heap p u)
  (q:∀ h' tk,h'.DictOf knd s.heap.objs.size ps->(∀ b o,s.heap.get? b=some o->h'.get? b=some o)->Q (.ref s.heap.objs.size) { s with heap:=h',toks:=tk }):wpAny (model prog w) A (call (.type "dict") [.ref l]) Q E s:=by
 refine callType_codes (Q₁:=fun obj s₁=>obj=.ref s.heap.objs.size/\s₁ = { s with heap:=s.heap.push { cls:=.type "dict",data:=.dict #[] } }) PySem.F.kt_called_dict (PySem.F.kt_typeCall_dict_1 _) PySem.F.entry_dict_init (kt_code_dict_new _ ⟨rfl,rfl⟩) ?_;rintro obj s₁ ⟨rfl,rfl⟩;have new:(s.heap.push { cls:=.type "dict",data:=.dict #[] }).DictOf knd s.heap.objs.size []:=Heap.DictOf.new s.heap;have hl1:=Heap.get?_push_of_some (h:=s.heap) { cls:=.type "dict",data:=.dict #[] } hl;have lt:l < s.heap.objs.size:=Heap.lt_size hl;refine ⟨new.typeIs,PySem.F.args_dict_init_2 _ _,?_⟩;unfold Builtin.«dict.__init__»; refine wpAny_bind ?_; unfold Builtin.Dict.selfAndRest; refine wpAny_bind (wpAny_notOrdered_dict new.typeIs ?_);change wpAny _ _ (pure (s.heap.objs.size,[Value.ref l])) _ _ _; refine wpAny_pure ?_;change wpAny _ _ (Builtin.Dict.updateFrom "dict.__init__" s.heap.objs.size (.ref l) [] .none) _ _ _; unfold Builtin.Dict.updateFrom;refine wpAny_bind (wpAny_typeOf (T := "list") ⟨_,hl1,rfl⟩ ?_);rw [if_pos (by decide)];refine wpAny_bind (uJ hl1 hh fun h1 tk1 kp1=>?_);rw [if_pos (show (none:Option Value).isNone=true from rfl)];have hl2:h1.IsList l its:=⟨_,kp1 _ _ hl1,rfl,n,rfl⟩;have sz:s.heap.objs.size < h1.objs.size:=by
  obtain ⟨o,es,ep,ho,_⟩:=new;exact Heap.lt_size (kp1 _ _ ho)
 refine wpAny_bind (wpAny_rule ?_);refine wpAny_bind (wpAny_pyIter_list (s:={ s with heap:=h1,toks:=tk1 }) hl2 ?_);refine wpAny_pure ⟨plainId_quiet cW _,?_⟩;have old:∀ b o,s.heap.get? b=some o->(h1.push { cls:=.type "list_iterator",data:=.fields #[.ref l,.int 0 0] }).get? b=some o:=fun b o e=>Heap.get?_push_of_some _ (kp1 _ _ (Heap.get?_push_of_some _ e))
 have new2:(h1.push { cls:=.type "list_iterator",data:=.fields #[.ref l,.int 0 0] }).DictOf knd s.heap.objs.size []:=by
  obtain ⟨o,es,ep,ho,r⟩:=new;exact ⟨o,es,ep,Heap.get?_push_of_some _ (kp1 _ _ ho),r⟩
 refine xz (A:=A.in1) (s:={ s with heap:=h1.push { cls:=.type "list_iterator",data:=.fields #[.ref l,.int 0 0] },toks:=tk1 }) (knd:=knd) (show A.in1.handled=none from hh) (Nat.ne_of_lt sz) (Nat.ne_of_lt (Nat.lt_trans lt sz)) (Nat.ne_of_lt lt) ps hlen hsz its.size 0 [] rfl (Nat.zero_le _) ⟨_,Heap.get?_push_size _ rfl,rfl,rfl⟩ (hl2.push _) new2 (Nat.le_refl _) (fun j p u hj hu=>?_) fun h2 tk2 hd2 kp2=>⟨rfl,?_⟩
 ·obtain ⟨t,n',key,o',e1,e2,e3⟩:=hp j p u hj hu;exact ⟨t,n',key,o',e1,old _ _ e2,e3⟩
 ·rw [List.drop_zero,mM ps [] (by simpa using nd),List.nil_append] at hd2;refine q h2 tk2 hd2 fun b o e=>kp2 b o (fun z=>?_) (fun z=>?_) (old b o e)
  ·have:=Heap.lt_size e;rw [z] at this;exact Nat.lt_asymm this sz
  ·exact Nat.lt_irrefl _ (z ▸ Heap.lt_size e)
end
section
variable {X:Cx}
noncomputable def kDictP:List V->Hp->VK->Prop:=fun xs H Q=>match xs with
 | [.ref p]=>∃ (vs:List V) (kvs:List (Key × V)),H p=some (.lst vs)/\kvs.length<=100000/\(kvs.map (·.1)).Nodup/\Paired (fun (kv:Key × V) v=>∃ t,v=.ref t/\H t=some (.tup [kV kv.1,kv.2])) kvs vs/\∀ d,H d=none->Q (.ref d) (upd H d (.dK kvs))
 | _=>False
theorem mY {P:Program} {w:World} {H:Hp} {h:Heap} (ok:HOk P w H h):∀ {kvs:List (Key × V)} {vs:List V} {us:List Value},Paired (fun (kv:Key × V) v=>∃ t,v=.ref t/\H t=some (.tup [kV kv.1,kv.2])) kvs vs->Vals vs us->∃ ps:List (Key × Value),KV kvs ps/\Paired (PairAt (mixKind P w) h) ps us
 | _,_,_,.nil,.nil=>⟨[],.nil,.nil⟩
 | kv::kvs,_,u::us,.cons ⟨t,rfl,ht⟩ p,.cons ru r=>by
  obtain ⟨ps,h1,h2⟩:=mY ok p r;cases ru;obtain ⟨_,its,rv,o,e1,e2,n,e3⟩:=(show ObjOk P w H h t (.tup [kV kv.1,kv.2]) from ok t _ ht);cases rv with
  | cons r1 rv=>cases rv with
   | cons r2 rv=>
    cases rv;exact ⟨(kv.1,_)::ps,.cons ⟨rfl,r2⟩ h1,.cons ⟨t,n,_,o,rfl,e1,e2,e3,pP r1⟩ h2⟩
theorem tJ (hc:X.calm=true):CallR X (.type "dict") kDictP:=by
 intro pins s σ H xs us Q I r q;unfold kDictP at q;split at q
 ·rename_i p;obtain ⟨vs,kvs,hp,hn,nd,pr,q⟩:=q;obtain ⟨u,rfl,ru⟩:=vals1 r;cases ru;obtain ⟨z,its,n,rl,hl,e⟩:=I.lstM hp;obtain ⟨ps,kv,pa⟩:=mY I.hok pr rl;have hl1:kvs.length=ps.length:=Paired.length kv;have hl2:ps.length=its.length:=Paired.length pa;have hk:kvs.map (·.1)=ps.map (·.1):=KV.keys kv;refine tokQ I.tk (sy (knd:=mixKind X.prog X.w) (I.ok.hd hc) e ps (by simp [hl2]) (by lia) (by rw [<- hk]; exact nd) (fun j x u hj hu=>?_) fun h' tk dd kp (htk:0 < tk)=>?_)
  ·obtain ⟨u',hu',h1⟩:=aH pa hj;rw [List.getElem?_toArray,hu'] at hu;cases hu;exact h1
  ·refine ⟨.ref s.heap.objs.size,_,I.laid (a:=s.heap.objs.size) (o:=.dK kvs) kp (Nat.le_refl _) (qc (Nat.le_trans hn (by decide)) ?_ kv dd),rfl,q _ I.fresh⟩;have:=I.big;simp only [beq_eq_false_iff_ne];exact Nat.ne_of_gt this
 ·exact q.elim
theorem xy {p:Addr} {H:Hp} {Q:VK}:kDictP [.ref p] H Q=∃ (vs:List V) (kvs:List (Key × V)),H p=some (.lst vs)/\kvs.length<=100000/\(kvs.map (·.1)).Nodup/\Paired (fun (kv:Key × V) v=>∃ t,v=.ref t/\H t=some (.tup [kV kv.1,kv.2])) kvs vs/\∀ d,H d=none->Q (.ref d) (upd H d (.dK kvs)):=rfl
end
theorem za:bootBuiltins "dict" = some (.type "dict"):=by decide +kernel
section
variable {X:Cx}
end
section
variable {X:Cx}
end
section
variable {K:Frag}
theorem sC {cl:Value} {od:Option Addr} {es:Array DictEntry} {ep:Nat} {sl:Array (Option Value)}:isTab ⟨cl,od,.dict es ep,sl⟩=false:=by
 unfold isTab;cases cl <;> rfl
theorem rN {N:Addr} (h:PySem.W.nsOkIn K N=true):PySem.W.nsOkIn (cut K) N=true:=by
 unfold PySem.W.nsOkIn at h ⊢;cases q:K.lookup N with
 | none=>simp only [q] at h; cases h
 | some o=>
  obtain ⟨cl,od,da,sl⟩:=o;cases da with
  | dict es ep=>
   simp only [q] at h;simp only [cut_lookup q sC];exact h
  | _=>simp only [q] at h; cases h
theorem ip {b:List Value}:∀ {l:List Value},PySem.W.tailIn K b l=true->PySem.W.tailIn (cut K) b l=true
 | [],h=>h
 | v::r,h=>by
  unfold PySem.W.tailIn at h ⊢;rw [Bool.or_eq_true] at h ⊢;rcases h with h | h
  ·exact .inl h
  ·refine .inr ?_;cases v with
   | ref A=>
    cases q:K.lookup A with
    | none=>simp only [q] at h; cases h
    | some o=>
     obtain ⟨cl,od,da,sl⟩:=o;cases da with
     | cls cd=>
      simp only [q] at h;simp only [cut_lookup q c7];simp only [Bool.and_eq_true,beq_iff_eq] at h ⊢;exact ⟨⟨rN h.1.1,cut_ns h.1.2⟩,ip h.2⟩
     | _=>simp only [q] at h; cases h
   | _=>cases h
theorem cut_exc {C:Addr} {b:List Value} {n:String} (h:PySem.W.excIn K C b n=true):PySem.W.excIn (cut K) C b n=true:=by
 unfold PySem.W.excIn at h;split at h
 ·rename_i od cd sl ho;split at h
  ·rename_i C' bm k0 k1 k2 k3 n' k5 hm hs;have e:=cut_lookup ho c7;simp only [Bool.and_eq_true] at h;obtain ⟨⟨⟨⟨h1,h2⟩,h3⟩,h4⟩,h5⟩:=h;unfold PySem.W.excIn;simp only [e,hm,hs];simp only [Bool.and_eq_true];rw [beq_iff_eq] at h5;exact ⟨⟨⟨⟨h1,h2⟩,ip h3⟩,rN h4⟩,by rw [beq_iff_eq]; exact cut_ns h5⟩
  ·cases h
 ·cases h
theorem cut_takes {a:Value} {r:Bool} (h:PySem.W.takesIn K a=some r):PySem.W.takesIn (cut K) a=some r:=by
 unfold PySem.W.takesIn at h;split at h
 ·rename_i v q;cases h;unfold PySem.W.takesIn;rw [cut_special q]
 ·rename_i q;obtain ⟨o,ho,e⟩:=Option.map_eq_some_iff.mp h;unfold PySem.W.takesIn;rw [cut_special q];exact Option.map_eq_some_iff.mpr ⟨o,cut_special ho,e⟩
 ·cases h
end
structure FunD (K:Frag) (x qual:Str) (st:Stmt) (f:Addr) (fd:FuncData) (items:Array Value):Prop where
 ex:∃ (oc:Value) (od:Option Addr) (T:Addr) (kV doc pm:Value) (an:Option Addr) (cdv ct:Value) (osl:Array (Option Value)) (o:Obj) (n:Nat),
  fd=fnOf x qual (defArgs st) (defBody st) (defScope st) (.ref T) kV doc pm an cdv ct/\K.lookup f=some ⟨oc,od,.func fd,osl⟩/\codeIn K cdv qual=true/\K.lookup T=some o/\o.data=.seq items n
 kp:keepIn K (.ref f)=true
def MkD (K:Frag) (x qual:Str) (st:Stmt) (items:Array Value):Prop:=∃ f fd,Mk K (xA K x) f/\FunD K "__init__" qual st f fd items
def KCalD (P:Program) (w:World) (K:Frag) (mg:Str->Option Value) (base:Heap) (k:Nat) (x:Str) (ps:List Str) (ds:List Value) (sp:Sp):Prop:=
 ∃ f fd,FnOk P w K mg base CX0 k f fd ps sp/\Binds K fd ps ds/\Mk K (xA K x) f
theorem MkD.cal {P:Program} {w:World} {K:Frag} {mg:Str->Option Value} {base:Heap} {x qual:Str} {st:Stmt} {N ps:List Str} {ds:List Value} {k:Nat} {sp:Sp} (F:MkD K x qual st ds.toArray) (S:FnScope N ps (defScope st)) (len:∀ vs H Q E,sp vs H Q E->vs.length=ps.length)
  (hb:∀ (T:Addr) (kV doc pm:Value) (an:Option Addr) (cdv ct:Value) (us:List Value),(us++ds).length=ps.length->∃ k,bindArgs (fnOf "__init__" qual (defArgs st) (defBody st) (defScope st) (.ref T) kV doc pm an cdv ct) ⟨us,[]⟩=(seqItems? (.ref T)>>=k)/\k (some ds.toArray)=pure (ps.zip (us++ds)))
  (hbody:∀ (f:Addr) (cdv:Value) (A:Around) (outer:List Env) (s:Shared) (H:Hp) (vs:List V) (Q:VK) (E:XK),Room k (A.deeper (envOfC qual (defScope st) s.heap.objs.size f cdv))->sp vs H Q E ->
   ∃ t,PSs (cxOf CX0 P w K mg base N qual (defScope st) f cdv A outer s H E).nox (defBody st) t/\t { nx:=fun _ H'=>Q .non H',rt:=Q } (start N vs) H):KCalD P w K mg base (k+1) x ps ds sp:=by
 obtain ⟨f,fd,M,⟨oc,od,T,kV,doc,pm,an,cdv,ct,osl,o,n,rfl,lk,hcd,lT,hT⟩,kp⟩:=F;refine ⟨f,_,qT lk hcd S len fun A outer s H vs Q E hr hsp=>?_,fun s us KX hl=>?_,M⟩
 ·obtain ⟨t,h,q⟩:=hbody f cdv A outer s H vs Q E hr hsp;exact ⟨t,h.nox,q⟩
 ·obtain ⟨k',h1,h2⟩:=hb T kV doc pm an cdv ct us hl;exact BindsTo.of_defaults (T:=T) rfl (KX _ _ lT) hT h1 h2
section
variable {X:Cx} {k:Nat} {x:Str} {ps:List Str} {sp:Sp} {p pos:Pos} {e:Expr} {es:List Expr} {t:TA} {ds:List Value} {dvs:List V}
theorem Ak (C:ClsT X.K X.mg x) (M:KCalD X.prog X.w X.K X.mg X.base k x ps ds sp) (hv:Vals dvs ds) (hr:Room (k+1) X.A) (hg:Gl X x) (ha:PA X (e::es) t) (hd:(x == ("__debug__" : Str))=false:=by decide)
  (he:starEach (e::es) X.env=(false,eval e X.env)::starEach es X.env:=by rfl) (hpl:(backTo pos (starEach es X.env)).any (·.1)=false:=by rfl):PE X (.Call (.Name x p) (e::es) [] pos) (tMake (xA X.K x) sp dvs E0 t):=by
 obtain ⟨f,fd,F,b,M⟩:=M;exact ut M F hr hg C.m b hv pass0 ha hd he hpl
end
section
variable {K:Frag} {x qual:Str} {C f:Addr} {st:Stmt} {fd:FuncData} {items:Array Value}
theorem AH (n:nsIn K mainGlobals x=some (some (.ref C))) (mk:PySem.W.makesIn K C=true) (kc:keepIn K (.ref C)=true) (a:findIn K (.ref C) "__init__" = some (some (.ref f))) (w:PySem.W.isFn K (.ref f)=true) (F:FunD K "__init__" qual st f fd items):MkD K x qual st items:=
 ⟨f,fd,by rw [jk n]; exact ⟨mk,a,w,kc⟩,F⟩
theorem ym {x qual:Str} {oc:Value} {od an odT:Option Addr} {osl oslT:Array (Option Value)} {kV doc pm cdv ct ocT:Value} {T:Addr} {n:Nat} (l:K.lookup f=some ⟨oc,od,.func (fnOf x qual (defArgs st) (defBody st) (defScope st) (.ref T) kV doc pm an cdv ct),osl⟩)
  (c:codeIn K cdv qual=true) (k:keepIn K (.ref f)=true) (lT:K.lookup T=some ⟨ocT,odT,.seq items n,oslT⟩):FunD K x qual st f (fnOf x qual (defArgs st) (defBody st) (defScope st) (.ref T) kV doc pm an cdv ct) items:=
 ⟨⟨oc,od,T,kV,doc,pm,an,cdv,ct,osl,_,n,rfl,l,c,lT,rfl⟩,k⟩
end
noncomputable def Itk (a:Addr) (o:Obj) (kvs:List (List Key × V)):It:=⟨fun i H=>H a=some (.frz o (.dT kvs))/\i < kvs.length,fun i H v H'=>H'=H/\∃ T kv,v=.ref T/\kvs[i]? = some kv/\H T=some (.tup (kv.1.map kV)),fun i H=>H a=some (.frz o (.dT kvs))/\i=kvs.length⟩
theorem so {X:Cx} {pins:List (Addr × Obj)} {σ:St} {H:Hp} {s:Shared} {a:Addr} {o:Obj} {kvs:List (List Key × V)} (I:Inv X pins σ H s) (e:H a=some (.frz o (.dT kvs))):
  ∃ xs es ep,KT H kvs xs/\o.data=.dict es ep/\RawD s.heap a es ep/\es.toList=xs.map (entryOfKey (tupleKind (mixKind X.prog X.w)))/\(a == sysModules)=false:=by
 obtain ⟨h1,_,hd,xs,rel,ob,es,ep,hq,he,hdt,hes,_⟩:=(show ObjOk X.prog X.w H s.heap a (.frz o (.dT kvs)) from I.hok a _ e);rw [h1] at hq;cases hq;exact ⟨xs,es,ep,rel,hdt,⟨o,h1,he,hdt⟩,hes,hd⟩
theorem uN {P:Program} {w:World} {K:Frag} {tg:Expr} (a it:Addr) (hne:a≠it) (o:Obj) (es:Array DictEntry) (hep:o.data=.dict es (epOf o)) (kvs:List (List Key × V)) (hl:es.size=kvs.length):
  Turn P w K tg (Itk a o kvs) [it] it (fun i h=>h.IsKeyIter it a i es.size (epOf o)) where
 mem:=by simp
 obj:=fun i h st b hb=>by
  obtain ⟨ob,he,hc,hd⟩:=st;have e:b=it:=by simpa using hb
  subst e;exact ⟨_,he,fun v z=>by rw [hd] at z; cases z⟩
 keep:=fun i h h' st k=>Heap.IsKeyIter.at st fun o e=>k it (by simp) o e
 item:=by
  intro X hP hw hK hc i pins s σ H E I hf st hg;subst hP hw hK;obtain ⟨hq,hi⟩:=hg;obtain ⟨xs,es',ep,kt,hdat,hm,hes,_⟩:=so I hq;rw [hep] at hdat;cases hdat;refine pM (I.ok.hd hc) st hm (fun e h' he it' sb=>⟨_,rfl,?_⟩) fun he=>?_
  ·rw [entry_at hes i] at he;obtain ⟨x,hx1,rfl⟩:=Option.map_eq_some_iff.mp he;obtain ⟨kv,hkv⟩:∃ kv,kvs[i]? = some kv:=⟨kvs[i],by simp [hi]⟩;obtain ⟨y,hy,h1,h2,h3⟩:=aH kt hkv;rw [hx1] at hy;cases hy;obtain ⟨ob,g1,g2,g3⟩:=id it';refine qV (s:={ s with heap:=h',toks:=s.toks }) (n := "dict_keyiterator") g1 g2 g3 (by decide) ⟨.ref x.2.1,H,I.turnedL (its:=[it]) (fun b o hb q=>sb.extBut b o (by simpa using hb) q) hf I.tk,rfl,⟨rfl,x.2.1,kv,rfl,hkv,h2⟩,it',fun b hb=>(hf b hb).1⟩
  ·rw [Array.getElem?_eq_none_iff] at he
   lia
 done:=by
  intro X hP hw hK hc i pins s σ H E I hf st hg;subst hP hw hK;obtain ⟨hq,rfl⟩:=hg;obtain ⟨xs,es',ep,kt,hdat,hm,hes,_⟩:=so I hq;rw [hep] at hdat;cases hdat;refine pM (I.ok.hd hc) st hm (fun e h' he=>?_) fun _ h' hx=>⟨rfl,I.turnedL (its:=[it]) (fun b o hb q=>hx b o (by simpa using hb) q) hf I.tk⟩
  rw [Array.getElem?_eq_none (by lia)] at he;cases he
 self:=fun A i s Q E st h=>wpAny_pyIter_keyiter st h
section
variable {X:Cx} {o:Expr} {to:TE} {tg:Expr}
noncomputable def cKeys (to:TE):TI:=fun σ H R=>to σ H fun x H1=>match x with
 | .ref a=>∃ ob kvs,H1 a=some (.frz ob (.dT kvs))/\R (Itk a ob kvs) H1
 | _=>False
theorem zm (ho:PE X o to):PI X tg o (cKeys to):=by
 intro pins s σ H R I h;refine thn (ho pins s σ H _ I h) fun u s1 ⟨x,H1,I1,rx,q1⟩=>?_
 dsimp only at q1;split at q1
 ·rename_i a;obtain ⟨ob,kvs,e1,q1⟩:=q1;obtain rfl:u=Value.ref a:=rx;obtain ⟨xs,es,ep,kt,hdat,hm,hes,lo⟩:=so I1 e1;have hep:ob.data=.dict es (epOf ob):=by
   rw [hdat];unfold epOf;rw [hdat]
  have e2:ep=epOf ob:=by
   unfold epOf;rw [hdat]
  subst e2;have hsz:es.size=kvs.length:=by rw [size_of_entries hes,Paired.length kt]
  refine v8 lo hm ?_;refine ⟨_,[_],_,Itk a ob kvs,H1,rfl,I1.kept (t':=s1.toks) fun b o e=>Heap.get?_push_of_some _ e,uN a _ (Nat.ne_of_lt hm.lt) ob es hep kvs hsz,⟨_,Heap.get?_push_size _ rfl,rfl,rfl⟩,fun b hb=>?_,q1⟩;have e:=List.mem_singleton.mp hb;subst e;exact I1.fpOk (Nat.le_refl _) (I1.hok.fresh (Nat.le_refl _))
 ·exact q1.elim
theorem yM {σ:St} {H:Hp} {R:It->Hp->Prop}:cKeys to σ H R=to σ H fun x H1=>match x with
 | .ref a=>∃ ob kvs,H1 a=some (.frz ob (.dT kvs))/\R (Itk a ob kvs) H1
 | _=>False:=rfl
theorem vM {g:TG} {tb:TS} {D:Ends} {σ:St} {H:Hp} {a:Addr} {ob:Obj} {kvs:List (List Key × V)} (Pv:Nat->St->Hp->Prop) (h0:Pv 0 σ H) (hl:∀ i σ H,i<=kvs.length->Pv i σ H->H a=some (.frz ob (.dT kvs)))
  (hs:∀ i kv σ H T,kvs[i]? = some kv->Pv i σ H->H T=some (.tup (kv.1.map kV))->g (.ref T) σ H fun σ2 H2=>tb (D.turn (Pv (i+1))) σ2 H2) (hd:∀ σ H,Pv kvs.length σ H->D.nx σ H):loopW (Itk a ob kvs) g tb D σ H:=
 sO (n:=kvs.length) Pv h0 (fun i σ H hi p=>⟨hl i σ H (by lia) p,hi⟩) (fun σ H p=>⟨hl _ σ H (Nat.le_refl _) p,rfl⟩) (fun i σ H x H' hi p y=>by
  obtain ⟨rfl,T,kv,rfl,hk,hT⟩:=y;exact hs i kv σ H' T hk p hT) hd
noncomputable def tRetT (te:TE):TS:=fun D σ H=>te σ H fun x H1=>match x with
 | .ref a=>∃ kvs,H1 a=some (.dT kvs)/\∀ ob,D.rt (.ref a) (upd H1 a (.frz ob (.dT kvs)))
 | _=>False
theorem Inv.frozenT {pins:List (Addr × Obj)} {σ:St} {H:Hp} {s:Shared} {a:Addr} {kvs:List (List Key × V)} (I:Inv X pins σ H s) (e:H a=some (.dT kvs)):∃ ob,Inv X pins σ (upd H a (.frz ob (.dT kvs))) s:=by
 obtain ⟨z,hd,xs,rel,ob,es,ep,hq,r⟩:=(show ObjOk X.prog X.w H s.heap a (.dT kvs) from I.hok a _ e);refine ⟨ob,?_⟩;refine jM (h':=s.heap) (t':=s.toks) I (by rw [e]; exact True.intro) ⟨rfl,fun _ _=>rfl⟩ ⟨ob,hq⟩ ⟨hq,z,hd,xs,Paired.mapP rel fun p q y=>⟨y.1,?_,y.2.2⟩,ob,es,ep,hq,r⟩;rw [ao (fun w=>by rw [w,e] at y; cases y.2.1)];exact y.2.1
theorem zd {pos:Pos} {e:Expr} {ty:TE} (he:PE X e ty):PS X (.Return (some e) pos) (tRetT ty):=by
 intro pins s σ H D I h;refine wpAny_Return_some (thn (he pins s σ H _ I h) fun v s1 ⟨x,H1,I1,r1,q1⟩=>?_);dsimp only at q1;split at q1
 ·rename_i a;obtain ⟨kvs,e1,q1⟩:=q1;obtain ⟨ob,I2⟩:=I1.frozenT e1;exact ⟨.ref a,σ,_,I2,r1,q1 ob⟩
 ·exact q1.elim
theorem zi {D:Ends} {σ:St} {H:Hp} {ty:TE}:tRetT ty D σ H=ty σ H fun x H1=>match x with
 | .ref a=>∃ kvs,H1 a=some (.dT kvs)/\∀ ob,D.rt (.ref a) (upd H1 a (.frz ob (.dT kvs)))
 | _=>False:=rfl
end
theorem oq {ls:List (List Nat)} {ss':List Str} (nd:ls.Nodup) (hp:ss'.Perm (ls.map st)) (hs:sortedS ss'=true):ss'=(srt ls).map st:=by
 refine uK (hp.trans ?_) hs;refine (List.perm_ext_iff_of_nodup ?_ (r8 _)).mpr fun x=>sU.symm
 exact List.pairwise_map.mpr (nd.imp fun {a b} z e=>z (qD.mp e))
section
variable {prog:Program} {w:World} {A:Around} {E:Value->Shared->Prop} {s:Shared}
theorem sq {l:Addr} {T:String} {o:Obj} {vs:List Value} {n:Nat} {Q:List Value->Shared->Prop} (hT:T = "list" \/ T = "tuple") (ho:s.heap.get? l=some o) (hc:o.cls=.type T) (hd:o.data=.seq vs.toArray n)
  (h:∀ h':Heap,(∀ b o,s.heap.get? b=some o->h'.get? b=some o)->s.heap.objs.size<=h'.objs.size->Q vs { s with heap:=h' }) (hsz:vs.length<=sizeLine):
  wpAny (model prog w) A (collect (.ref l)) Q E s:=by
 unfold collect;refine wpAny_bind (wpAny_runValue (codeAny_builtin entry_proto_collect' ?_));show wpAny _ _ (do again (.builtin "list.__iadd__" ⟨[<- newList [],.ref l],[]⟩)) _ _ s;refine wpAny_bind (wpAny_newList (wpAny_pure ⟨Code.quiet_builtin _ (by decide +kernel),codeAny_builtin entry_list_iadd' ?_⟩));show wpAny _ _ (Builtin.List.listExtendWith (.ref s.heap.objs.size) (.ref l) (.ref s.heap.objs.size)) _ _ { s with heap:=s.heap.push (seqObj "list" #[] 0) };unfold Builtin.List.listExtendWith;have ho':(s.heap.push (seqObj "list" #[] 0)).get? l=some o:=Heap.get?_push_of_some _ ho;refine wpAny_bind (wpAny_typeOf (T:=T) ⟨o,ho',hc⟩ ?_);have ht:(Value.type T == Value.type "list" || Value.type T == Value.type "tuple")=true:=by rcases hT with rfl | rfl <;> rfl
 rw [if_pos (by rw [Bool.or_assoc,ht]; simp)];refine wpAny_bind (listItems_at ho' hd ?_);refine wpAny_bind (listItems_at (xs:=#[]) (n:=0) (Heap.get?_push_size _ rfl) rfl ?_);rw [if_neg (by simp)];refine wpAny_bind (listUpdate_at (xs:=#[]) (n:=0) (Heap.get?_push_size _ rfl) rfl ?_ (Nat.zero_le _) (by show (#[]++vs.toArray).size<=sizeLine+1; simp only [Array.size_append,List.size_toArray,List.length_nil]; lia));refine wpAny_pure ?_;show wpAny (model prog w) A (do
   let o <- load s.heap.objs.size
   match o.data with
   | .seq xs _=>pure xs.toList
   | _=>unsupported "internal:collect") Q E { s with heap:=(s.heap.push (seqObj "list" #[] 0)).update s.heap.objs.size (Obj.mapSeq (· ++ vs.toArray)) }
 refine wpAny_bind (wpAny_load (get?_update_seq (Heap.get?_push_size _ rfl) _) ?_);show wpAny _ _ (pure ((#[]:Array Value)++vs.toArray).toList) Q E _;rw [show ((#[]:Array Value)++vs.toArray).toList=vs by simp];refine wpAny_pure (h _ (fun b o' hb=>?_) (by rw [Heap.size_update,size_push']; exact Nat.le_succ _));exact (Heap.get?_update_other _ _ (Nat.ne_of_gt (Heap.lt_size hb))).trans (Heap.get?_push_of_some _ hb)
theorem q5 {a:Addr} {T:String} {o:Obj} {vs:List Value} {n:Nat} {ss:List Str} {Q:Value->Shared->Prop} (hT:T = "list" \/ T = "tuple") (ho:s.heap.get? a=some o) (hc:o.cls=.type T) (hd:o.data=.seq vs.toArray n) (hSA:StrsAre vs ss) (hb:vs.length < 64)
  (h:∀ (D:Addr) (h':Heap) (out:List Value) (ss':List Str) (e:Nat),(∀ b o,s.heap.get? b=some o->h'.get? b=some o)->s.heap.objs.size<=D->h'.get? D=some (seqObj "list" out.toArray e) ->
   StrsAre out ss'->ss'.Perm ss->sortedS ss'=true->Q (.ref D) { s with heap:=h' }):
  wpAny (model prog w) A (call (.builtin "sorted") [.ref a]) Q E s:=by
 refine Calls.call_function_entry kind_sorted plain_sorted entry_sorted (args_sorted1 _) ?_;unfold Builtin.«sorted»;refine wpAny_bind (m:=checkCount "sorted" 1 1 _) (wpAny_pure ?_);refine wpAny_bind (sq hT ho hc hd (fun h1 old sz=>?_) (by rw [sizeLine_eq]; lia));refine wpAny_bind (wpAny_newList ?_ (by rw [sizeLine_eq]; lia));have hD:(h1.push (seqObj "list" vs.toArray 0)).get? h1.objs.size=some (seqObj "list" vs.toArray 0):=Heap.get?_push_size _ rfl;refine wpAny_bind (wpAny_holding (wpAny_call_entry slot_list_sort ⟨_,hD,rfl⟩ entry_list_sort (list_sort_treeK (κ:=PyProof.Rows.strKind) strKind_oneLt hD hSA.keysOf (fun v₁ v₂ rest e=>keyKind_strs (by rw [<- e]; exact hSA)) hb fun st' a1 a2=>⟨_,rfl,?_⟩) (args_list_sort _)));obtain ⟨ss',b1,b2,b3⟩:=sorted_out_str hSA a1 a2;obtain ⟨e,he⟩:=sortedHeap_at (out:=(arrOf st').map (·.2)) hD;refine wpAny_pure ⟨_,rfl,h _ _ ((arrOf st').map (·.2)).toList ss' e (fun b o q=>?_) sz (by rw [Array.toArray_toList]; exact he) b1 b2 b3⟩;have hb1:=Heap.lt_size (old b o q);rw [sortedHeap_old (Nat.ne_of_lt hb1) (by rw [size_push']; exact Nat.lt_succ_of_lt hb1)];exact Heap.get?_push_of_some _ (old b o q)
end
section
variable {X:Cx}
theorem pq:∀ {ls:List (List Nat)} {us:List Value},Vals (ls.map fun l=>V.str (st l)) us->StrsAre us (ls.map st)
 | [],us,h=>by cases h; exact .nil
 | l::ls,us,h=>by
  cases h with
  | cons r t=>
   obtain ⟨u,rfl⟩:=r;exact .cons _ _ (pq t)
noncomputable def kSortT (K:Frag):List V->Hp->VK->Prop:=fun xs H Q=>match xs with
 | [.ref p]=>∃ ls:List (List Nat),(SqL K H p (ls.map fun l=>V.str (st l))\/SqT K H p (ls.map fun l=>V.str (st l)))/\ls.length < 64/\ls.Nodup/\∀ q,H q=none->Q (.ref q) (upd H q (.lst ((srt ls).map fun l=>V.str (st l))))
 | _=>False
theorem xJ {K:Frag} {p:Addr} {H:Hp} {Q:VK}:kSortT K [.ref p] H Q=∃ ls:List (List Nat),(SqL K H p (ls.map fun l=>V.str (st l))\/SqT K H p (ls.map fun l=>V.str (st l)))/\ls.length < 64/\ls.Nodup/\∀ q,H q=none->Q (.ref q) (upd H q (.lst ((srt ls).map fun l=>V.str (st l)))):=rfl
theorem gD (K:Frag) (hK:X.K=K):CallR X (.builtin "sorted") (kSortT K):=by
 subst hK;intro pins s σ H xs us Q I r q;unfold kSortT at q;split at q
 ·rename_i p;obtain ⟨ls,hq,hn,nd,q⟩:=q;obtain ⟨u,rfl,ru⟩:=vals1 r;cases ru;have key:∃ (T:String) (o:Obj) (vs:List Value) (n:Nat),(T = "list" \/ T = "tuple")/\s.heap.get? p=some o/\o.cls=.type T/\o.data=.seq vs.toArray n/\Vals (ls.map fun l=>V.str (st l)) vs:=by
   rcases hq with hq | hq
   ·obtain ⟨its,rv,pl,_⟩:=I.list hq;obtain ⟨o,ho,hc,n,hd⟩:=pl.isList;exact ⟨"list",o,its,n,.inl rfl,ho,hc,hd,rv⟩
   ·obtain ⟨its,rv,⟨o,ho,hc,n,hd⟩,_⟩:=I.tuple hq;exact ⟨"tuple",o,its,n,.inr rfl,ho,hc,hd,rv⟩
  obtain ⟨T,o,vs,n,hT,ho,hc,hd,rv⟩:=key;have hl:=rv.length;rw [List.length_map] at hl;refine q5 hT ho hc hd (pq rv) (by lia) fun D h' out ss' e old hD ho' hso hp hsd=>?_
  obtain rfl:=oq nd hp hsd;have hv:Vals ((srt ls).map fun l=>V.str (st l)) out:=by
   have:=oN hso
   rwa [List.map_map] at this
  have hsl:(srt ls).length < 64:=by
   have:=hp.length_eq;simp only [List.length_map] at this
   lia
  exact ⟨.ref D,_,I.laid (a:=D) (o:=.lst ((srt ls).map fun l=>V.str (st l))) (t':=s.toks) old hD ⟨by rw [List.length_map,sizeLine_eq]; lia,out,e,hv,ho'⟩,rfl,q _ (I.hok.fresh hD)⟩
 ·exact q.elim
noncomputable def kCatU (K:Frag):R2:=fun x y H Q=>match x,y with
 | .ref a,.ref b=>∃ xs ys,SqT K H a xs/\SqT K H b ys/\ys≠[]/\xs.length+ys.length<=1000/\(xs=[]->Q (.ref b) H)/\(xs≠[]->∀ p,H p=none->Q (.ref p) (upd H p (.tup (xs++ys))))
 | _,_=>False
theorem yJ (K:Frag) (hK:X.K=K):OpR X (binaryOp .Add) (kCatU K):=by
 subst hK;intro pins s σ H x y v u Q I rx ry q;unfold kCatU at q;split at q
 ·obtain ⟨xs,ys,h1,h2,h3,h4,q0,q1⟩:=q;by_cases hx:xs=[]
  ·cases rx;cases ry;obtain ⟨its,r1,p1,_⟩:=I.tuple h1;obtain ⟨its2,r2,p2,_⟩:=I.tuple h2;obtain ⟨⟨cls,dd,data,sl⟩,ho,hc,n,hd⟩:=id p1;obtain ⟨⟨cls2,dd2,data2,sl2⟩,ho2,hc2,n2,hd2⟩:=id p2;simp only at hc hd hc2 hd2;subst hc hd hc2 hd2;exact concat_meets ⟨_,ho,rfl⟩ ⟨_,ho2,rfl⟩ noFill_tuple_add seq_tuple_add PySem.F.slot_tuple_add PySem.F.entry_tuple_add (PySem.F.args_tuple_add_2 _ _)
    (tuple_addW0 _ _ its.toArray its2.toArray n n2 dd dd2 sl sl2 (by simp [r1.nil_iff.mpr hx])) ⟨ho,ho2,.ref _,H,I,rfl,q0 hx⟩
  ·exact yO pins s σ H _ _ v u Q I rx ry ⟨_,_,xs,ys,rfl,rfl,h1,h2,hx,Nat.le_trans h4 (by decide),fun z=>absurd z h3,fun _ p hp=>q1 hx p hp⟩
 ·exact q.elim
theorem Aa {e:Expr}:PE X e (fun _ _ _=>False):=fun _ _ _ _ _ _ h=>h.elim
end
end L2
set_option maxHeartbeats 4000000
namespace L2
open PySem PySem.Spec PyProof.Rows
theorem lc {c:Scope} {x:Str} (h:Loc c x:=by first | exact Or.inl rfl | exact Or.inr rfl):Loc c x:=h
theorem Room.m {j k:Nat} {A:Around} (r:Room k A) (h:j<=k:=by first | decide | exact Nat.le_refl _ | exact Nat.le_succ _ | exact Nat.le_add_left _ _ | lia):Room j A:=r.mono h
end L2
namespace Law
open PySem L2 Mir
noncomputable def top (i:Nat):Stmt:=PySem.Challenge.pw_throng_k74_turns_refused.main.body.getD i (.Pass ⟨0,0,0,0⟩)
noncomputable abbrev jD:Stmt:=top 2
theorem fH:FnScope ["one", "other", "signs", "mine", "its"] ["one", "other"] (defScope jD):=⟨rfl,rfl,rfl,by decide +kernel,rfl,by decide +kernel,by decide +kernel⟩
noncomputable abbrev cV:Stmt:=top 6
theorem lS:FnScope ["row", "places"] ["row", "places"] (defScope cV):=⟨rfl,rfl,rfl,by decide +kernel,rfl,by decide +kernel,by decide +kernel⟩
noncomputable abbrev gF:Stmt:=top 8
theorem og:FnScope ["heap"] ["heap"] (defScope gF):=⟨rfl,rfl,rfl,by decide +kernel,rfl,by decide +kernel,by decide +kernel⟩
noncomputable abbrev dz:Stmt:=top 9
theorem fc:FnScope ["heap", "places", "place"] ["heap"] (defScope dz):=⟨rfl,rfl,rfl,by decide +kernel,rfl,by decide +kernel,by decide +kernel⟩
noncomputable abbrev cU:Stmt:=top 41
theorem lR:FnScope ["layout"] ["layout"] (defScope cU):=⟨rfl,rfl,rfl,by decide +kernel,rfl,by decide +kernel,by decide +kernel⟩
noncomputable abbrev g8:Stmt:=top 42
theorem cK:FnScope ["layout", "name", "first", "field", "size"] ["layout", "name"] (defScope g8):=⟨rfl,rfl,rfl,by decide +kernel,rfl,by decide +kernel,by decide +kernel⟩
noncomputable abbrev de:Stmt:=top 44
theorem gQ:FnScope ["heap", "row", "rows", "met", "places"] ["heap", "row"] (defScope de):=⟨rfl,rfl,rfl,by decide +kernel,rfl,by decide +kernel,by decide +kernel⟩
noncomputable abbrev iw:Stmt:=top 45
theorem dR:FnScope ["pairs", "width", "firsts", "signs", "number"] ["pairs", "width"] (defScope iw):=⟨rfl,rfl,rfl,by decide +kernel,rfl,by decide +kernel,by decide +kernel⟩
noncomputable abbrev gS:Stmt:=top 46
theorem cp:FnScope ["firsts", "places", "no_firsts", "yes_firsts", "no", "yes"] ["firsts", "places"] (defScope gS):=⟨rfl,rfl,rfl,by decide +kernel,rfl,by decide +kernel,by decide +kernel⟩
noncomputable abbrev du:Stmt:=top 47
theorem mW:FnScope ["firsts", "sign", "width"] ["firsts", "sign", "width"] (defScope du):=⟨rfl,rfl,rfl,by decide +kernel,rfl,by decide +kernel,by decide +kernel⟩
noncomputable abbrev dI:Stmt:=top 52
theorem kW:FnScope ["ways"] ["ways"] (defScope dI):=⟨rfl,rfl,rfl,by decide +kernel,rfl,by decide +kernel,by decide +kernel⟩
noncomputable abbrev kD:Stmt:=top 53
theorem sx:FnScope ["way", "size"] ["way", "size"] (defScope kD):=⟨rfl,rfl,rfl,by decide +kernel,rfl,by decide +kernel,by decide +kernel⟩
noncomputable abbrev gH:Stmt:=top 56
theorem fO:FnScope ["house", "door", "gate", "rules"] ["house", "door"] (defScope gH):=⟨rfl,rfl,rfl,by decide +kernel,rfl,by decide +kernel,by decide +kernel⟩
noncomputable abbrev nr:Stmt:=top 58
theorem pe:FnScope ["layout", "way", "first"] ["layout", "way"] (defScope nr):=⟨rfl,rfl,rfl,by decide +kernel,rfl,by decide +kernel,by decide +kernel⟩
noncomputable abbrev iJ:Stmt:=top 61
theorem dW:FnScope ["net", "ends", "one", "other"] ["net"] (defScope iJ):=⟨rfl,rfl,rfl,by decide +kernel,rfl,by decide +kernel,by decide +kernel⟩
noncomputable abbrev cR:Stmt:=top 75
theorem je:FnScope ["one", "other"] ["one", "other"] (defScope cR):=⟨rfl,rfl,rfl,by decide +kernel,rfl,by decide +kernel,by decide +kernel⟩
noncomputable abbrev fz:Stmt:=top 76
theorem pY:FnScope ["net"] ["net"] (defScope fz):=⟨rfl,rfl,rfl,by decide +kernel,rfl,by decide +kernel,by decide +kernel⟩
noncomputable abbrev dA:Stmt:=top 77
theorem mm:FnScope ["house"] ["house"] (defScope dA):=⟨rfl,rfl,rfl,by decide +kernel,rfl,by decide +kernel,by decide +kernel⟩
noncomputable abbrev gA:Stmt:=top 78
theorem rP:FnScope ["one", "other", "names"] ["one", "other", "names"] (defScope gA):=⟨rfl,rfl,rfl,by decide +kernel,rfl,by decide +kernel,by decide +kernel⟩
noncomputable abbrev gX:Stmt:=top 79
theorem fN:FnScope ["one", "other", "demands", "turner", "order"] ["one", "other", "demands"] (defScope gX):=⟨rfl,rfl,rfl,by decide +kernel,rfl,by decide +kernel,by decide +kernel⟩
noncomputable abbrev ir:Stmt:=top 81
theorem cA:FnScope ["net", "gates", "name", "house", "door", "rules"] ["net"] (defScope ir):=⟨rfl,rfl,rfl,by decide +kernel,rfl,by decide +kernel,by decide +kernel⟩
noncomputable abbrev eF:Stmt:=top 82
theorem cN:FnScope ["crowd", "demands", "number", "demand", "letter"] ["crowd", "demands"] (defScope eF):=⟨rfl,rfl,rfl,by decide +kernel,rfl,by decide +kernel,by decide +kernel⟩
noncomputable abbrev kY:Stmt:=top 84
theorem gY:FnScope ["_law_script", "_law_k", "_law_many", "_law_cell", "_law_mixed"] ["_law_script", "_law_k", "_law_many"] (defScope kY):=⟨rfl,rfl,rfl,by decide +kernel,rfl,by decide +kernel,by decide +kernel⟩
noncomputable abbrev b9:Stmt:=top 85
theorem bh:FnScope ["_law_script", "_law_k", "_law_count", "_law_letters", "_law_word", "_law_turn", "_law_names_here", "_law_size", "_law_place", "_law_first", "_law_signs_here"] ["_law_script", "_law_k", "_law_count"] (defScope b9):=⟨rfl,rfl,rfl,by decide +kernel,rfl,by decide +kernel,by decide +kernel⟩
noncomputable abbrev ge:Stmt:=top 86
theorem eG:FnScope ["_law_script", "_law_k", "_law_others", "_law_at"] ["_law_script", "_law_k"] (defScope ge):=⟨rfl,rfl,rfl,by decide +kernel,rfl,by decide +kernel,by decide +kernel⟩
noncomputable abbrev gK:Stmt:=top 87
theorem rW:FnScope ["_law_script", "_law_k", "_law_width"] ["_law_script", "_law_k", "_law_width"] (defScope gK):=⟨rfl,rfl,rfl,by decide +kernel,rfl,by decide +kernel,by decide +kernel⟩
noncomputable abbrev fG:Stmt:=top 88
theorem dY:FnScope ["_law_script", "_law_k", "_law_width", "_law_shift", "_law_word", "_law_signs_here", "_law_over"] ["_law_script", "_law_k", "_law_width", "_law_shift"] (defScope fG):=⟨rfl,rfl,rfl,by decide +kernel,rfl,by decide +kernel,by decide +kernel⟩
noncomputable abbrev ee:Stmt:=top 89
theorem ox:FnScope ["_law_script", "_law_k", "_law_size"] ["_law_script", "_law_k", "_law_size"] (defScope ee):=⟨rfl,rfl,rfl,by decide +kernel,rfl,by decide +kernel,by decide +kernel⟩
noncomputable abbrev fI:Stmt:=top 90
theorem dZ:FnScope ["_law_script", "_law_k", "_law_size", "_law_doors", "_law_ways_here", "_law_j", "_law_signs_here"] ["_law_script", "_law_k", "_law_size", "_law_doors"] (defScope fI):=⟨rfl,rfl,rfl,by decide +kernel,rfl,by decide +kernel,by decide +kernel⟩
noncomputable abbrev cB:Stmt:=top 91
theorem bW:FnScope ["_law_script", "_law_k", "_law_layout_here", "_law_doors", "_law_shift", "_law_width", "_law_gates", "_law_j", "_law_here", "_law_many", "_law_size"] ["_law_script", "_law_k", "_law_layout_here", "_law_doors", "_law_shift"] (defScope cB):=⟨rfl,rfl,rfl,by decide +kernel,rfl,by decide +kernel,by decide +kernel⟩
noncomputable abbrev gJ:Stmt:=top 92
theorem cq:FnScope ["_law_script", "_law_k", "_law_spots_here", "_law_spare", "_law_free", "_law_most", "_law_lines_here", "_law_j", "_law_one"] ["_law_script", "_law_k", "_law_spots_here", "_law_spare"] (defScope gJ):=⟨rfl,rfl,rfl,by decide +kernel,rfl,by decide +kernel,by decide +kernel⟩
noncomputable abbrev gZ:Stmt:=top 93
theorem b5:FnScope ["_law_script", "_law_k", "_law_most", "_law_spare", "_law_layout_here", "_law_names_here", "_law_doors", "_law_houses", "_law_spots_here", "_law_j", "_law_own"] ["_law_script", "_law_k", "_law_most", "_law_spare"] (defScope gZ):=⟨rfl,rfl,rfl,by decide +kernel,rfl,by decide +kernel,by decide +kernel⟩
noncomputable abbrev fU:Stmt:=top 94
theorem mF:FnScope ["_law_row_here", "_law_pad", "_law_front"] ["_law_row_here", "_law_pad", "_law_front"] (defScope fU):=⟨rfl,rfl,rfl,by decide +kernel,rfl,by decide +kernel,by decide +kernel⟩
noncomputable abbrev dX:Stmt:=top 95
theorem bx:FnScope ["_law_net_here", "_law_size", "_law_front", "_law_layout_here", "_law_houses", "_law_name", "_law_house_here", "_law_gates", "_law_door", "_law_rules"] ["_law_net_here", "_law_size", "_law_front"] (defScope dX):=⟨rfl,rfl,rfl,by decide +kernel,rfl,by decide +kernel,by decide +kernel⟩
noncomputable abbrev cP:Stmt:=top 96
theorem i9:FnScope ["_law_rule_here", "_law_size", "_law_front"] ["_law_rule_here", "_law_size", "_law_front"] (defScope cP):=⟨rfl,rfl,rfl,by decide +kernel,rfl,by decide +kernel,by decide +kernel⟩
noncomputable abbrev dU:Stmt:=top 100
theorem aW:FnScope ["_law_script", "_law_most", "_law_spare", "_law_size", "_law_front", "_law_one", "_law_houses", "_law_j", "_law_name", "_law_house_here", "_law_doors", "_law_other"] ["_law_script", "_law_most", "_law_spare"] (defScope dU):=⟨rfl,rfl,rfl,by decide +kernel,rfl,by decide +kernel,by decide +kernel⟩
noncomputable abbrev cM:Stmt:=top 101
theorem kU:FnScope ["_law_names_here"] ["_law_names_here"] (defScope cM):=⟨rfl,rfl,rfl,by decide +kernel,rfl,by decide +kernel,by decide +kernel⟩
noncomputable abbrev dw:Stmt:=top 102
theorem mC:FnScope ["_law_one", "_law_other"] ["_law_one", "_law_other"] (defScope dw):=⟨rfl,rfl,rfl,by decide +kernel,rfl,by decide +kernel,by decide +kernel⟩
noncomputable abbrev eZ:Stmt:=top 103
theorem ck:FnScope ["_law_one", "_law_other", "_law_caught", "e", "_law_others"] ["_law_one", "_law_other"] (defScope eZ):=⟨rfl,rfl,rfl,by decide +kernel,rfl,by decide +kernel,by decide +kernel⟩
noncomputable abbrev ap:Stmt:=top 104
theorem aV:FnScope ["_law_script", "_law_net_here", "_law_layout_here", "_law_houses", "_law_lines_here", "_law_name", "_law_house_here", "_law_own", "_law_doors", "_law_left", "_law_some"] ["_law_script", "_law_net_here"] (defScope ap):=⟨rfl,rfl,rfl,by decide +kernel,rfl,by decide +kernel,by decide +kernel⟩
noncomputable abbrev uf:Stmt:=top 105
theorem kN:FnScope ["_law_script", "_law_one", "_law_other", "_law_pads", "_law_found", "_law_far"] ["_law_script"] (defScope uf):=⟨rfl,rfl,rfl,by decide +kernel,rfl,by decide +kernel,by decide +kernel⟩
noncomputable abbrev aY:Stmt:=inClass (top 59) 0
theorem fF:FnScope ["self", "layout", "house", "door", "every"] ["self", "layout", "house", "door"] (defScope aY):=⟨rfl,rfl,rfl,by decide +kernel,rfl,by decide +kernel,by decide +kernel⟩
noncomputable abbrev bz:Stmt:=inClass (top 66) 0
theorem jH:FnScope ["self", "net", "gates", "by_rules"] ["self", "net", "gates", "by_rules"] (defScope bz):=⟨rfl,rfl,rfl,by decide +kernel,rfl,by decide +kernel,by decide +kernel⟩
noncomputable abbrev aP:Stmt:=inClass (top 80) 0
theorem jb:FnScope ["self", "one", "other", "demands"] ["self", "one", "other", "demands"] (defScope aP):=⟨rfl,rfl,rfl,by decide +kernel,rfl,by decide +kernel,by decide +kernel⟩
noncomputable abbrev aK:Stmt:=inClass (top 80) 1
theorem aI:FnScope ["self", "names", "name", "after", "is_new", "broken", "order"] ["self", "names"] (defScope aK):=⟨rfl,rfl,rfl,by decide +kernel,rfl,by decide +kernel,by decide +kernel⟩
noncomputable abbrev bq:Stmt:=inClass (top 80) 2
theorem iL:FnScope ["self", "names"] ["self", "names"] (defScope bq):=⟨rfl,rfl,rfl,by decide +kernel,rfl,by decide +kernel,by decide +kernel⟩
noncomputable abbrev bt:Stmt:=inClass (top 80) 3
theorem cD:FnScope ["self", "names", "gates", "spot"] ["self", "names"] (defScope bt):=⟨rfl,rfl,rfl,by decide +kernel,rfl,by decide +kernel,by decide +kernel⟩
structure Top (K:Frag) (mg:Str->Option Value):Prop where
 n6:Fn K mg "row_meet" jD
 iT:Fn K mg "row_narrowed" cV
 kq:Fn K mg "heap_width" gF
 jw:Fn K mg "heap_places" dz
 iV:Fn K mg "layout_width" cU
 kn:Fn K mg "field_span" g8
 pV:Fn K mg "fork_of" de
 lM:Fn K mg "firsts_of" iw
 h8:Fn K mg "fork_below" gS
 ju:Fn K mg "firsts_side" du
 ik:Fn K mg "longest_first" dI
 pS:Fn K mg "way_row" kD
 km:Fn K mg "gate_rules" gH
 si:Fn K mg "to_row" nr
 lL:Fn K mg "line_ends" iJ
 fm:Fn K mg "check_changeable" cR
 lN:Fn K mg "net_doors" fz
 jq:Fn K mg "house_doors" dA
 nU:Fn K mg "mixed_by" gA
 j9:Fn K mg "turn_order" gX
 lH:Fn K mg "net_gates" ir
 iP:Fn K mg "first_broken" eF
 pT:Fn K mg "_law_by" kY
 kj:Fn K mg "_law_names" b9
 jr:Fn K mg "_law_layout" ge
 nS:Fn K mg "_law_row" gK
 lI:Fn K mg "_law_rule" fG
 kh:Fn K mg "_law_signs" ee
 lJ:Fn K mg "_law_ways" fI
 ku:Fn K mg "_law_house" cB
 kg:Fn K mg "_law_lines" gJ
 nW:Fn K mg "_law_net" gZ
 jt:Fn K mg "_law_padded" fU
 kr:Fn K mg "_law_wider" dX
 fq:Fn K mg "_law_rule_padded" cP
 j7:Fn K mg "_law_twins" dU
 ij:Fn K mg "_law_stranger" cM
 jv:Fn K mg "_law_unlike" dw
 iO:Fn K mg "_law_refused" eZ
 jp:Fn K mg "_law_turned" ap
 Ae:Fn K mg "law" uf
 gx:MkT K "Gate" "Gate.__init__" aY
 fK:MkD K "Crowd" "Crowd.__init__" bz [Value.bool false].toArray
 fk:MkT K "Turner" "Turner.__init__" aP
 cf:MethT K "Turner" "order_behind" "Turner.order_behind" aK
 dQ:MethT K "Turner" "broken_by" "Turner.broken_by" bq
 fj:MethT K "Turner" "crowd_of" "Turner.crowd_of" bt
 c_Gate:ClsT K mg "Gate"
 a_Gate_rules:NoAttr K (xA K "Gate") "rules"
 a_Gate_ways:NoAttr K (xA K "Gate") "ways"
 a_Gate_rules_fork:NoAttr K (xA K "Gate") "rules_fork"
 a_Gate_ways_fork:NoAttr K (xA K "Gate") "ways_fork"
 c_Crowd:ClsT K mg "Crowd"
 a_Crowd_layout:NoAttr K (xA K "Crowd") "layout"
 a_Crowd_houses:NoAttr K (xA K "Crowd") "houses"
 a_Crowd_ends:NoAttr K (xA K "Crowd") "ends"
 a_Crowd_gates:NoAttr K (xA K "Crowd") "gates"
 a_Crowd_by_rules:NoAttr K (xA K "Crowd") "by_rules"
 a_Crowd_shares:NoAttr K (xA K "Crowd") "shares"
 a_Crowd_known:NoAttr K (xA K "Crowd") "known"
 c_Turner:ClsT K mg "Turner"
 a_Turner_one:NoAttr K (xA K "Turner") "one"
 a_Turner_other:NoAttr K (xA K "Turner") "other"
 a_Turner_demands:NoAttr K (xA K "Turner") "demands"
 a_Turner_unlike:NoAttr K (xA K "Turner") "unlike"
 a_Turner_one_gates:NoAttr K (xA K "Turner") "one_gates"
 a_Turner_other_gates:NoAttr K (xA K "Turner") "other_gates"
 a_Turner_judged:NoAttr K (xA K "Turner") "judged"
 a_Turner_blocks:NoAttr K (xA K "Turner") "blocks"
 uH:mg "zip" = none
 bZ:mg "len" = none
 ci:mg "range" = none
 Af:mg "any" = none
 yg:mg "sum" = none
 iQ:mg "enumerate" = none
 iU:mg "sorted" = none
 kZ:mg "list" = none
 yd:mg "max" = none
 aN:mg "isinstance" = none
 ki:mg "ValueError" = none
 jL:mg "reversed" = none
 qO:mg "tuple" = none
 yf:mg "dict" = none
 lam_longest_first:∃ c T,LamFn K mg "longest_first" c T
 gy:Xn K mg "NoField"
 iR:Xn K mg "NoDoor"
 cL:Xn K mg "Unlike"
 gf:Xn K mg "ThrongError"
 nY:Xn K mg "Misfit"
 qR:Xn K mg "Twice"
 nR:Xn K mg "NoRule"
 qQ:Xn K mg "NoWay"
 lf:Xn K mg "NoHouse"
 nX:Xn K mg "NoLine"
 lb:Xn K mg "BadWord"
 gu:Xv K "Unlike"
 bd:Xm K "Unlike" "ThrongError" true
 bP:Xm K "Unlike" "Misfit" false
 bY:Xm K "Unlike" "Twice" false
 bK:Xm K "Unlike" "NoField" false
 bT:Xm K "Unlike" "Unlike" true
 bR:Xm K "Unlike" "NoRule" false
 bX:Xm K "Unlike" "NoWay" false
 bQ:Xm K "Unlike" "NoDoor" false
 bL:Xm K "Unlike" "NoHouse" false
 bS:Xm K "Unlike" "NoLine" false
 bJ:Xm K "Unlike" "BadWord" false
local macro_rules | `(tactic| walk_at "rd")=>`(tactic| try simp only [AO,B1,BE,yP,zT,y0,B0,BO,zJ,zn,ww,A7,AR,zZ,zu,zL,BP,Bm,A9,Be,Bg,zO,yU,zN,vL,AM,BR,vg,y6,BB,xF,BA,Ty.isBl,Ty.isInt,Ty.isStr,Ty.isLst,Ty.isTup,zM,BZ,zx,Bo,BS,Bc,Bv,BQ,AQ,xQ,BC,zW,yF,BN,Ap,AS,zy,Al,yX,A6,Bl,As,zb,zq,AD,yG,zX,Bh,yK,zw,yi,compσ,L2.start,BW,Az,CDiv,CPow,List.map_cons,List.map_nil,List.length_cons,List.length_nil,List.replicate_succ,List.replicate_zero,List.cons_append,List.nil_append,List.getElem?_cons_zero,List.getElem?_cons_succ,List.set_cons_zero,List.set_cons_succ,Option.getD_some,Option.getD_none,Nat.reduceAdd,Nat.reduceSub,Bool.false_bne,Bool.true_bne,Bool.false_xor,Bool.true_xor,Bool.not_eq_true',decide_eq_true_eq,decide_eq_false_iff_not,Bool.not_true,Bool.not_false,if_true,if_false,true_and,and_true,Int.reduceLT,Int.reduceLE,Nat.reduceLeDiff,Bool.false_eq_true,yu,Bd,Ax,xT,wX,Ar,wu,sN,An,wV,AT,xS,wA,BM,Aw,yv,yk,Au,wR,AY,zH,Bf,zo,yS,vD,y9,wP,xB,vW,wq,BX,sR,zI,yT,Bu,AI,yo,zV,zl,yL,vd,xy,yM,zi,xJ,ite_not,bM,Bool.true_eq_false,Int.zero_add,reduceIte,ite_true,ite_false])
section
variable {P:Program} {w:World} {K:Frag} {mg:Str->Option Value} {base:Heap}
set_option hygiene false in
local macro_rules | `(tactic| walk_at "el")=>`(tactic| (repeat first | (replace h:=az.el h; obtain ⟨_,_,rfl,h⟩:=h) | (replace h:=bB.el h; obtain ⟨_,_,rfl,h⟩:=h) | (replace h:=dP.el h; obtain ⟨_,_,rfl,h⟩:=h) | (replace h:=jj.el h; obtain ⟨_,_,rfl,h⟩:=h) | (replace h:=oQ.el h; obtain ⟨_,_,rfl,h⟩:=h) | (replace h:=aM.el h; obtain ⟨rfl,h⟩:=h)))
noncomputable abbrev Fld:=List Nat × Nat
def FldAt (H:Hp) (x:Fld) (v:V):Prop:=∃ t,v=.ref t/\H t=some (.tup [tx x.1,.int x.2])
def Lay (H:Hp) (p:Addr) (ls:List Fld):Prop:=∃ vs,H p=some (.lst vs)/\Paired (FldAt H) ls vs
theorem c6 {H H':Hp} (k:∀ t vs,H t=some (.tup vs)->H' t=some (.tup vs)) {ls:List Fld} {vs:List V} (h:Paired (FldAt H) ls vs):Paired (FldAt H') ls vs:=
 L2.Paired.mapP h fun _ _ ⟨t,e,q⟩=>⟨t,e,k _ _ q⟩
theorem Lay.same {H H':Hp} {p:Addr} {ls:List Fld} (h:Lay H p ls) (s:Same H H'):Lay H' p ls:=by
 obtain ⟨vs,e,pr⟩:=h;exact ⟨vs,s _ _ e,c6 (fun t us q=>s _ _ q) pr⟩
noncomputable def fldD (x:Fld):D:=.t [.f (tx x.1),.f (.int x.2)]
noncomputable def widthL (ls:List Fld):Nat:=(ls.map (·.2)).sum
theorem bi {α β:Type} {F:α -> β -> Prop} {l:List α} {m:List β} (h:Paired F l m):(l.zip m).map (·.2)=m/\∀ x ∈ l.zip m,F x.1 x.2:=by
 induction h with
 | nil=>exact ⟨rfl,fun x hx=>by cases hx⟩
 | cons r _ ih=>exact ⟨by rw [List.zip_cons_cons,List.map_cons,ih.1],fun x hx=>by
   rw [List.zip_cons_cons] at hx;rcases List.mem_cons.mp hx with rfl | hx
   ·exact r
   ·exact ih.2 x hx⟩
theorem dt {α β:Type}:∀ {l:List α} {m:List β},l.length=m.length->(l.zip m).map (·.1)=l
 | [],_,_=>rfl
 | x::l,[],h=>by cases h
 | x::l,y::m,h=>by rw [List.zip_cons_cons,List.map_cons,dt (by simpa using h)]
theorem sd:∀ l:List Nat,(l.map fun n:Nat=>(n:Int)).sum=(l.sum:Nat)
 | []=>rfl
 | x::l=>by rw [List.map_cons,List.sum_cons,List.sum_cons,sd l]; lia
noncomputable def dH (K:Frag):Sp:=az fun p=>aM fun H Q _=>∃ ls:List Fld,Lay H p ls/\ls.length<=1000/\∀ H',Same H H'->Q (.int (widthL ls:Nat)) H'
theorem ig (T:Top K mg):Callee P w K mg base 1 "layout_width" ["layout"] (dH K):=by
 refine T.iV.cal lR (by unfold dH; exact LenSp.h) (fun _ _ _ _ _ _ us hl=>match us,hl with | [_],_=>rfl) (fun f cdv A outer s H vs Q E hr h=>?_);unfold dH at h;walk_at "el";refine ⟨_,(ai (aC (aB (oX K rfl rfl) rfl T.yg wM (aa (aQ (nt:=2) (fi:=[]) (N':=["name", "size"]) rfl (cscope rfl (by decide +kernel)) (cnames (N:=["layout"]) (sc:=defScope cU) rfl rfl (by decide +kernel)) (dS (by decide) (by decide)) (iterE K rfl (qv 0)) (fun _ _ _ _ _=>(tupE K rfl rfl (n:=2) (ar (ak (i:=0) (by show (["name", "size"]:List Str).Nodup; decide +kernel) rfl lc) (ar (ak (i:=1) (by show (["name", "size"]:List Str).Nodup; decide +kernel) rfl lc) bn)))) (fun _ _ _ _ _=>aU) (fun _ _ _ _ _=>(qv 1))) ad)))),?_⟩;rename_i p;obtain ⟨ls,⟨vs,e0,pr⟩,hn,q⟩:=h;have hl:=pr.length;obtain ⟨z1,z2⟩:=bi pr;walk_at "rd";refine .inl ⟨⟨_,SqL.of e0⟩,fun D hD=>?_⟩;refine bv (item:=fun x:Fld × V=>x.2) (xs:=ls.zip vs) (h:=fun x=>[V.int x.1.2]) hD (by rw [z1]; exact SqL.of e0) (by rw [List.length_zip]; lia) (fun _=>by simp) ?_ ?_
 ·intro x H1 out non hx s1 ho _;obtain ⟨t,ex,et⟩:=z2 x hx;rw [ex];refine ⟨t,[_,_],rfl,SqT.of (s1 _ _ et),rfl,_,[_],rfl,_,[],rfl,rfl,?_⟩;walk_at "rd";exact ho _ _ rfl (Same.refl _)
 ·intro H1 s1 e1;rw [show (ls.zip vs).flatMap (fun x=>[V.int x.1.2])=(ls.map fun x:Fld=>(x.2:Int)).map V.int by
   rw [<- dt (l:=ls) (m:=vs) hl];simp only [List.map_map];rw [dt hl]
   induction ls.zip vs with
   | nil=>rfl
   | cons x r ih=>rw [List.flatMap_cons,ih]; rfl] at e1
  walk_at "rd";refine ⟨_,SqL.of e1,?_⟩;have:=q H1 s1;unfold widthL at this;rw [show (ls.map fun x:Fld=>(x.2:Int)).sum=((ls.map (·.2)).sum:Nat) by rw [<- sd,List.map_map]; rfl];exact this
noncomputable def spanF:List Fld->List Nat->Nat->Option (Nat × Nat)
 | [],_,_=>none
 | (f,z)::r,n,a=>if f=n then some (a,a+z) else spanF r n (a+z)
theorem jC:∀ (l r:List Fld) (n:List Nat) (a:Nat),(∀ x ∈ l,¬ x.1=n)->spanF (l++r) n a=spanF r n (a+widthL l)
 | [],r,n,a,_=>rfl
 | (f,z)::l,r,n,a,h=>by
  have h0:¬ f=n:=h (f,z) List.mem_cons_self;rw [List.cons_append,spanF,if_neg h0,jC l r n (a+z) fun x hx=>h x (List.mem_cons_of_mem _ hx)];unfold widthL;rw [List.map_cons,List.sum_cons,Nat.add_assoc]
theorem qd (n:List Nat):(st n).length=n.length:=by simp [Str.length]
noncomputable def fL (K:Frag):Sp:=az fun p=>dP fun n=>aM fun H Q E=>∃ ls:List Fld,Lay H p ls/\(∀ c ∈ n.cps.toList,c < 16 ^ 8)/\n.cps.toList.length<=1000 /\
   (∀ a b,spanF ls n.cps.toList 0=some (a,b)->∀ t H',H t=none->Same H H'->H' t=some (.tup [.int (a:Nat),.int (b:Nat)])->Q (.ref t) H') /\
   (spanF ls n.cps.toList 0=none->∀ H',Same H H'->E (.ref (xA K "NoField")) none H')
theorem oJ (T:Top K mg):CalleeX P w K mg base 1 "field_span" ["layout", "name"] (fL K):=by
 refine T.kn.calX cK (by unfold fL; exact LenSp.h) (fun _ _ _ _ _ _ us hl=>match us,hl with | [_,_],_=>rfl) (fun f cdv A outer s H vs Q E hr h=>?_);unfold fL at h;walk_at "el";refine ⟨_,(af (au (i:=2) cK.nd rfl lc ae)
   (af (cu PassesOwn.leaving rfl (iterE K rfl (qv 0)) (tupE K rfl rfl (n:=2) (ar (ak (i:=3) cK.nd rfl lc) (ar (ak (i:=4) cK.nd rfl lc) bn))) (af (bU (aF dM (qv 3) (qv 1)) (ai (aC (aA (aa (qv 2) (aa (am aj (qv 2) (qv 4)) ad))))) aO)
   (ai (au (i:=2) cK.nd rfl lc (am aj (qv 2) (qv 4))))))
   (ai (iI rfl gr rfl T.gy.1 T.gy.2 (aa (z9 (mh (qs [110,111,32,102,105,101,108,100,32]) (mh (uo (qv 1)) xb))) ad))))),?_⟩
 rename_i p s;obtain ⟨n,rfl⟩:∃ x,s=st x:=⟨_,(b8 s).symm⟩;obtain ⟨ls,⟨vs,e0,pr⟩,hc,hn,q1,q2⟩:=h;simp only [bM] at q1 q2 hc hn;have hl:=pr.length;walk_at "rd";refine .inl ⟨⟨_,SqL.of e0⟩,?_⟩;refine cC (xs:=vs) (fun i σ H'=>∃ u v,σ = [some (.ref p),some (.str (st n)),some (.int (widthL (ls.take i):Nat)),u,v]/\Same H H'/\∀ x ∈ ls.take i,¬ x.1=n) ⟨none,none,rfl,Same.refl _,fun x hx=>by simp at hx⟩ (fun i σ H' _ ⟨_,_,_,z,_⟩=>SqL.of (z _ _ e0)) ?_ ?_
 ·rintro i x σ H1 hx ⟨u,v,rfl,s1,h1⟩;have hi:i < vs.length:=(List.getElem?_eq_some_iff.mp hx).1;have hil:i < ls.length:=by lia
  obtain ⟨y,hy,t,ey,et⟩:=aH pr (List.getElem?_eq_getElem hil);obtain rfl:x=.ref t:=by rw [hy] at hx; rw [<- Option.some.inj hx,ey]
  refine ⟨t,[_,_],rfl,SqT.of (s1 _ _ et),rfl,_,[_],rfl,_,[],rfl,rfl,?_⟩;walk_at "rd";have sp:spanF ls n 0=spanF (ls.drop i) n (0+widthL (ls.take i)):=by
   have:=jC (ls.take i) (ls.drop i) n 0 h1;rw [List.take_append_drop] at this;exact this
  rw [List.drop_eq_getElem_cons hil,Nat.zero_add] at sp;have w1:widthL (ls.take (i+1))=widthL (ls.take i)+ls[i].2:=by
   unfold widthL;rw [List.take_add_one,List.getElem?_eq_getElem hil,Option.toList_some,List.map_append,List.sum_append];simp
  refine ite2 (fun g=>⟨by decide,fun t2 ht2=>?_⟩) fun g=>⟨some (tx ls[i].1),some (.int ls[i].2),?_,s1,fun y hy=>?_⟩
  ·refine q1 (widthL (ls.take i)) (widthL (ls.take i)+ls[i].2) ?_ t2 _ (s1.free ht2) (s1.trans (ah ht2 _)) ?_
   ·rw [sp,show ls[i]=(ls[i].1,ls[i].2) from rfl,spanF,if_pos g]
   ·rw [upd_same];simp
  ·rw [w1];simp
  ·rw [List.take_add_one,List.getElem?_eq_getElem hil] at hy;rcases List.mem_append.mp hy with hy | hy
   ·exact h1 y hy
   ·have e:y=ls[i]:=by simpa using hy
    rw [e];exact g
 ·rintro σ H1 ⟨u,v,rfl,s1,h1⟩;walk_at "rd";have e:spanF ls n 0=none:=by
   have:=jC ls [] n 0 fun x hx=>h1 x (by rw [<- hl,List.take_length]; exact hx)
   rw [List.append_nil] at this;exact this
  have hz:(st n).length=n.length:=qd n;refine ⟨by rw [qd]; exact Nat.le_of_lt (sizeBig (by decide)),hc,by lia,fun z hzz=>⟨?_,fun _=>⟨by decide,q2 e H1 s1⟩⟩⟩;rw [qd];exact Nat.le_of_lt (sizeBig (by simp only [List.length_cons,List.length_nil]; lia))
noncomputable abbrev Rule:=List Nat × List Nat × List Nat
def RuleAt (H:Hp) (x:Rule) (v:V):Prop:=∃ t,v=.ref t/\H t=some (.tup [tx x.1,tx x.2.1,tx x.2.2])
def Rules (H:Hp) (p:Addr) (rs:List Rule):Prop:=∃ vs,H p=some (.lst vs)/\Paired (RuleAt H) rs vs
theorem eV {H H':Hp} (k:∀ t vs,H t=some (.tup vs)->H' t=some (.tup vs)) {rs:List Rule} {vs:List V} (h:Paired (RuleAt H) rs vs):Paired (RuleAt H') rs vs:=
 L2.Paired.mapP h fun _ _ ⟨t,e,q⟩=>⟨t,e,k _ _ q⟩
theorem cz {H:Hp} {g:Addr} {xs ys:List V} (h:H g=some (.lst xs)):∀ t vs,H t=some (.tup vs)->upd H g (.lst ys) t=some (.tup vs):=fun t vs q=>by
 rw [ao (fun e=>by rw [e,h] at q; cases q)];exact q
theorem Rules.same {H H':Hp} {p:Addr} {rs:List Rule} (h:Rules H p rs) (s:Same H H'):Rules H' p rs:=by
 obtain ⟨vs,e,pr⟩:=h;exact ⟨vs,s _ _ e,eV (fun t us q=>s _ _ q) pr⟩
noncomputable def ruleD (x:Rule):D:=.t [.f (tx x.1),.f (tx x.2.1),.f (tx x.2.2)]
noncomputable def dropT:List Nat:=[100,114,111,112]
noncomputable def passT:List Nat:=[112,97,115,115]
noncomputable abbrev Way:=List Nat × List Nat
def WayAt (H:Hp) (x:Way) (v:V):Prop:=∃ t,v=.ref t/\H t=some (.tup [tx x.1,tx x.2])
def Ways (H:Hp) (p:Addr) (ws:List Way):Prop:=∃ vs,H p=some (.lst vs)/\Paired (WayAt H) ws vs
theorem bu {H H':Hp} (k:∀ t vs,H t=some (.tup vs)->H' t=some (.tup vs)) {ws:List Way} {vs:List V} (h:Paired (WayAt H) ws vs):Paired (WayAt H') ws vs:=
 L2.Paired.mapP h fun _ _ ⟨t,e,q⟩=>⟨t,e,k _ _ q⟩
theorem Ways.same {H H':Hp} {p:Addr} {ws:List Way} (h:Ways H p ws) (s:Same H H'):Ways H' p ws:=by
 obtain ⟨vs,e,pr⟩:=h;exact ⟨vs,s _ _ e,bu (fun t us q=>s _ _ q) pr⟩
theorem aD {α β:Type} {F:α -> β -> Prop} {l:List α} {m:List β} {x:α} {y:β} (h:Paired F l m) (r:F x y):Paired F (l++[x]) (m++[y]):=by
 induction h with
 | nil=>exact .cons r .nil
 | cons r' _ ih=>exact .cons r' ih
noncomputable def wayD (x:Way):D:=.t [.f (tx x.1),.f (tx x.2)]
noncomputable abbrev Gate:=List Nat × List Rule
noncomputable abbrev House:=List Gate × List Way
def GateAt (H:Hp) (x:Gate) (v:V):Prop:=∃ t p,v=.ref t/\H t=some (.tup [tx x.1,.ref p])/\Rules H p x.2
def Gates (H:Hp) (p:Addr) (gs:List Gate):Prop:=∃ vs,H p=some (.lst vs)/\Paired (GateAt H) gs vs
def HouseAt (H:Hp) (t:Addr) (h:House):Prop:=∃ g w,H t=some (.tup [.ref g,.ref w])/\Gates H g h.1/\Ways H w h.2
theorem Gates.same {H H':Hp} {p:Addr} {gs:List Gate} (h:Gates H p gs) (s:Same H H'):Gates H' p gs:=by
 obtain ⟨vs,e,pr⟩:=h;exact ⟨vs,s _ _ e,L2.Paired.mapP pr fun _ _ ⟨t,q,e,h1,h2⟩=>⟨t,q,e,s _ _ h1,h2.same s⟩⟩
theorem HouseAt.same {H H':Hp} {t:Addr} {h:House} (x:HouseAt H t h) (s:Same H H'):HouseAt H' t h:=by
 obtain ⟨g,w,e,h1,h2⟩:=x;exact ⟨g,w,s _ _ e,h1.same s,h2.same s⟩
noncomputable def gateOf (gs:List Gate) (n:List Nat):Option (List Rule):=(gs.find? fun g=>decide (g.1=n)).map (·.2)
noncomputable def toT:List Nat:=[116,111]
noncomputable def abc:List Nat:=(List.range 26).map (97+·)
theorem wS {i:Nat} (h:i < 26):abc[i]? = some (97+i):=by
 unfold abc;rw [List.getElem?_map,List.getElem?_range h];rfl
def Low (l:List Nat):Prop:=∀ c ∈ l,97<=c/\c<=122
theorem pJ {n:Nat} (f:Nat->List Nat) (h:∀ i j,i < n->j < n->f i=f j->i=j):((List.range n).map f).Nodup:=by
 refine List.pairwise_map.mpr (List.Pairwise.imp_of_mem ?_ List.nodup_range);intro a b ha hb hab e;exact hab (h a b (List.mem_range.mp ha) (List.mem_range.mp hb) e)
theorem dj {α β:Type} (f:α -> β) (l:List α):(l.flatMap fun x=>[f x])=l.map f:=by
 induction l with
 | nil=>rfl
 | cons x l ih=>rw [List.flatMap_cons,ih]; rfl
noncomputable abbrev nV (n:Nat):V:=V.int (n:Int)
theorem pZ (n:List Nat) (l:List (List Nat)):inV (tx n) (l.map tx)=decide (n ∈ l):=by
 unfold inV
 induction l with
 | nil=>simp
 | cons d l ih=>
  rw [List.map_cons,List.any_cons,ih];simp only [eqV,List.mem_cons];have stj:st n=st d ↔ n=d:=⟨fun h=>by simpa using congrArg (fun x:Str=>x.cps.toList) h,fun h=>by rw [h]⟩;by_cases h:n=d
  ·subst h; simp
  ·have h2:¬ d=n:=fun z=>h z.symm
   simp [h,h2]
theorem jY (l:List (List Nat)):(l.map tx).all flatV=true:=by
 rw [List.all_eq_true];intro v hv;obtain ⟨c,_,rfl⟩:=List.mem_map.mp hv;rfl
theorem eX {α β:Type} {F:α -> V->Prop} {P:β -> Prop} {g:β -> V} (h:∀ a v,F a v->∃ b,P b/\v=g b):∀ {l:List α} {vs:List V},Paired F l vs->∃ bs:List β,vs=bs.map g/\bs.length=l.length/\∀ b ∈ bs,P b
 | _,_,.nil=>⟨[],rfl,rfl,fun b hb=>by simp at hb⟩
 | _,_,.cons r p=>by
  obtain ⟨b,h1,rfl⟩:=h _ _ r;obtain ⟨bs,rfl,h3,h4⟩:=eX h p;refine ⟨b::bs,rfl,by simp [h3],fun c hc=>?_⟩;rcases List.mem_cons.mp hc with rfl | hc
  ·exact h1
  ·exact h4 c hc
theorem kF {α:Type} {l:List α} {i:Nat} (h:i < l.length):∃ c,c ∈ l/\atI l (i:Int)=some c:=⟨l[i],List.getElem_mem h,cw (List.getElem?_eq_getElem h)⟩
theorem xX {cs:List Nat} {B:Nat} {vs:List V} (e:vs=cs.map nV) (h:∀ c ∈ cs,c<=B) {i:Nat} (hi:i < vs.length):∃ c,c<=B/\atI vs (i:Int)=some (nV c):=by
 subst e;obtain ⟨v,hv,ev⟩:=kF hi;obtain ⟨c,hc,rfl⟩:=List.mem_map.mp hv;exact ⟨c,h c hc,ev⟩
theorem fV {α β:Type} {F:β -> V->Prop} {P:β -> Prop}:∀ {l:List α} {vs:List V},Paired (fun _ v=>∃ b,P b/\F b v) l vs->∃ bs:List β,Paired F bs vs/\bs.length=l.length/\∀ b ∈ bs,P b
 | _,_,.nil=>⟨[],.nil,rfl,fun b hb=>by simp at hb⟩
 | _,_,.cons ⟨b,h1,h2⟩ p=>by
  obtain ⟨bs,h3,h4,h5⟩:=fV p;refine ⟨b::bs,.cons h2 h3,by simp [h4],fun c hc=>?_⟩;rcases List.mem_cons.mp hc with rfl | hc
  ·exact h1
  ·exact h5 c hc
def GateB (gl:Addr) (F:Addr->Prop) (H:Hp) (x:Gate) (v:V):Prop:=∃ t r,v=.ref t/\(r≠gl/\F r)/\H t=some (.tup [tx x.1,.ref r])/\Rules H r x.2
theorem tE {gl:Addr} {F:Addr->Prop} {H H':Hp} (s:Same H H') {gs:List Gate} {vs:List V} (p:Paired (GateB gl F H) gs vs):Paired (GateB gl F H') gs vs:=
 L2.Paired.mapP p fun _ _ ⟨t,r,e,n,h1,h2⟩=>⟨t,r,e,n,s _ _ h1,h2.same s⟩
theorem oS {gl r:Addr} {H:Hp} {us us':List V} {rs:List Rule} (h:H gl=some (.lst us)) (n:r≠gl) (hr:Rules H r rs):Rules (upd H gl (.lst us')) r rs:=by
 obtain ⟨vs,e,pr⟩:=hr;refine ⟨vs,?_,eV (cz h) pr⟩;rw [ao n];exact e
theorem vo {gl:Addr} {F:Addr->Prop} {H:Hp} {us us':List V} (h:H gl=some (.lst us)) {gs:List Gate} {vs:List V} (p:Paired (GateB gl F H) gs vs):Paired (GateB gl F (upd H gl (.lst us'))) gs vs:=
 L2.Paired.mapP p fun _ _ ⟨t,r,e,n,h1,h2⟩=>⟨t,r,e,n,cz h _ _ h1,oS h n.1 h2⟩
def GateN (N:Addr->Prop) (H:Hp) (x:Gate) (v:V):Prop:=∃ t r,v=.ref t/\N r/\H t=some (.tup [tx x.1,.ref r])/\Rules H r x.2
structure HouseN (F:Addr->Prop) (H:Hp) (q g w:Addr) (hs:House):Prop where
 tup:H q=some (.tup [.ref g,.ref w])
 ne:g≠w
 gates:∃ vs,H g=some (.lst vs)/\Paired (GateN (fun r=>r≠g/\r≠w/\F r) H) hs.1 vs
 ways:Ways H w hs.2
theorem HouseN.at {F:Addr->Prop} {H:Hp} {q g w:Addr} {hs:House} (h:HouseN F H q g w hs):HouseAt H q hs:=by
 obtain ⟨vs,e,p⟩:=h.gates;exact ⟨g,w,h.tup,⟨vs,e,L2.Paired.mapP p fun _ _ ⟨t,r,e,_,h1,h2⟩=>⟨t,r,e,h1,h2⟩⟩,h.ways⟩
theorem HouseN.same {F:Addr->Prop} {H H':Hp} {q g w:Addr} {hs:House} (h:HouseN F H q g w hs) (s:Same H H'):HouseN F H' q g w hs:=by
 obtain ⟨vs,e,p⟩:=h.gates;exact ⟨s _ _ h.tup,h.ne,⟨vs,s _ _ e,L2.Paired.mapP p fun _ _ ⟨t,r,e,n,h1,h2⟩=>⟨t,r,e,n,s _ _ h1,h2.same s⟩⟩,h.ways.same s⟩
noncomputable abbrev Named:=List Nat × House
def NamedAt (H:Hp) (x:Named) (v:V):Prop:=∃ t q,v=.ref t/\H t=some (.tup [tx x.1,.ref q])/\HouseAt H q x.2
def Houses (H:Hp) (p:Addr) (hs:List Named):Prop:=∃ vs,H p=some (.lst vs)/\Paired (NamedAt H) hs vs
theorem Houses.same {H H':Hp} {p:Addr} {hs:List Named} (h:Houses H p hs) (s:Same H H'):Houses H' p hs:=by
 obtain ⟨vs,e,pr⟩:=h;exact ⟨vs,s _ _ e,L2.Paired.mapP pr fun _ _ ⟨t,q,e,h1,h2⟩=>⟨t,q,e,s _ _ h1,h2.same s⟩⟩
noncomputable def spotsOf (hs:List Named):List Way:=hs.flatMap fun x=>x.2.1.map fun g=>(x.1,g.1)
theorem gB {α β:Type} {F:α -> β -> Prop}:∀ {l l':List α} {m m':List β},Paired F l m->Paired F l' m'->Paired F (l++l') (m++m')
 | _,_,_,_,.nil,q=>q
 | _,_,_,_,.cons r p,q=>.cons r (gB p q)
theorem cS {α β γ:Type} {F:β -> γ -> Prop} {f:α -> β}:∀ {l:List α} {vs:List γ},Paired (fun x v=>F (f x) v) l vs->Paired F (l.map f) vs
 | _,_,.nil=>.nil
 | _,_,.cons r p=>.cons r (cS p)
noncomputable abbrev Line:=Way × Way
def LineAt (H:Hp) (x:Line) (v:V):Prop:=∃ t u1 u2,v=.ref t/\H t=some (.tup [u1,u2])/\WayAt H x.1 u1/\WayAt H x.2 u2
def Lines (H:Hp) (p:Addr) (ls:List Line):Prop:=∃ vs,H p=some (.lst vs)/\Paired (LineAt H) ls vs
theorem gq {H H':Hp} (k:∀ t vs,H t=some (.tup vs)->H' t=some (.tup vs)) {x:Line} {v:V} (h:LineAt H x v):LineAt H' x v:=by
 obtain ⟨t,u1,u2,e,h1,⟨a,ea,ha⟩,⟨b,eb,hb⟩⟩:=h;exact ⟨t,u1,u2,e,k _ _ h1,⟨a,ea,k _ _ ha⟩,⟨b,eb,k _ _ hb⟩⟩
theorem Lines.same {H H':Hp} {p:Addr} {ls:List Line} (h:Lines H p ls) (s:Same H H'):Lines H' p ls:=by
 obtain ⟨vs,e,pr⟩:=h;exact ⟨vs,s _ _ e,L2.Paired.mapP pr fun _ _ z=>gq (fun t us q=>s _ _ q) z⟩
noncomputable def endsOf (ls:List Line):List Way:=ls.flatMap fun x=>[x.1,x.2]
theorem hV {α β:Type} {F:α -> β -> Prop}:∀ {l:List α} {m:List β} (i:Nat),Paired F l m->Paired F (l.eraseIdx i) (m.eraseIdx i)
 | _,_,_,.nil=>.nil
 | _,_,0,.cons r p=>p
 | _,_,i+1,.cons r p=>.cons r (hV i p)
noncomputable abbrev Net:=List Fld × List Named × List Line
def NetAt (H:Hp) (t:Addr) (n:Net):Prop:=∃ a b c,H t=some (.tup [.ref a,.ref b,.ref c])/\Lay H a n.1/\Houses H b n.2.1/\Lines H c n.2.2
theorem NetAt.same {H H':Hp} {t:Addr} {n:Net} (h:NetAt H t n) (s:Same H H'):NetAt H' t n:=by
 obtain ⟨a,b,c,e,h1,h2,h3⟩:=h;exact ⟨a,b,c,s _ _ e,h1.same s,h2.same s,h3.same s⟩
noncomputable def gM (K:Frag):Sp:=az fun a=>bB fun k=>bB fun m=>aM fun H Q _=>∃ ns:List Int,SqL K H a (ns.map V.int)/\0<=k/\k<=100000/\1<=m/\m<=100000/\∀ r:Nat,(r:Int) < m->Q (.int (r:Nat)) H
theorem av (T:Top K mg):Callee P w K mg base 1 "_law_by" ["_law_script", "_law_k", "_law_many"] (gM K):=by
 refine T.pT.cal gY (by unfold gM; exact LenSp.h) (fun _ _ _ _ _ _ us hl=>match us,hl with | [_,_,_],_=>rfl) (fun f cdv A outer s H vs Q E hr h=>?_);unfold gM at h;walk_at "el";refine ⟨_,(af (au (i:=3) gY.nd rfl lc ae)
   (cX (bU (aF qN (aB (lenE K rfl) rfl T.bZ bD (aa (qv 0) ad)) ae) (ai (au (i:=3) gY.nd rfl lc (am gT (aq (ixE K rfl) (qv 0) (am gT (qv 1) (aB (lenE K rfl) rfl T.bZ bD (aa (qv 0) ad))) (fun _ _=>rfl)) ae))) aO)
   (af (au (i:=4) gY.nd rfl lc (am gT (am be (am aj (am aj (qv 3) (am be ae (qv 1))) ae) (am aj ae (am be (am be ae (qv 1)) (qv 1)))) ae))
   (ai (aC (am gT (am gT (am be (qv 4) (am aj ae (am be ae (qv 1)))) ae) (qv 2))))))),?_⟩
 rename_i a k m;obtain ⟨ns,hS,hk0,hk1,hm0,hm1,q⟩:=h;obtain ⟨k,rfl⟩:∃ x:Nat,k=(x:Int):=⟨k.toNat,by lia⟩;walk_at "rd";refine ⟨fun σ' H'=>∃ c:Int,σ'=[some (.ref a),some (.int k),some (.int m),some (.int c),none]/\H'=H/\0<=c/\c < 999983,⟨_,.inl hS,ite2 (fun g=>⟨_,.inl hS,by simpa using g,?_⟩) fun g=>?_⟩,?_⟩
 ·rw [List.length_map] at g ⊢;have hl:0 < ns.length:=by lia
  have hj:k % ns.length < ns.length:=Nat.mod_lt _ hl;refine ⟨_,V.int ns[k % ns.length],.inl hS,?_,?_⟩
  ·rw [show (k:Int) % (ns.length:Int)=((k % ns.length:Nat):Int) by lia];exact cw (by rw [List.getElem?_map,List.getElem?_eq_getElem hj]; rfl)
  walk_at "rd";exact ⟨_,rfl,Int.emod_nonneg _ (by decide),Int.emod_lt_of_pos _ (by decide)⟩
 ·exact ⟨0,rfl,rfl,by decide,by decide⟩
 ·rintro σ' H' ⟨c,rfl,rfl,c0,c1⟩;walk_at "rd";have hc (x:Int) (h0:0<=x) (h1:x<=2147483647):-(2 ^ 64) < x/\x < 2 ^ 64:=⟨Int.lt_of_lt_of_le (by decide) h0,Int.lt_of_le_of_lt h1 (by decide)⟩;have e0:=Int.emod_nonneg ((c+17*(k:Int)+5)*(48271+613*(k:Int)*(k:Int))) (b:=999983) (by decide);have e1:=Int.emod_lt_of_pos ((c+17*(k:Int)+5)*(48271+613*(k:Int)*(k:Int))) (b:=999983) (by decide);refine ⟨.inr (hc k (by lia) (by lia)),.inr (hc k (by lia) (by lia)),.inr (hc k (by lia) (by lia)),.inl (hc _ (by lia) (by lia)),.inr (hc k (by lia) (by lia)),.inl (hc _ e0 (by lia)),by lia,?_⟩;generalize (c+17*(k:Int)+5)*(48271+613*(k:Int)*(k:Int)) % 999983*(16807+271*(k:Int)) % 1000003=z;have z0:0<=z % m:=Int.emod_nonneg _ (by lia);have z1:z % m < m:=Int.emod_lt_of_pos _ (by lia);have:=q (z % m).toNat (by lia);rw [Int.toNat_of_nonneg z0] at this;exact this
theorem bO {H:Hp} {a:Addr} {k m:Int} {ns:List Int} {Q:VK} {E:XK} (hS:SqL K H a (ns.map V.int)) (hk0:0<=k) (hk1:k<=100000) (hm0:1<=m) (hm1:m<=100000) (q:∀ r:Nat,(r:Int) < m->Q (.int (r:Nat)) H):gM K [.ref a,.int k,.int m] H Q E:=⟨ns,hS,hk0,hk1,hm0,hm1,q⟩
noncomputable def iC (K:Frag):Sp:=az fun a=>bB fun k=>bB fun w=>aM fun H Q _=>∃ (ns:List Int) (W:Nat),SqL K H a (ns.map V.int)/\0<=k/\k<=50000/\w=(W:Int)/\W<=1000/\∀ r H',Same H H'->r.length=W->Q (tx r) H'
theorem lB (T:Top K mg):Callee P w K mg base 2 "_law_row" ["_law_script", "_law_k", "_law_width"] (iC K):=by
 refine T.nS.cal rW (by unfold iC; exact LenSp.h) (fun _ _ _ _ _ _ us hl=>match us,hl with | [_,_,_],_=>rfl) (fun f cdv A outer s H vs Q E hr h=>?_);unfold iC at h;walk_at "el";refine ⟨_,(ai (aC (joinE K rfl (aQ (nt:=1) (fi:=[0,1]) (N':=["_law_j", "_law_script", "_law_k"]) rfl (cscope rfl (by decide +kernel)) (cnames (N:=["_law_script", "_law_k", "_law_width"]) (sc:=defScope gK) rfl rfl (by decide +kernel)) (aT (by decide)) (bC rfl T.ci (qv 2)) (fun _ _ _ _ _=>(ak (i:=0) (by show (["_law_j", "_law_script", "_law_k"]:List Str).Nodup; decide +kernel) rfl lc)) (fun _ _ _ _ _=>aU) (fun _ _ _ _ _=>(aq (ixE K rfl) (qs [48,45,49,45,45,45]) (aw (av T) hr.m rfl (aa (qv 1) (aa (am aj (qv 2) (qv 0)) (aa ae ad)))) (fun _ _=>rfl))))))),?_⟩;rename_i a k w';obtain ⟨ns,W,hS,hk0,hk1,rfl,hW,q⟩:=h;walk_at "rd";refine ⟨by lia,by lia,fun D hD=>?_⟩;rw [Int.toNat_natCast];refine gm (lo:=0) (n:=W) (fun _ v _=>∃ x,v=V.str (st [x])) hD (by lia) (fun _ _ _ _ _ _ _ r=>r) ?_ ?_
 ·intro i H1 out non hi s1 ho;walk_at "rd";refine bO (s1.seq hS) (by lia) (by lia) (by decide) (by decide) fun r hr=>?_
  obtain ⟨x,hx,ex⟩:=kF (l:=[48,45,49,45,45,45]) (i:=r) (by show r < 6; lia);walk_at "rd";exact ⟨x,ex,ho _ _ (Same.refl _) ⟨x,rfl⟩⟩
 ·intro H1 vs s1 e1 p1;obtain ⟨os,rfl,hol,_⟩:=eX (P:=fun _=>True) (fun _ _ ⟨x,e⟩=>⟨x,True.intro,e⟩) p1;rw [List.length_range] at hol;walk_at "rd";exact ⟨os,SqL.of e1,by lia,q os H1 s1 hol⟩
noncomputable def fS (K:Frag):Sp:=az fun a=>bB fun k=>bB fun w=>aM fun H Q _=>∃ (ns:List Int) (W:Nat),SqL K H a (ns.map V.int)/\0<=k/\k<=50000/\w=(W:Int)/\W<=1000/\∀ r H',Same H H'->r.length=W->Q (tx r) H'
theorem ou (T:Top K mg):Callee P w K mg base 2 "_law_signs" ["_law_script", "_law_k", "_law_size"] (fS K):=by
 refine T.kh.cal ox (by unfold fS; exact LenSp.h) (fun _ _ _ _ _ _ us hl=>match us,hl with | [_,_,_],_=>rfl) (fun f cdv A outer s H vs Q E hr h=>?_);unfold fS at h;walk_at "el";refine ⟨_,(ai (aC (joinE K rfl (aQ (nt:=1) (fi:=[0,1]) (N':=["_law_j", "_law_script", "_law_k"]) rfl (cscope rfl (by decide +kernel)) (cnames (N:=["_law_script", "_law_k", "_law_size"]) (sc:=defScope ee) rfl rfl (by decide +kernel)) (aT (by decide)) (bC rfl T.ci (qv 2)) (fun _ _ _ _ _=>(ak (i:=0) (by show (["_law_j", "_law_script", "_law_k"]:List Str).Nodup; decide +kernel) rfl lc)) (fun _ _ _ _ _=>aU) (fun _ _ _ _ _=>(aq (ixE K rfl) (qs [48,49]) (aw (av T) hr.m rfl (aa (qv 1) (aa (am aj (qv 2) (qv 0)) (aa ae ad)))) (fun _ _=>rfl))))))),?_⟩;rename_i a k w';obtain ⟨ns,W,hS,hk0,hk1,rfl,hW,q⟩:=h;walk_at "rd";refine ⟨by lia,by lia,fun D hD=>?_⟩;rw [Int.toNat_natCast];refine gm (lo:=0) (n:=W) (fun _ v _=>∃ x,v=V.str (st [x])) hD (by lia) (fun _ _ _ _ _ _ _ r=>r) ?_ ?_
 ·intro i H1 out non hi s1 ho;walk_at "rd";refine bO (s1.seq hS) (by lia) (by lia) (by decide) (by decide) fun r hr=>?_
  obtain ⟨x,hx,ex⟩:=kF (l:=[48,49]) (i:=r) (by show r < 2; lia);walk_at "rd";exact ⟨x,ex,ho _ _ (Same.refl _) ⟨x,rfl⟩⟩
 ·intro H1 vs s1 e1 p1;obtain ⟨os,rfl,hol,_⟩:=eX (P:=fun _=>True) (fun _ _ ⟨x,e⟩=>⟨x,True.intro,e⟩) p1;rw [List.length_range] at hol;walk_at "rd";exact ⟨os,SqL.of e1,by lia,q os H1 s1 hol⟩
structure RuleW (W:Nat) (r:Rule):Prop where
 row:r.1.length=W
 word:r.2.1.length<=4
 over:r.2.2.length=W
noncomputable def gE (K:Frag):Sp:=az fun a=>bB fun k=>bB fun w=>bB fun sh=>aM fun H Q _=>∃ (ns:List Int) (W:Nat),SqL K H a (ns.map V.int)/\0<=k/\k<=40000/\w=(W:Int)/\W<=1000/\0<=sh/\sh<=1000/\∀ t H' (r:Rule),H t=none->Same H H'->H' t=some (.tup [tx r.1,tx r.2.1,tx r.2.2])->RuleW W r->Q (.ref t) H'
theorem qf (T:Top K mg):Callee P w K mg base 3 "_law_rule" ["_law_script", "_law_k", "_law_width", "_law_shift"] (gE K):=by
 refine T.lI.cal dY (by unfold gE; exact LenSp.h) (fun _ _ _ _ _ _ us hl=>match us,hl with | [_,_,_,_],_=>rfl) (fun f cdv A outer s H vs Q E hr h=>?_);unfold gE at h;walk_at "el";refine ⟨_,(af (au (i:=4) dY.nd rfl lc (aq (ixE K rfl) (aL (aa (qs [112,97,115,115]) (aa (qs [100,114,111,112]) (aa (qs [112,97,115,115]) (aa (qs [112,97,115,115]) ad))))) (aw (av T) hr.m rfl (aa (qv 0) (aa (qv 1) (aa ae ad)))) (fun _ _=>rfl)))
   (af (au (i:=5) dY.nd rfl lc (aw (lB T) hr.m rfl (aa (qv 0) (aa (am aj (qv 1) ae) (aa (qv 2) ad)))))
   (af (au (i:=6) dY.nd rfl lc (joinE K rfl (aQ (nt:=1) (fi:=[5,3]) (N':=["_law_j", "_law_signs_here", "_law_shift"]) rfl (cscope rfl (by decide +kernel)) (cnames (N:=["_law_script", "_law_k", "_law_width", "_law_shift", "_law_word", "_law_signs_here", "_law_over"]) (sc:=defScope fG) rfl rfl (by decide +kernel)) (aT (by decide)) (bC rfl T.ci (qv 2)) (fun _ _ _ _ _=>(ak (i:=0) (by show (["_law_j", "_law_signs_here", "_law_shift"]:List Str).Nodup; decide +kernel) rfl lc)) (fun _ _ _ _ _=>aU) (fun _ _ _ _ _=>(eQ (aF Bx (am gT (am aj (qv 0) (qv 2)) ae) ae) (aq (ixE K rfl) (qv 1) (qv 0) (fun _ _=>rfl)) (qs [45]))))))
   (ai (aC (aA (aa (aw (lB T) hr.m rfl (aa (qv 0) (aa (am aj (qv 1) ae) (aa (qv 2) ad)))) (aa (qv 4) (aa (qv 6) ad))))))))),?_⟩
 rename_i a k w' sh;obtain ⟨ns,W,hS,hk0,hk1,rfl,hW,hs0,hs1,q⟩:=h;walk_at "rd";refine ⟨by decide,fun p1 hp1=>?_⟩;have s1:=ah hp1 (.lst ([passT,dropT,passT,passT].map tx));refine bO (s1.seq hS) (by lia) (by lia) (by decide) (by decide) fun r1 hr1=>?_
 obtain ⟨v,hv,ev⟩:=kF (l:=[passT,dropT,passT,passT].map tx) (i:=r1) (by show r1 < 4; lia);obtain ⟨wd,hwd,rfl⟩:=List.mem_map.mp hv;walk_at "rd";refine ⟨_,_,.inl (SqL.of upd_same),ev,?_⟩;walk_at "rd";refine ⟨ns,W,s1.seq hS,by lia,by lia,rfl,hW,fun sg H2 s2 hl2=>?_⟩;walk_at "rd";refine ⟨by lia,by lia,fun D hD=>?_⟩;rw [Int.toNat_natCast];have s12:=s1.trans s2;refine gm (lo:=0) (n:=W) (fun _ v _=>∃ x,v=V.str (st [x])) hD (by lia) (fun _ _ _ _ _ _ _ r=>r) ?_ ?_
 ·intro i H3 out non hi s3 ho;walk_at "rd";obtain ⟨x,hx,ex⟩:=kF (l:=sg) (i:=i) (by lia);exact ite2 (fun _=>⟨by lia,x,ex,ho _ _ (Same.refl _) ⟨x,rfl⟩⟩) fun _=>ho _ _ (Same.refl _) ⟨45,rfl⟩
 ·intro H3 vs s3 e3 p3;obtain ⟨os,rfl,hol,_⟩:=eX (P:=fun _=>True) (fun _ _ ⟨x,e⟩=>⟨x,True.intro,e⟩) p3;rw [List.length_range] at hol;have s13:=s12.trans s3;walk_at "rd";refine ⟨os,SqL.of e3,by lia,ns,W,s13.seq hS,by lia,by lia,rfl,hW,fun rw4 H4 s4 hl4=>⟨by decide,fun t ht=>?_⟩⟩;refine q t _ (rw4,wd,os) ((s13.trans s4).free ht) (s13.trans (s4.trans (ah ht _))) upd_same ⟨hl4,?_,hol⟩;simp only [List.mem_cons,List.not_mem_nil,or_false] at hwd;show wd.length<=4;rcases hwd with z | z | z | z <;> rw [z] <;> decide
structure NamesB (n:Nat) (ls:List (List Nat)):Prop where
 len:ls.length=n
 nd:ls.Nodup
 low:∀ l ∈ ls,Low l
 short:∀ l ∈ ls,1<=l.length/\l.length<=8
theorem NamesB.perm {n:Nat} {ls ms:List (List Nat)} (h:NamesB n ls) (p:ms.Perm ls):NamesB n ms:=
 ⟨p.length_eq.trans h.len,p.nodup_iff.mpr h.nd,fun l hl=>h.low l (p.mem_iff.mp hl),fun l hl=>h.short l (p.mem_iff.mp hl)⟩
theorem tW {w:List Nat} (hw:w.length=8) (hl:Low w) {n:Nat} (hn:n<=8):NamesB n ((List.range n).map fun j=>w.take (j+1)) where
 len:=by simp
 nd:=pJ _ fun i j hi hj e=>by
  have:=congrArg List.length e;rw [List.length_take,List.length_take] at this
  lia
 low:=fun l hl'=>by
  obtain ⟨j,_,rfl⟩:=List.mem_map.mp hl';exact fun c hc=>hl c (List.mem_of_mem_take hc)
 short:=fun l hl'=>by
  obtain ⟨j,hj,rfl⟩:=List.mem_map.mp hl';have:=List.mem_range.mp hj;rw [List.length_take]
  lia
theorem vf {w:List Nat} (hw:w.length=8) (hl:Low w) {n m z p:Nat} (hn:n<=8) (hz:z<=8) (hp:p < z):NamesB n ((List.range n).map fun j=>w.take p++[97+(m+7*j) % 26]++(w.drop (p+1)).take (z - (p+1))) where
 len:=by simp
 nd:=pJ _ fun i j hi hj e=>by
  have e1:=List.append_cancel_right e;have e2:=List.append_cancel_left e1;have e3:97+(m+7*i) % 26=97+(m+7*j) % 26:=by simpa using e2
  lia
 low:=fun l hl'=>by
  obtain ⟨j,_,rfl⟩:=List.mem_map.mp hl';intro c hc;rcases List.mem_append.mp hc with hc | hc
  ·rcases List.mem_append.mp hc with hc | hc
   ·exact hl c (List.mem_of_mem_take hc)
   ·rw [List.mem_singleton.mp hc]
    lia
  ·exact hl c (List.mem_of_mem_drop (List.mem_of_mem_take hc))
 short:=fun l hl'=>by
  obtain ⟨j,_,rfl⟩:=List.mem_map.mp hl';simp only [List.length_append,List.length_take,List.length_drop,List.length_cons,List.length_nil]
  lia
noncomputable def fX (K:Frag):Sp:=az fun a=>bB fun k=>bB fun n=>aM fun H Q _=>∃ (ns:List Int) (N:Nat),SqL K H a (ns.map V.int)/\0<=k/\k<=50000/\n=(N:Int)/\1<=N/\N<=8/\∀ p H' ls,H p=none->Same H H'->H' p=some (.lst (ls.map tx))->NamesB N ls->Q (.ref p) H'
theorem zY {vs:List V} {l:List Nat} (p:Paired (fun _ v=>∃ x:Nat,(97<=x/\x<=122)/\v=V.str (st [x])) l vs):∃ os:List Nat,vs=os.map (fun k=>V.str (st [k]))/\os.length=l.length/\Low os:=eX (P:=fun x:Nat=>97<=x/\x<=122) (fun _ _ r=>r) p
theorem jl (T:Top K mg):Callee P w K mg base 2 "_law_names" ["_law_script", "_law_k", "_law_count"] (fX K):=by
 refine T.kj.cal bh (by unfold fX; exact LenSp.h) (fun _ _ _ _ _ _ us hl=>match us,hl with | [_,_,_],_=>rfl) (fun f cdv A outer s H vs Q E hr h=>?_);unfold fX at h;walk_at "el";refine ⟨_,(af (au (i:=3) bh.nd rfl lc (qs [97,98,99,100,101,102,103,104,105,106,107,108,109,110,111,112,113,114,115,116,117,118,119,120,121,122]))
   (af (au (i:=4) bh.nd rfl lc (joinE K rfl (aQ (nt:=1) (fi:=[3,0,1]) (N':=["_law_j", "_law_letters", "_law_script", "_law_k"]) rfl (cscope rfl (by decide +kernel)) (cnames (N:=["_law_script", "_law_k", "_law_count", "_law_letters", "_law_word", "_law_turn", "_law_names_here", "_law_size", "_law_place", "_law_first", "_law_signs_here"]) (sc:=defScope b9) rfl rfl (by decide +kernel)) (aT (by decide)) (bC rfl T.ci ae) (fun _ _ _ _ _=>(ak (i:=0) (by show (["_law_j", "_law_letters", "_law_script", "_law_k"]:List Str).Nodup; decide +kernel) rfl lc)) (fun _ _ _ _ _=>aU) (fun _ _ _ _ _=>(aq (ixE K rfl) (qv 1) (aw (av T) hr.m rfl (aa (qv 2) (aa (am aj (qv 3) (qv 0)) (aa ae ad)))) (fun _ _=>rfl))))))
   (af (au (i:=5) bh.nd rfl lc (aw (av T) hr.m rfl (aa (qv 0) (aa (am aj (qv 1) ae) (aa (qv 2) ad)))))
   (af (fE (i:=6) (nt:=1) (fi:=[4]) (N':=["_law_j", "_law_word"]) bh.nd rfl lc rfl (cscope rfl (by decide +kernel)) (cnames (N:=["_law_script", "_law_k", "_law_count", "_law_letters", "_law_word", "_law_turn", "_law_names_here", "_law_size", "_law_place", "_law_first", "_law_signs_here"]) (sc:=defScope b9) rfl rfl (by decide +kernel)) (aT (by decide)) (bC rfl T.ci (qv 2)) (fun _ _ _ _ _=>(ak (i:=0) (by show (["_law_j", "_law_word"]:List Str).Nodup; decide +kernel) rfl lc)) (fun _ _ _ _ _=>aU) (fun _ _ _ _ _=>(aZ (slE K rfl) (qv 1) bG (bw (am aj (qv 0) ae)))))
   (cX (bU (aF dM (aw (av T) hr.m rfl (aa (qv 0) (aa (am aj (qv 1) ae) (aa ae ad)))) ae) (af (au (i:=7) bh.nd rfl lc (am aj ae (aw (av T) hr.m rfl (aa (qv 0) (aa (am aj (qv 1) ae) (aa ae ad))))))
   (af (au (i:=8) bh.nd rfl lc (aw (av T) hr.m rfl (aa (qv 0) (aa (am aj (qv 1) ae) (aa (qv 7) ad)))))
   (af (au (i:=9) bh.nd rfl lc (aw (av T) hr.m rfl (aa (qv 0) (aa (am aj (qv 1) ae) (aa ae ad)))))
   (af (fE (i:=10) (nt:=1) (fi:=[3,9]) (N':=["_law_j", "_law_letters", "_law_first"]) bh.nd rfl lc rfl (cscope rfl (by decide +kernel)) (cnames (N:=["_law_script", "_law_k", "_law_count", "_law_letters", "_law_word", "_law_turn", "_law_names_here", "_law_size", "_law_place", "_law_first", "_law_signs_here"]) (sc:=defScope b9) rfl rfl (by decide +kernel)) (aT (by decide)) (bC rfl T.ci (qv 2)) (fun _ _ _ _ _=>(ak (i:=0) (by show (["_law_j", "_law_letters", "_law_first"]:List Str).Nodup; decide +kernel) rfl lc)) (fun _ _ _ _ _=>aU) (fun _ _ _ _ _=>(aq (ixE K rfl) (qv 1) (am gT (am aj (qv 2) (am be ae (qv 0))) ae) (fun _ _=>rfl))))
   (ai (fE (i:=6) (nt:=1) (fi:=[4,7,8]) (N':=["_law_sign", "_law_word", "_law_size", "_law_place"]) bh.nd rfl lc rfl (cscope rfl (by decide +kernel)) (cnames (N:=["_law_script", "_law_k", "_law_count", "_law_letters", "_law_word", "_law_turn", "_law_names_here", "_law_size", "_law_place", "_law_first", "_law_signs_here"]) (sc:=defScope b9) rfl rfl (by decide +kernel)) (aT (by decide)) (iterE K rfl (qv 10)) (fun _ _ _ _ _=>(ak (i:=0) (by show (["_law_sign", "_law_word", "_law_size", "_law_place"]:List Str).Nodup; decide +kernel) rfl lc)) (fun _ _ _ _ _=>aU) (fun _ _ _ _ _=>(am aj (am aj (aZ (slE K rfl) (qv 1) bG (bw (qv 3))) (qv 0)) (aZ slB (qv 1) (bw (am aj (qv 3) ae)) (bw (qv 2))))))))))) aO)
   (ai (aC (am aj (aZ (slE K rfl) (qv 6) (bw (qv 5)) bG) (aZ (slE K rfl) (qv 6) bG (bw (qv 5))))))))))),?_⟩
 rename_i a k n;obtain ⟨ns,N,hS,hk0,hk1,rfl,hN1,hN8,q⟩:=h;walk_at "rd";intro D hD;refine gm (lo:=0) (n:=8) (fun _ v _=>∃ x:Nat,(97<=x/\x<=122)/\v=V.str (st [x])) hD (by decide) (fun _ _ _ _ _ _ _ r=>r) ?_ ?_
 ·intro i H1 out non hi s1 ho;walk_at "rd";refine bO (s1.seq hS) (by lia) (by lia) (by decide) (by decide) fun r hr=>?_
  walk_at "rd";exact ⟨_,(show atI abc (r:Int)=some (97+r) from cw (wS (by lia))),ho _ _ (Same.refl _) ⟨97+r,⟨by lia,by lia⟩,rfl⟩⟩
 intro H1 vs s1 e1 p1;obtain ⟨w,rfl,hwl,hw⟩:=zY p1;rw [List.length_range] at hwl;walk_at "rd";refine ⟨w,SqL.of e1,by lia,?_⟩;refine bO (s1.seq hS) (by lia) (by lia) (by lia) (by lia) fun r1 hr1=>?_
 walk_at "rd";refine ⟨by lia,by lia,fun D2 hD2=>?_⟩;rw [Int.toNat_natCast];refine nL (lo:=0) (n:=N) (h:=fun j=>[tx (w.take (j+1))]) hD2 (by lia) (fun _=>by simp) ?_ ?_
 ·intro i H2 out non hi s2 ho _;walk_at "rd";refine ⟨by lia,by lia,by lia,?_⟩;rw [show ((i:Int)+1).toNat=i+1 by lia];exact ho _ _ rfl (Same.refl _)
 intro H2 s2 e2;rw [dj (fun j=>tx (w.take (j+1))),show (List.range N).map (fun j=>tx (w.take (j+1)))=((List.range N).map fun j=>w.take (j+1)).map tx by rw [List.map_map]; rfl] at e2;have s12:=s1.trans s2;refine ⟨fun σ' H'=>∃ (p:Addr) (ls:List (List Nat)) (u3 u4 u5 u6:Option V),σ'=[some (.ref a),some (.int k),some (nV N),some (tx ([97,98,99,100,101,102,103,104,105,106,107,108,109,110,111,112,113,114,115,116,117,118,119,120,121,122])),some (tx w),some (nV r1),some (.ref p),u3,u4,u5,u6]/\Same H H'/\H' p=some (.lst (ls.map tx))/\NamesB N ls,?_,?_⟩
 ·refine bO (s12.seq hS) (by lia) (by lia) (by decide) (by decide) fun r2 hr2=>?_
  walk_at "rd";refine ite2 (fun _=>?_) fun _=>⟨D2,_,none,none,none,none,rfl,s12,e2,tW hwl hw hN8⟩
  refine bO (s12.seq hS) (by lia) (by lia) (by decide) (by decide) fun r3 hr3=>?_
  walk_at "rd";refine bO (s12.seq hS) (by lia) (by lia) (by lia) (by lia) fun r4 hr4=>?_
  walk_at "rd";refine bO (s12.seq hS) (by lia) (by lia) (by lia) (by lia) fun r5 hr5=>?_
  walk_at "rd";refine ⟨by lia,by lia,fun D3 hD3=>?_⟩;refine nL (lo:=0) (n:=N) (h:=fun j=>[V.str (st [97+(r5+7*j) % 26])]) hD3 (by lia) (fun _=>by simp) ?_ ?_
  ·intro i H3 out non hi s3 ho _;walk_at "rd";refine ⟨.inl ⟨by decide,by decide⟩,97+(r5+7*i) % 26,?_,ho _ _ rfl (Same.refl _)⟩;rw [show (((r5:Int)+7*(i:Int)) % 26)=(((r5+7*i) % 26:Nat):Int) by lia];exact (show atI abc _=_ from cw (wS (by lia)))
  intro H3 s3 e3;walk_at "rd";rw [dj (fun j=>V.str (st [97+(r5+7*j) % 26]))] at e3;refine .inl ⟨⟨_,SqL.of e3⟩,fun D4 hD4=>?_⟩;refine bv (item:=fun j:Nat=>V.str (st [97+(r5+7*j) % 26])) (xs:=List.range N) (h:=fun j=>[tx (w.take r4++[97+(r5+7*j) % 26]++(w.drop (r4+1)).take (1+r3 - (r4+1)))]) hD4 (SqL.of e3) (by rw [List.length_range]; lia) (fun _=>by simp) ?_ ?_
  ·intro j H4 out non hj s4 ho _;walk_at "rd";have l1:(w.take r4).length=r4:=by rw [List.length_take]; lia
   have l2:(List.take (1+r3 - (r4+1)) (w.drop (r4+1))).length<=8:=by rw [List.length_take]; lia
   rw [show ((1:Int)+(r3:Int)).toNat=1+r3 by lia,show ((r4:Int)+1).toNat=r4+1 by lia,Int.toNat_natCast];refine ⟨by lia,by lia,by lia,by lia,by lia,by lia,by lia,by lia,?_,ho _ _ rfl (Same.refl _)⟩;rw [List.length_append,l1];simp only [List.length_cons,List.length_nil]
   lia
  intro H4 s4 e4;rw [dj (fun j=>tx (w.take r4++[97+(r5+7*j) % 26]++(w.drop (r4+1)).take (1+r3 - (r4+1)))),show (List.range N).map (fun j=>tx (w.take r4++[97+(r5+7*j) % 26]++(w.drop (r4+1)).take (1+r3 - (r4+1))))=((List.range N).map fun j=>w.take r4++[97+(r5+7*j) % 26]++(w.drop (r4+1)).take (1+r3 - (r4+1))).map tx by rw [List.map_map]; rfl] at e4;exact ⟨D4,_,_,_,_,_,rfl,s12.trans (s3.trans s4),e4,vf hwl hw hN8 (by lia) (by lia)⟩
 ·rintro σ' H3 ⟨p,ls,u3,u4,u5,u6,rfl,s3,e3,NB⟩;walk_at "rd";have hl:(ls.map tx).length=N:=by rw [List.length_map]; exact NB.len
  refine ⟨_,SqL.of e3,fun q1 hq1=>?_⟩;have s4:=ah hq1 (.lst (cutV (ls.map tx) (some (r1:Int)) none));refine ⟨_,SqL.of (s4 _ _ e3),fun q2 hq2=>?_⟩;have s5:=ah hq2 (.lst (cutV (ls.map tx) none (some (r1:Int))));refine ⟨_,_,s5 _ _ upd_same,upd_same,?_,fun q3 hq3=>?_⟩
  ·rw [mX _ _ (by lia),mL _ _ (by lia),List.length_drop,List.length_take,sizeLine_eq]
   lia
  have s6:=ah hq3 (.lst (cutV (ls.map tx) (some (r1:Int)) none++cutV (ls.map tx) none (some (r1:Int))));refine q q3 _ (ls.drop r1++ls.take r1) ((s3.trans (s4.trans s5)).free hq3) (s3.trans (s4.trans (s5.trans s6))) ?_ (NB.perm ?_)
  ·rw [upd_same,mX _ _ (by lia),mL _ _ (by lia),List.map_append,List.map_drop,List.map_take]
  ·refine List.perm_append_comm.trans ?_;rw [List.take_append_drop]
theorem iy {α β:Type} {F:α -> β -> Prop}:∀ {l:List α} {m:List β} (n:Nat),Paired F l m->Paired F (l.take n) (m.take n)
 | _,_,0,_=>by rw [List.take_zero,List.take_zero]; exact .nil
 | _,_,n+1,.nil=>.nil
 | _,_,n+1,.cons r p=>.cons r (iy n p)
theorem lA {α β:Type} {F:α -> β -> Prop}:∀ {l:List α} {m:List β} (n:Nat),Paired F l m->Paired F (l.drop n) (m.drop n)
 | _,_,0,p=>p
 | _,_,n+1,.nil=>.nil
 | _,_,n+1,.cons _ p=>lA n p
noncomputable def toB:List Nat:=[116,111]
noncomputable def padB:List Nat:=[112,97,100]
structure LayB (ls:List Fld):Prop where
 two:2<=ls.length
 few:ls.length<=4
 nd:(ls.map (·.1)).Nodup
 to:∃ n,(toB,n) ∈ ls
 sz:∀ x ∈ ls,x.2<=100
noncomputable def eU (K:Frag):Sp:=az fun a=>bB fun k=>aM fun H Q _=>∃ ns:List Int,SqL K H a (ns.map V.int)/\0<=k/\k<=50000/\∀ p H' ls,H p=none->Same H H'->Lay H' p ls->LayB ls->ls.length<=3->(∀ x ∈ ls,x.2<=3/\x.1≠padB)->Q (.ref p) H'
theorem mJ (T:Top K mg):Callee P w K mg base 2 "_law_layout" ["_law_script", "_law_k"] (eU K):=by
 refine T.jr.cal eG (by unfold eU; exact LenSp.h) (fun _ _ _ _ _ _ us hl=>match us,hl with | [_,_],_=>rfl) (fun f cdv A outer s H vs Q E hr h=>?_);unfold eU at h;walk_at "el";refine ⟨_,(af (au (i:=2) eG.nd rfl lc (aZ (slE K rfl) (aL (aa (aA (aa (qs [116]) (aa (am aj ae (aw (av T) hr.m rfl (aa (qv 0) (aa (qv 1) (aa ae ad))))) ad))) (aa (aA (aa (qs [116,111,101]) (aa ae ad))) ad))) bG (bw (am aj ae (aw (av T) hr.m rfl (aa (qv 0) (aa (am aj (qv 1) ae) (aa ae ad))))))))
   (af (au (i:=3) eG.nd rfl lc (aw (av T) hr.m rfl (aa (qv 0) (aa (am aj (qv 1) ae) (aa (am aj (aB (lenE K rfl) rfl T.bZ bD (aa (qv 2) ad)) ae) ad)))))
   (ai (aC (am aj (am aj (aZ (slE K rfl) (qv 2) bG (bw (qv 3))) (aL (aa (aA (aa (qs [116,111]) (aa (am aj ae (aw (av T) hr.m rfl (aa (qv 0) (aa (am aj (qv 1) ae) (aa ae ad))))) ad))) ad))) (aZ (slE K rfl) (qv 2) (bw (qv 3)) bG)))))),?_⟩
 rename_i a k;obtain ⟨ns,hS,hk0,hk1,q⟩:=h;walk_at "rd";refine bO hS (by lia) (by lia) (by decide) (by decide) fun r1 hr1=>?_
 walk_at "rd";refine ⟨by decide,fun t1 ht1=>⟨by decide,fun t2 ht2=>⟨by decide,fun l0 hl0=>?_⟩⟩⟩;have k1:=ah ht1 (.tup [V.str (st [116]),V.int (1+(r1:Int))]);have k2:=ah ht2 (.tup [V.str (st [116,111,101]),V.int 1]);have k3:=ah hl0 (.lst [V.ref t1,V.ref t2]);have s1:=k1.trans (k2.trans k3);have L0:Lay (upd (upd (upd H t1 (.tup [V.str (st [116]),V.int (1+(r1:Int))])) t2 (.tup [V.str (st [116,111,101]),V.int 1])) l0 (.lst [V.ref t1,V.ref t2])) l0 [([116],1+r1),([116,111,101],1)]:=
  ⟨_,upd_same,.cons ⟨t1,rfl,by rw [k3 _ _ (k2 _ _ upd_same)]; push_cast; rfl⟩ (.cons ⟨t2,rfl,k3 _ _ upd_same⟩ .nil)⟩
 generalize upd (upd (upd H t1 (.tup [V.str (st [116]),V.int (1+(r1:Int))])) t2 (.tup [V.str (st [116,111,101]),V.int 1])) l0 (.lst [V.ref t1,V.ref t2])=H1 at s1 L0 ⊢;obtain ⟨v0,e0,p0⟩:=L0;have hv0:=p0.length;refine bO (s1.seq hS) (by lia) (by lia) (by decide) (by decide) fun r2 hr2=>?_
 walk_at "rd";refine ⟨_,SqL.of e0,fun l1 hl1=>?_⟩;rw [show ((1:Int)+(r2:Int))=((1+r2:Nat):Int) by lia,mL _ _ (by rw [<- hv0]; show 1+r2<=2; lia)];have s2:=ah hl1 (.lst (v0.take (1+r2)));have L1:Lay (upd H1 l1 (.lst (v0.take (1+r2)))) l1 ([([116],1+r1),([116,111,101],1)].take (1+r2)):=⟨_,upd_same,c6 (fun t vs z=>s2 _ _ z) (iy _ p0)⟩;have s12:=s1.trans s2;generalize upd H1 l1 (.lst (v0.take (1+r2)))=H2 at s12 L1 ⊢;have okO:([([116],1+r1),([116,111,101],1)].take (1+r2):List Fld)=[([116],1+r1)]\/([([116],1+r1),([116,111,101],1)].take (1+r2):List Fld)=[([116],1+r1),([116,111,101],1)]:=by
  rcases (by lia:r2=0\/r2=1) with rfl | rfl
  ·exact .inl rfl
  ·exact .inr rfl
 generalize ([([116],1+r1),([116,111,101],1)].take (1+r2):List Fld)=os at L1 okO;have hos:1<=os.length/\os.length<=2:=by rcases okO with rfl | rfl <;> simp
 obtain ⟨v1,e1,p1⟩:=L1;have hv1:=p1.length;refine ⟨v1,.inl (SqL.of e1),?_⟩;refine bO (s12.seq hS) (by lia) (by lia) (by lia) (by lia) fun r3 hr3=>?_
 walk_at "rd";refine ⟨_,SqL.of e1,fun l2 hl2=>?_⟩;rw [mL _ _ (by lia)];have s3:=ah hl2 (.lst (v1.take r3));refine bO ((s12.trans s3).seq hS) (by lia) (by lia) (by decide) (by decide) fun r4 hr4=>?_
 walk_at "rd";refine ⟨by decide,fun t3 ht3=>⟨by decide,fun l3 hl3=>?_⟩⟩;have k4:=ah ht3 (.tup [V.str (st [116,111]),V.int (1+(r4:Int))]);have k5:=ah hl3 (.lst [V.ref t3]);have k45:=k4.trans k5;have lt1:(v1.take r3).length=r3:=by rw [List.length_take]; lia
 refine ⟨_,_,k45 _ _ upd_same,upd_same,by rw [lt1,sizeLine_eq]; simp only [List.length_cons,List.length_nil]; lia,fun l4 hl4=>?_⟩;have k6:=ah hl4 (.lst (v1.take r3++[V.ref t3]));have k36:=s3.trans (k45.trans k6);refine ⟨_,SqL.of (k36 _ _ e1),fun l5 hl5=>?_⟩;rw [mX _ _ (by lia)];have k7:=ah hl5 (.lst (v1.drop r3));refine ⟨_,_,k7 _ _ upd_same,upd_same,by rw [List.length_append,lt1,List.length_drop,sizeLine_eq]; simp only [List.length_cons,List.length_nil]; lia,fun l6 hl6=>?_⟩;have k8:=ah hl6 (.lst (v1.take r3++[V.ref t3]++v1.drop r3));have k48:=k5.trans (k6.trans (k7.trans k8));have sA:=s12.trans (s3.trans (k4.trans k48));have hmem:∀ x ∈ os.take r3++[(toB,1+r4)]++os.drop r3,x ∈ os\/x=(toB,1+r4):=fun x hx=>by
  rcases List.mem_append.mp hx with hx | hx
  ·rcases List.mem_append.mp hx with hx | hx
   ·exact .inl (List.mem_of_mem_take hx)
   ·exact .inr (List.mem_singleton.mp hx)
  ·exact .inl (List.mem_of_mem_drop hx)
 have hlen:(os.take r3++[(toB,1+r4)]++os.drop r3).length=os.length+1:=by
  rw [List.length_append,List.length_append,List.length_take,List.length_drop];simp only [List.length_cons,List.length_nil]
  lia
 have hsz:∀ x ∈ os.take r3++[(toB,1+r4)]++os.drop r3,x.2<=3/\x.1≠padB:=fun x hx=>by
  rcases hmem x hx with z | rfl
  ·rcases okO with rfl | rfl
   ·rw [List.mem_singleton.mp z];exact ⟨by show 1+r1<=3; lia,by show ([116]:List Nat)≠padB; decide⟩
   ·rcases List.mem_cons.mp z with rfl | z
    ·exact ⟨by show 1+r1<=3; lia,by show ([116]:List Nat)≠padB; decide⟩
    ·rw [List.mem_singleton.mp z];exact ⟨by decide,by decide⟩
  ·exact ⟨by show 1+r4<=3; lia,by show toB≠padB; decide⟩
 refine q l6 _ (os.take r3++[(toB,1+r4)]++os.drop r3) (((s12.trans s3).trans (k4.trans (k5.trans (k6.trans k7)))).free hl6) sA ⟨_,upd_same,gB (gB (c6 (fun t vs z=>(s3.trans (k4.trans k48)) _ _ z) (iy _ p1)) (.cons ⟨t3,rfl,?_⟩ .nil)) (c6 (fun t vs z=>(s3.trans (k4.trans k48)) _ _ z) (lA _ p1))⟩ ⟨by lia,by lia,?_,⟨1+r4,by simp⟩,fun x hx=>Nat.le_trans (hsz x hx).1 (by decide)⟩ (by lia) hsz
 ·rw [k48 _ _ upd_same]
  push_cast
  rfl
 ·have pm:(os.take r3++[(toB,1+r4)]++os.drop r3).Perm ((toB,1+r4)::os):=by
   rw [List.append_assoc];refine List.perm_middle.trans ?_;show ((toB,1+r4)::(os.take r3++os.drop r3)).Perm _;rw [List.take_append_drop]
  rw [(pm.map (·.1)).nodup_iff];rcases okO with rfl | rfl
  ·show ([toB,[116]]:List (List Nat)).Nodup;decide
  ·show ([toB,[116],[116,111,101]]:List (List Nat)).Nodup;decide
noncomputable def gL (K:Frag):Sp:=az fun a=>bB fun k=>bB fun z=>az fun d=>aM fun H Q _=>∃ (ns:List Int) (S:Nat) (ds:List (List Nat)),SqL K H a (ns.map V.int)/\0<=k/\k<=40000/\z=(S:Int)/\S<=100/\H d=some (.lst (ds.map tx))/\1<=ds.length/\ds.length<=100 /\
   ∀ p H' ws,H p=none->Same H H'->Ways H' p ws->ws.length<=5->(∀ x ∈ ws,x.1.length<=S)->Q (.ref p) H'
theorem qH (T:Top K mg):Callee P w K mg base 3 "_law_ways" ["_law_script", "_law_k", "_law_size", "_law_doors"] (gL K):=by
 refine T.lJ.cal dZ (by unfold gL; exact LenSp.h) (fun _ _ _ _ _ _ us hl=>match us,hl with | [_,_,_,_],_=>rfl) (fun f cdv A outer s H vs Q E hr h=>?_);unfold gL at h;walk_at "el";refine ⟨_,(af (au (i:=4) dZ.nd rfl lc (aL ad))
   (af (cu PassesOwn.never rfl (bC rfl T.ci (aw (av T) hr.m rfl (aa (qv 0) (aa (qv 1) (aa ae ad))))) (ak (i:=5) dZ.nd rfl lc) (af (au (i:=6) dZ.nd rfl lc (aZ (slE K rfl) (aw (ou T) hr.m rfl (aa (qv 0) (aa (am aj (am aj (qv 1) (am be ae (qv 5))) ae) (aa (qv 2) ad)))) bG (bw (aw (av T) hr.m rfl (aa (qv 0) (aa (am aj (am aj (qv 1) (am be ae (qv 5))) ae) (aa (am aj (qv 2) ae) ad)))))))
   (ai (bU (aF (notinE K rfl) (qv 6) (aQ (nt:=1) (fi:=[]) (N':=["_law_way"]) rfl (cscope rfl (by decide +kernel)) (cnames (N:=["_law_script", "_law_k", "_law_size", "_law_doors", "_law_ways_here", "_law_j", "_law_signs_here"]) (sc:=defScope fI) rfl rfl (by decide +kernel)) (aT (by decide)) (iterE K rfl (qv 4)) (fun _ _ _ _ _=>(ak (i:=0) (by show (["_law_way"]:List Str).Nodup; decide +kernel) rfl lc)) (fun _ _ _ _ _=>aU) (fun _ _ _ _ _=>(aq (ixE K rfl) (qv 0) ae (fun _ _=>rfl))))) (ai (bj (ba (qv 4) (aA (aa (qv 6) (aa (aq (ixE K rfl) (qv 3) (aw (av T) hr.m rfl (aa (qv 0) (aa (am aj (am aj (qv 1) (am be ae (qv 5))) ae) (aa (aB (lenE K rfl) rfl T.bZ bD (aa (qv 3) ad)) ad)))) (fun _ _=>rfl)) ad)))))) aO))))
   (ai (aC (qv 4))))),?_⟩
 rename_i a k z d;obtain ⟨ns,S,ds,hS,hk0,hk1,rfl,hSz,hd,hd1,hd2,q⟩:=h;walk_at "rd";refine ⟨Nat.zero_le _,fun g hg=>?_⟩;have s1:=ah hg (.lst []);refine bO (s1.seq hS) (by lia) (by lia) (by decide) (by decide) fun r1 hr1=>?_
 walk_at "rd";refine ⟨by lia,by lia,?_⟩;rw [Int.toNat_natCast];refine c9 (lo:=0) (n:=r1) (fun i σ H'=>∃ (ws:List Way) (u5 u6:Option V),σ = [some (.ref a),some (.int k),some (nV S),some (.ref d),some (.ref g),u5,u6]/\Same H H'/\Ways H' g ws/\ws.length<=i/\∀ x ∈ ws,x.1.length<=S)
  ⟨[],none,none,rfl,s1,⟨[],upd_same,.nil⟩,by simp,fun x hx=>by simp at hx⟩ ?_ ?_
 ·rintro i σ H1 hi ⟨ws,u5,u6,rfl,s2,hw,hwl,hwS⟩;walk_at "rd";have mul8:CMul 8 (i:Int):=.inl ⟨by decide,by decide⟩;refine ⟨mul8,ns,S,s2.seq hS,by lia,by lia,rfl,by lia,fun sg H2 s3 hsl=>⟨mul8,?_⟩⟩;have s23:=s2.trans s3;refine bO (s23.seq hS) (by lia) (by lia) (by lia) (by lia) fun r2 hr2=>?_
  walk_at "rd";refine ⟨by lia,by lia,by lia,?_⟩;rw [Int.toNat_natCast];have hbg:(sg.take r2).length<=S:=by rw [List.length_take]; lia
  generalize sg.take r2=bg at hbg;obtain ⟨vs,e1,pr⟩:=hw.same s3;have hvl:=pr.length;obtain ⟨z1,z2⟩:=bi pr;refine .inl ⟨⟨_,SqL.of e1⟩,fun D hD=>?_⟩;refine bv (item:=fun x:Way × V=>x.2) (xs:=ws.zip vs) (h:=fun x=>[tx x.1.1]) hD (by rw [z1]; exact SqL.of e1) (by rw [List.length_zip]; lia) (fun _=>by simp) ?_ ?_
  ·intro x H3 out non hx s5 ho _;obtain ⟨t,ex,et⟩:=z2 x hx;rw [ex];walk_at "rd";exact ⟨_,_,.inr (SqT.of (s5 _ _ et)),rfl,ho _ _ rfl (Same.refl _)⟩
  intro H3 s5 e3;rw [show (ws.zip vs).flatMap (fun x=>[tx x.1.1])=(ws.map (·.1)).map tx by
   rw [dj (fun x:Way × V=>tx x.1.1)]
   conv=>rhs; rw [<- dt (l:=ws) (m:=vs) hvl,List.map_map,List.map_map]
   rfl] at e3
  have s25:=s23.trans s5;have e5:=s5 _ _ e1;walk_at "rd";refine ⟨_,.inl (SqL.of e3),rfl,jY _,ite2 (fun _=>?_) fun _=>⟨ws,_,_,rfl,s25,(hw.same s3).same s5,by lia,hwS⟩⟩;have hd5:=s25 _ _ hd;refine ⟨⟨_,e5⟩,mul8,_,.inl (SqL.of hd5),?_⟩;rw [List.length_map];refine bO (s25.seq hS) (by lia) (by lia) (by lia) (by lia) fun r3 hr3=>?_
  obtain ⟨dv,hdv,edv⟩:=kF (l:=ds.map tx) (i:=r3) (by rw [List.length_map]; lia);obtain ⟨dn,hdn,rfl⟩:=List.mem_map.mp hdv;walk_at "rd";refine ⟨_,_,.inl (SqL.of hd5),edv,by decide,fun t ht=>?_⟩;have s6:=ah ht (.tup [tx bg,tx dn]);have e6:=s6 _ _ e5;refine ⟨vs,e6,sizeBig (by lia),ws++[(bg,dn)],_,_,rfl,aE (s25.trans s6) hg,⟨_,upd_same,?_⟩,by rw [List.length_append]; simp only [List.length_cons,List.length_nil]; lia,fun x hx=>?_⟩
  rotate_left
  ·rcases List.mem_append.mp hx with z | z
   ·exact hwS x z
   ·rw [List.mem_singleton.mp z];exact hbg
  exact aD (bu (cz e6) (bu (fun t vs z=>s6 _ _ z) (bu (fun t vs z=>s5 _ _ z) pr))) ⟨t,rfl,cz e6 _ _ upd_same⟩
 ·rintro σ H1 ⟨ws,u5,u6,rfl,s2,hw,hwl,hwS⟩;walk_at "rd";exact q g H1 ws hg s2 hw (by lia) hwS
theorem rR:∀ l:List (Fld × V),(∃ x ∈ l,x.1.1=toB)->(∀ x ∈ l,x.1.2<=3)->∃ (m:Nat) (rest:List V),(l.flatMap fun x=>if decide (x.1.1=toB)=true then [V.int x.1.2] else [])=V.int m::rest/\m<=3/\∃ x ∈ l,x.1=(toB,m)
 | [],⟨_,h,_⟩,_=>by cases h
 | x::l,h,hz=>by
  rw [List.flatMap_cons];by_cases g:x.1.1=toB
  ·rw [if_pos (decide_eq_true g)];exact ⟨x.1.2,_,rfl,hz x List.mem_cons_self,x,List.mem_cons_self,Prod.ext g rfl⟩
  ·rw [if_neg (fun z=>g (of_decide_eq_true z)),List.nil_append];obtain ⟨m,rest,e1,e2,y,hy,e3⟩:=rR l (by
    obtain ⟨y,hy,e⟩:=h;rcases List.mem_cons.mp hy with rfl | hy
    ·exact absurd e g
    ·exact ⟨y,hy,e⟩) fun y hy=>hz y (List.mem_cons_of_mem _ hy)
   exact ⟨m,rest,e1,e2,y,List.mem_cons_of_mem _ hy,e3⟩
structure HouseB (hs:House):Prop where
 nd:(hs.1.map (·.1)).Nodup
 g1:1<=hs.1.length
 g3:hs.1.length<=3
 rl:∀ x ∈ hs.1,x.2.length<=3
 w5:hs.2.length<=5
def HouseS (ls:List Fld) (hs:House):Prop:=widthL ls<=12/\∃ Z,(toB,Z) ∈ ls/\Z<=3/\(∀ x ∈ hs.1,∀ r ∈ x.2,RuleW (widthL ls) r)/\∀ x ∈ hs.2,x.1.length<=Z
noncomputable def fZ (K:Frag):Sp:=az fun a=>bB fun k=>az fun l=>az fun d=>bB fun sh=>aM fun H Q _=>∃ (ns:List Int) (ls:List Fld) (ds:List (List Nat)),SqL K H a (ns.map V.int)/\0<=k/\k<=20000/\Lay H l ls/\LayB ls/\(∀ x ∈ ls,x.2<=3)/\H d=some (.lst (ds.map tx))/\ds.Nodup/\1<=ds.length/\ds.length<=3/\0<=sh/\sh<=1000 /\
   ∀ q g w H' hs,H q=none->H g=none->H w=none->Same H H'->HouseN (fun r=>H r=none) H' q g w hs->HouseB hs->HouseS ls hs->hs.1.map (·.1)=ds->Q (.ref q) H'
theorem ji (T:Top K mg):Callee P w K mg base 4 "_law_house" ["_law_script", "_law_k", "_law_layout_here", "_law_doors", "_law_shift"] (fZ K):=by
 refine T.ku.cal bW (by unfold fZ; exact LenSp.h) (fun _ _ _ _ _ _ us hl=>match us,hl with | [_,_,_,_,_],_=>rfl) (fun f cdv A outer s H vs Q E hr h=>?_);unfold fZ at h;walk_at "el";refine ⟨_,(af (au (i:=5) bW.nd rfl lc (aB (oX K rfl rfl) rfl T.yg wM (aa (aQ (nt:=1) (fi:=[]) (N':=["_law_pair"]) rfl (cscope rfl (by decide +kernel)) (cnames (N:=["_law_script", "_law_k", "_law_layout_here", "_law_doors", "_law_shift", "_law_width", "_law_gates", "_law_j", "_law_here", "_law_many", "_law_size"]) (sc:=defScope cB) rfl rfl (by decide +kernel)) (aT (by decide)) (iterE K rfl (qv 2)) (fun _ _ _ _ _=>(ak (i:=0) (by show (["_law_pair"]:List Str).Nodup; decide +kernel) rfl lc)) (fun _ _ _ _ _=>aU) (fun _ _ _ _ _=>(aq (ixE K rfl) (qv 0) ae (fun _ _=>rfl)))) ad)))
   (af (au (i:=6) bW.nd rfl lc (aL ad))
   (af (cu PassesOwn.never rfl (bC rfl T.ci (aB (lenE K rfl) rfl T.bZ bD (aa (qv 3) ad))) (ak (i:=7) bW.nd rfl lc) (af (au (i:=8) bW.nd rfl lc (am aj (am aj (qv 1) ae) (am be ae (qv 7))))
   (af (au (i:=9) bW.nd rfl lc (aq (ixE K rfl) (aL (aa ae (aa ae (aa ae (aa ae ad))))) (aw (av T) hr.m rfl (aa (qv 0) (aa (am aj (am aj (qv 1) ae) (qv 7)) (aa ae ad)))) (fun _ _=>rfl)))
   (ai (bj (ba (qv 6) (aA (aa (aq (ixE K rfl) (qv 3) (qv 7) (fun _ _=>rfl)) (aa (aQ (nt:=1) (fi:=[0,5,4,8]) (N':=["_law_i", "_law_script", "_law_width", "_law_shift", "_law_here"]) rfl (cscope rfl (by decide +kernel)) (cnames (N:=["_law_script", "_law_k", "_law_layout_here", "_law_doors", "_law_shift", "_law_width", "_law_gates", "_law_j", "_law_here", "_law_many", "_law_size"]) (sc:=defScope cB) rfl rfl (by decide +kernel)) (aT (by decide)) (bC rfl T.ci (qv 9)) (fun _ _ _ _ _=>(ak (i:=0) (by show (["_law_i", "_law_script", "_law_width", "_law_shift", "_law_here"]:List Str).Nodup; decide +kernel) rfl lc)) (fun _ _ _ _ _=>aU) (fun _ _ _ _ _=>(aw (qf T) hr.m rfl (aa (qv 1) (aa (am aj (qv 4) (am be ae (qv 0))) (aa (qv 2) (aa (qv 3) ad))))))) ad)))))))))
   (af (au (i:=10) bW.nd rfl lc (aq (ixE K rfl) (aQ (nt:=1) (fi:=[]) (N':=["_law_pair"]) rfl (cscope rfl (by decide +kernel)) (cnames (N:=["_law_script", "_law_k", "_law_layout_here", "_law_doors", "_law_shift", "_law_width", "_law_gates", "_law_j", "_law_here", "_law_many", "_law_size"]) (sc:=defScope cB) rfl rfl (by decide +kernel)) (aT (by decide)) (iterE K rfl (qv 2)) (fun _ _ _ _ _=>(ak (i:=0) (by show (["_law_pair"]:List Str).Nodup; decide +kernel) rfl lc)) (fun _ _ _ _ _=>(d4 (aF dM (aq (ixE K rfl) (qv 0) ae (fun _ _=>rfl)) (qs [116,111])))) (fun _ _ _ _ _=>(aq (ixE K rfl) (qv 0) ae (fun _ _=>rfl)))) ae (fun _ _=>rfl)))
   (ai (aC (aA (aa (qv 6) (aa (aw (qH T) hr.m rfl (aa (qv 0) (aa (qv 1) (aa (qv 10) (aa (qv 3) ad))))) ad))))))))),?_⟩
 rename_i a k l d sh;obtain ⟨ns,ls,ds,hS,hk0,hk1,hL,ok,hz,hd,hdn,hd1,hd3,hs0,hs1,q⟩:=h;obtain ⟨vl,el,pl⟩:=id hL;have hll:=pl.length;have few:=ok.few;obtain ⟨z1,z2⟩:=bi pl;walk_at "rd";refine .inl ⟨⟨_,SqL.of el⟩,fun D hD=>?_⟩;refine bv (item:=fun x:Fld × V=>x.2) (xs:=ls.zip vl) (h:=fun x=>[V.int x.1.2]) hD (by rw [z1]; exact SqL.of el) (by rw [List.length_zip]; lia) (fun _=>by simp) ?_ ?_
 ·intro x H1 out non hx s1 ho _;obtain ⟨t,ex,et⟩:=z2 x hx;rw [ex];walk_at "rd";exact ⟨_,_,.inr (SqT.of (s1 _ _ et)),rfl,ho _ _ rfl (Same.refl _)⟩
 intro H1 s1 e1;rw [show (ls.zip vl).flatMap (fun x=>[V.int x.1.2])=((ls.map (·.2)).map fun n:Nat=>(n:Int)).map V.int by
  rw [dj (fun x:Fld × V=>V.int x.1.2)]
  conv=>rhs; rw [<- dt (l:=ls) (m:=vl) hll,List.map_map,List.map_map,List.map_map]
  rfl] at e1
 refine ⟨_,SqL.of e1,?_⟩;obtain ⟨W,eWL⟩:∃ W:Nat,W=widthL ls:=⟨_,rfl⟩;have eW:((ls.map (·.2)).map fun n:Nat=>(n:Int)).sum=(W:Int):=by
  rw [eWL];unfold widthL;generalize ls.map (·.2)=m
  induction m with
  | nil=>rfl
  | cons x m ih=>
   rw [List.map_cons,List.sum_cons,ih,List.sum_cons]
   push_cast
   rfl
 have hW:W<=12:=by
  have key:∀ l:List Fld,(∀ x ∈ l,x.2<=3)->(l.map (·.2)).sum<=3*l.length:=by
   intro l
   induction l with
   | nil=>exact fun _=>Nat.le_refl _
   | cons x l ih=>
    intro h;have:=ih fun y hy=>h y (List.mem_cons_of_mem _ hy)
    have:=h x List.mem_cons_self;rw [List.map_cons,List.sum_cons,List.length_cons]
    lia
  have:=key ls hz;rw [eWL];unfold widthL
  lia
 rw [eW];walk_at "rd";refine ⟨Nat.zero_le _,fun gl hgl=>⟨_,.inl (SqL.of ((s1.trans (ah hgl (.lst []))) _ _ hd)),?_⟩⟩;rw [List.length_map];refine ⟨by lia,by lia,?_⟩;rw [Int.toNat_natCast];have sg:=ah hgl (.lst []);refine c9 (lo:=0) (n:=ds.length) (fun i σ H'=>∃ (gs:List Gate) (vs:List V) (u7 u8 u9:Option V),σ = [some (.ref a),some (.int k),some (.ref l),some (.ref d),some (.int sh),some (nV W),some (.ref gl),u7,u8,u9,none]/\Same H1 H'/\H' gl=some (.lst vs)/\Paired (GateB gl (fun r=>H r=none) H') gs vs/\gs.map (·.1)=ds.take i/\(∀ x ∈ gs,x.2.length<=3)/\∀ x ∈ gs,∀ r ∈ x.2,RuleW W r)
  ⟨[],[],none,none,none,rfl,sg,upd_same,.nil,by simp,fun x hx=>by simp at hx,fun x hx=>by simp at hx⟩ ?_ ?_
 ·rintro i σ H2 hi ⟨gs,vs,u7,u8,u9,rfl,s2,eg,pg,hgd,hgl3,hgr⟩;walk_at "rd";have m60:CMul 60 (i:Int):=.inl ⟨by decide,by decide⟩;refine ⟨m60,by decide,fun c1 hc1=>?_⟩;have s3:=ah hc1 (.lst [V.int 2,V.int 1,V.int 0,V.int 3]);have s13:=s1.trans (s2.trans s3);refine bO (s13.seq hS) (by lia) (by lia) (by decide) (by decide) fun r1 hr1=>?_
  obtain ⟨c,hc,ec⟩:=xX (cs:=[2,1,0,3]) (B:=3) (vs:=[V.int 2,V.int 1,V.int 0,V.int 3]) rfl (by decide) (i:=r1) (by show r1 < 4; lia);walk_at "rd";refine ⟨_,_,.inl (SqL.of upd_same),ec,?_⟩;walk_at "rd";have eg3:=s3 _ _ eg;refine ⟨⟨_,eg3⟩,_,tx ds[i],.inl (SqL.of (s13 _ _ hd)),cw (by rw [List.getElem?_map,List.getElem?_eq_getElem hi]; rfl),by lia,by lia,fun R hR=>?_⟩;rw [Int.toNat_natCast];refine gm (lo:=0) (n:=c) (fun _ v H'=>∃ r:Rule,RuleW W r/\RuleAt H' r v) hR (by lia) ?_ ?_ ?_
  ·rintro x v H7 H8 acc hd' k' ⟨r,hr,t',rfl,et⟩;exact ⟨r,hr,t',rfl,k' t' _ (fun z=>by rw [z,hd'] at et; cases et) et⟩
  ·intro j H3 out non hj s4 ho;walk_at "rd";exact ⟨.inl ⟨by decide,by decide⟩,ns,W,(s13.trans s4).seq hS,by lia,by lia,rfl,by lia,hs0,hs1,fun t H4 r ht s5 e5 hr=>ho _ _ s5 ⟨r,hr,t,rfl,e5⟩⟩
  intro H3 us s4 e4 p4;obtain ⟨rs,pr4,hrl,hrok⟩:=fV p4;rw [List.length_range] at hrl;refine ⟨by decide,fun t ht=>?_⟩;have s5:=ah ht (.tup [tx ds[i],.ref R]);have eg5:=s5 _ _ (s4 _ _ eg3);have hvl:=pg.length;have hgl2:gs.length=i:=by
   have:=congrArg List.length hgd;rw [List.length_map,List.length_take] at this
   lia
  have nRg:R≠gl:=fun z=>by rw [z,eg3] at hR; cases hR
  refine ⟨vs,eg5,sizeBig (by lia),gs++[(ds[i],rs)],_,_,_,_,rfl,aE (s2.trans (s3.trans (s4.trans s5))) hgl,upd_same,?_,?_,fun x hx=>?_,fun x hx=>?_⟩
  ·exact aD (vo eg5 (tE (s3.trans (s4.trans s5)) pg)) ⟨t,R,rfl,⟨nRg,s13.free hR⟩,cz eg5 _ _ upd_same,oS eg5 nRg (Rules.same ⟨us,e4,pr4⟩ s5)⟩
  ·rw [List.map_append,hgd,List.take_add_one,List.getElem?_eq_getElem hi];rfl
  ·rcases List.mem_append.mp hx with z | z
   ·exact hgl3 x z
   ·rw [List.mem_singleton.mp z];show rs.length<=3
    lia
  ·rcases List.mem_append.mp hx with z | z
   ·exact hgr x z
   ·rw [List.mem_singleton.mp z];exact hrok
 ·rintro σ H2 ⟨gs,vs,u7,u8,u9,rfl,s2,eg,pg,hgd,hgl3,hgr⟩;rw [List.take_length] at hgd;have s12:=s1.trans s2;have el2:=s12 _ _ el;walk_at "rd";refine .inl ⟨⟨_,SqL.of el2⟩,fun D2 hD2=>?_⟩;refine bv (item:=fun x:Fld × V=>x.2) (xs:=ls.zip vl) (h:=fun x=>if decide (x.1.1=toB)=true then [V.int x.1.2] else []) hD2 (by rw [z1]; exact SqL.of el2) (by rw [List.length_zip]; lia) (fun _=>by split <;> simp) ?_ ?_
  ·intro x H3 out non hx s3 ho hno;obtain ⟨t,ex,et⟩:=z2 x hx;rw [ex];have et3:=s3 _ _ (s12 _ _ et);walk_at "rd";refine ⟨_,_,.inr (SqT.of et3),rfl,?_⟩;walk_at "rd";exact ite2 (fun g=>⟨_,_,.inr (SqT.of et3),rfl,ho _ _ (if_pos (decide_eq_true g)) (Same.refl _)⟩) fun g=>hno _ (if_neg (fun z=>g (of_decide_eq_true z))) (Same.refl _)
  intro H3 s3 e3;obtain ⟨m,rest,er,hm,xm,hxm,exm⟩:=rR (ls.zip vl) (by
   obtain ⟨n,hn⟩:=ok.to;rw [<- dt (l:=ls) (m:=vl) hll] at hn;obtain ⟨x,hx,e⟩:=List.mem_map.mp hn;exact ⟨x,hx,by rw [e]⟩) fun x hx=>hz x.1 (List.of_mem_zip hx).1
  rw [er] at e3;have s13:=s12.trans s3;walk_at "rd";refine ⟨_,V.int m,.inl (SqL.of e3),show atI _ ((0:Nat):Int)=_ from cw rfl,ns,m,ds,s13.seq hS,hk0,by lia,rfl,by lia,s13 _ _ hd,hd1,by lia,fun wp H4 ws hwp s4 hw hwl hwS=>⟨by decide,fun t ht=>?_⟩⟩;have s5:=ah ht (.tup [V.ref gl,V.ref wp]);have s35:=s3.trans (s4.trans s5);have hgs:gs.length=ds.length:=by rw [<- hgd,List.length_map]
  refine q t gl wp _ (gs,ws) ((s13.trans s4).free ht) (s1.free hgl) (s13.free hwp) (s13.trans (s4.trans s5)) ⟨upd_same,fun z=>(by rw [<- z,s3 _ _ eg] at hwp; cases hwp),⟨vs,s35 _ _ eg,L2.Paired.mapP pg ?_⟩,hw.same s5⟩ ⟨?_,by show 1<=gs.length; lia,by show gs.length<=3; lia,hgl3,hwl⟩ ⟨by lia,m,by rw [<- exm]; exact (List.of_mem_zip hxm).1,hm,fun x hx r hr=>by rw [<- eWL]; exact hgr x hx r hr,hwS⟩ hgd
  ·rintro x v ⟨t',r,rfl,n,h1,h2⟩;refine ⟨t',r,rfl,⟨n.1,fun z=>?_,n.2⟩,s35 _ _ h1,h2.same s35⟩;obtain ⟨us,eu,_⟩:=h2;have:=s3 _ _ eu;rw [z,hwp] at this;cases this
  ·show (gs.map (·.1)).Nodup;rw [hgd];exact hdn
theorem mz:∀ {ls:List Line},(endsOf ls).Nodup->∀ x ∈ ls,x.1≠x.2
 | [],_,_,h=>by cases h
 | y::ls,h,x,hx=>by
  have e:endsOf (y::ls)=y.1::y.2::endsOf ls:=rfl;rw [e,List.nodup_cons,List.nodup_cons] at h;rcases List.mem_cons.mp hx with rfl | hx
  ·exact fun z=>h.1 (by rw [z]; exact List.mem_cons_self)
  ·exact mz h.2.2 x hx
noncomputable def fW (K:Frag):Sp:=az fun a=>bB fun k=>az fun p=>bB fun z=>aM fun H Q _=>∃ (ns:List Int) (ss:List Way),SqL K H a (ns.map V.int)/\0<=k/\k<=40000/\z=0/\Ways H p ss/\ss.Nodup/\1<=ss.length/\ss.length<=12 /\
   ∀ q H' ls,H q=none->Same H H'->Lines H' q ls->(∀ x ∈ ls,x.1≠x.2)->ls.length<=6->Q (.ref q) H'
theorem oz (T:Top K mg):Callee P w K mg base 2 "_law_lines" ["_law_script", "_law_k", "_law_spots_here", "_law_spare"] (fW K):=by
 refine T.kg.cal cq (by unfold fW; exact LenSp.h) (fun _ _ _ _ _ _ us hl=>match us,hl with | [_,_,_,_],_=>rfl) (fun f cdv A outer s H vs Q E hr h=>?_);unfold fW at h;walk_at "el";refine ⟨_,(af (au (i:=4) cq.nd rfl lc (i4 (nN K rfl rfl) rfl T.kZ lY (aa (qv 2) ad)))
   (af (au (i:=5) cq.nd rfl lc (am xV (aB (mH rfl) rfl T.yd wz (aa ae (aa (am j4 (aB (lenE K rfl) rfl T.bZ bD (aa (qv 2) ad)) (qv 3)) ad))) ae))
   (af (au (i:=6) cq.nd rfl lc (aL ad))
   (af (cu PassesOwn.never rfl (bC rfl T.ci (aB (mH rfl) rfl T.yd wz (aa (aw (av T) hr.m rfl (aa (qv 0) (aa (qv 1) (aa (am aj ae (qv 5)) ad)))) (aa (aw (av T) hr.m rfl (aa (qv 0) (aa (am aj (qv 1) ae) (aa (am aj ae (qv 5)) ad)))) ad)))) (ak (i:=7) cq.nd rfl lc) (af (au (i:=8) cq.nd rfl lc (rA (qv 4) (aw (av T) hr.m rfl (aa (qv 0) (aa (am aj (am aj (qv 1) (am be ae (qv 7))) ae) (aa (aB (lenE K rfl) rfl T.bZ bD (aa (qv 4) ad)) ad))))))
   (ai (bj (ba (qv 6) (aA (aa (qv 8) (aa (rA (qv 4) (aw (av T) hr.m rfl (aa (qv 0) (aa (am aj (am aj (qv 1) (am be ae (qv 7))) ae) (aa (aB (lenE K rfl) rfl T.bZ bD (aa (qv 4) ad)) ad))))) ad))))))))
   (ai (aC (qv 6))))))),?_⟩
 rename_i a k p z0;obtain ⟨ns,sp,hS,hk0,hk1,rfl,⟨vs,e0,pr⟩,hnd,hl1,hl,q⟩:=h;have hvl:=pr.length;walk_at "rd";refine ⟨_,.inl (SqL.of e0),fun P hP=>?_⟩;have s1:=ah hP (.lst vs);refine ⟨_,.inl (SqL.of (s1 _ _ e0)),?_⟩;refine ⟨Nat.zero_le _,fun c hc=>?_⟩;have s2:=s1.trans (ah hc (.lst []));have eP:=ah hc (.lst []) _ _ (show upd H P (.lst vs) P=some (.lst vs) from upd_same);have ncP:c≠P:=fun z=>by rw [z,upd_same] at hc; cases hc
 have hc0:=s1.free hc;obtain ⟨hm,ehm⟩:∃ x:Nat,(if (0:Int) < (vs.length:Int) - 0 then (vs.length:Int) - 0 else 0) / 2=(x:Int):=⟨vs.length / 2,by split <;> lia⟩;have hm2:2*hm<=vs.length:=by
  split at ehm <;> lia
 rw [ehm];refine bO (s2.seq hS) (by lia) (by lia) (by lia) (by lia) fun r1 hr1=>?_
 refine bO (s2.seq hS) (by lia) (by lia) (by lia) (by lia) fun r2 hr2=>?_
 walk_at "rd";obtain ⟨z,ez,hz⟩:∃ z:Nat,(if (r1:Int) < (r2:Int) then (r2:Int) else (r1:Int))=(z:Int)/\2*z<=vs.length:=by
  split
  ·exact ⟨r2,rfl,by lia⟩
  ·exact ⟨r1,rfl,by lia⟩
 rw [ez,Int.toNat_natCast];refine ⟨by lia,by lia,?_⟩;have nPc:P≠c:=Ne.symm ncP;refine c9 (lo:=0) (n:=z) (fun i σ H'=>∃ (rest:List Way) (pv:List V) (ls:List Line) (cv:List V) (u5 u6:Option V),σ = [some (.ref a),some (.int k),some (.ref p),some (.int 0),some (.ref P),some (nV hm),some (.ref c),u5,u6]/\Same H H'/\H' P=some (.lst pv)/\Paired (WayAt H') rest pv/\H' c=some (.lst cv)/\Paired (LineAt H') ls cv/\(endsOf ls++rest).Perm sp/\rest.length+2*i=sp.length/\ls.length=i)
  ⟨sp,vs,[],[],none,none,rfl,s2,eP,bu (fun t us z=>s2 _ _ z) pr,upd_same,.nil,List.Perm.refl _,by lia,rfl⟩ ?_ ?_
 ·rintro i σ H1 hi ⟨rest,pv,ls,cv,u5,u6,rfl,s3,e3,p3,e4,p4,hperm,hrl,hll⟩;have l3:=p3.length;have l4:=p4.length;have mul2:CMul 2 (i:Int):=.inl ⟨by decide,by decide⟩;walk_at "rd";refine ⟨⟨_,e3⟩,mul2,_,.inl (SqL.of e3),bO (s3.seq hS) (by lia) (by lia) (by lia) (by lia) fun r3 hr3=>?_⟩;have h3:r3 < pv.length:=by lia
  have h3r:r3 < rest.length:=by lia
  refine ⟨pv,r3,pv[r3],rfl,e3,by lia,List.getElem?_eq_getElem h3,?_⟩;obtain ⟨y1,hy1,w1⟩:=aH p3 (List.getElem?_eq_getElem h3r);rw [List.getElem?_eq_getElem h3] at hy1;cases hy1;have p5:=hV r3 p3;have le1:(pv.eraseIdx r3).length=pv.length - 1:=List.length_eraseIdx_of_lt h3;have le2:(rest.eraseIdx r3).length=rest.length - 1:=List.length_eraseIdx_of_lt h3r;have s4:Same H (upd H1 P (.lst (pv.eraseIdx r3))):=aE s3 hP;have e5:upd H1 P (.lst (pv.eraseIdx r3)) P=some (.lst (pv.eraseIdx r3)):=upd_same;have e6:upd H1 P (.lst (pv.eraseIdx r3)) c=some (.lst cv):=by rw [ao ncP]; exact e4
  have k4:∀ t us,H1 t=some (.tup us)->upd H1 P (.lst (pv.eraseIdx r3)) t=some (.tup us):=cz e3;generalize upd H1 P (.lst (pv.eraseIdx r3))=H2 at s4 e5 e6 k4 ⊢;walk_at "rd";refine ⟨⟨_,e6⟩,⟨_,e5⟩,mul2,_,.inl (SqL.of e5),bO (s4.seq hS) (by lia) (by lia) (by lia) (by lia) fun r4 hr4=>?_⟩;have h4:r4 < (pv.eraseIdx r3).length:=by lia
  have h4r:r4 < (rest.eraseIdx r3).length:=by lia
  refine ⟨_,r4,(pv.eraseIdx r3)[r4],rfl,e5,by lia,List.getElem?_eq_getElem h4,by decide,fun t5 ht5=>?_⟩;obtain ⟨y2,hy2,w2⟩:=aH p5 (List.getElem?_eq_getElem h4r);rw [List.getElem?_eq_getElem h4] at hy2;cases hy2;have p6:=hV r4 p5;have s5:Same H (upd H2 P (.lst ((pv.eraseIdx r3).eraseIdx r4))):=aE s4 hP;have e7:upd H2 P (.lst ((pv.eraseIdx r3).eraseIdx r4)) P=some (.lst ((pv.eraseIdx r3).eraseIdx r4)):=upd_same;have e8:upd H2 P (.lst ((pv.eraseIdx r3).eraseIdx r4)) c=some (.lst cv):=by rw [ao ncP]; exact e6
  have k5:∀ t us,H2 t=some (.tup us)->upd H2 P (.lst ((pv.eraseIdx r3).eraseIdx r4)) t=some (.tup us):=cz e5;generalize upd H2 P (.lst ((pv.eraseIdx r3).eraseIdx r4))=H3 at s5 e7 e8 k5 ht5 ⊢;have s6:=ah ht5 (.tup [pv[r3],(pv.eraseIdx r3)[r4]]);have e9:=s6 _ _ e8;have kk:∀ t us,H1 t=some (.tup us)->upd (upd H3 t5 (.tup [pv[r3],(pv.eraseIdx r3)[r4]])) c (.lst (cv++[.ref t5])) t=some (.tup us):=fun t us z=>cz e9 _ _ (s6 _ _ (k5 _ _ (k4 _ _ z)))
  have nc5:c≠t5:=fun z=>by rw [<- z,e8] at ht5; cases ht5
  refine ⟨cv,e9,sizeBig (by lia),(rest.eraseIdx r3).eraseIdx r4,(pv.eraseIdx r3).eraseIdx r4,ls++[(rest[r3],(rest.eraseIdx r3)[r4])],cv++[.ref t5],_,_,rfl,aE (s5.trans s6) hc0,?_,bu kk p6,upd_same,?_,?_,?_,by rw [List.length_append,hll]; rfl⟩
  ·rw [ao nPc];exact s6 _ _ e7
  ·refine aD (L2.Paired.mapP p4 fun _ _ y=>gq kk y) ⟨t5,_,_,rfl,cz e9 _ _ upd_same,?_,?_⟩
   ·obtain ⟨ta,ea,ha⟩:=w1;exact ⟨ta,ea,kk _ _ ha⟩
   ·obtain ⟨ta,ea,ha⟩:=w2;exact ⟨ta,ea,kk _ _ ha⟩
  ·refine List.Perm.trans ?_ hperm;unfold endsOf;rw [List.flatMap_append,List.append_assoc];refine List.Perm.append_left _ ?_;show (rest[r3]::(rest.eraseIdx r3)[r4]::(rest.eraseIdx r3).eraseIdx r4).Perm rest;exact ((jA h4r).cons _).trans (jA h3r)
  ·have:((rest.eraseIdx r3).eraseIdx r4).length=(rest.eraseIdx r3).length - 1:=List.length_eraseIdx_of_lt h4r
   lia
 ·rintro σ H1 ⟨rest,pv,ls,cv,u5,u6,rfl,s3,e3,p3,e4,p4,hperm,hrl,hll⟩;walk_at "rd";refine q c H1 ls hc0 s3 ⟨cv,e4,p4⟩ (mz (List.nodup_append.mp (hperm.nodup_iff.mpr hnd)).1) (by lia)
def NamedF (A B:Addr) (H:Hp) (x:Named) (v:V):Prop:=∃ t q g w,v=.ref t/\H t=some (.tup [tx x.1,.ref q])/\HouseN (fun r=>r≠A/\r≠B) H q g w x.2/\(g≠A/\g≠B)/\w≠A/\w≠B
theorem fu {A B:Addr} {H H':Hp} (kt:∀ t vs,H t=some (.tup vs)->H' t=some (.tup vs)) (kl:∀ r vs,r≠A->r≠B->H r=some (.lst vs)->H' r=some (.lst vs)) {hs:List Named} {vs:List V} (h:Paired (NamedF A B H) hs vs):Paired (NamedF A B H') hs vs:=by
 refine L2.Paired.mapP h ?_;rintro x v ⟨t,q,g,w,e,et,hN,ng,nw⟩;obtain ⟨gv,eg,pg⟩:=hN.gates;obtain ⟨wv,ew,pw⟩:=hN.ways;refine ⟨t,q,g,w,e,kt _ _ et,⟨kt _ _ hN.tup,hN.ne,⟨gv,kl _ _ ng.1 ng.2 eg,L2.Paired.mapP pg ?_⟩,⟨wv,kl _ _ nw.1 nw.2 ew,bu kt pw⟩⟩,ng,nw⟩;rintro y u ⟨t2,r,e2,n2,h1,⟨rv,er,pr⟩⟩;exact ⟨t2,r,e2,n2,kt _ _ h1,⟨rv,kl _ _ n2.2.2.1 n2.2.2.2 er,eV kt pr⟩⟩
theorem vc {A B:Addr} {H:Hp} {hs:List Named} {vs:List V} (h:Paired (NamedF A B H) hs vs):Paired (NamedAt H) hs vs:=L2.Paired.mapP h fun _ _ ⟨t,q,_,_,e,et,hN,_⟩=>⟨t,q,e,et,hN.at⟩
theorem tL {F G:Addr->Prop} {H:Hp} {q g w:Addr} {hs:House} (h:HouseN F H q g w hs) (k:∀ r,F r->G r):HouseN G H q g w hs:=by
 obtain ⟨gv,eg,pg⟩:=h.gates;exact ⟨h.tup,h.ne,⟨gv,eg,L2.Paired.mapP pg fun _ _ ⟨t,r,e,n,h1,h2⟩=>⟨t,r,e,⟨n.1,n.2.1,k _ n.2.2⟩,h1,h2⟩⟩,h.ways⟩
structure NetB (N:Net):Prop where
 lay:LayB N.1
 nd:(N.2.1.map (·.1)).Nodup
 h1:1<=N.2.1.length
 h4:N.2.1.length<=4
 low:∀ x ∈ N.2.1,Low x.1/\1<=x.1.length/\x.1.length<=8
 house:∀ x ∈ N.2.1,HouseB x.2
 ends:∀ x ∈ N.2.2,x.1≠x.2
 l6:N.2.2.length<=6
noncomputable def iH (K:Frag):Sp:=az fun a=>bB fun k=>bB fun m=>bB fun z=>aM fun H Q _=>∃ (ns:List Int),SqL K H a (ns.map V.int)/\0<=k/\k<=10000/\1<=m/\m<=4/\z=0 /\
   ∀ q H' N,H q=none->Same H H'->NetAt H' q N->NetB N->(∀ x ∈ N.1,x.2<=3/\x.1≠padB)->N.1.length<=3->(∀ x ∈ N.2.1,HouseS N.1 x.2)->Q (.ref q) H'
theorem ro (T:Top K mg):Callee P w K mg base 5 "_law_net" ["_law_script", "_law_k", "_law_most", "_law_spare"] (iH K):=by
 refine T.nW.cal b5 (by unfold iH; exact LenSp.h) (fun _ _ _ _ _ _ us hl=>match us,hl with | [_,_,_,_],_=>rfl) (fun f cdv A outer s H vs Q E hr h=>?_);unfold iH at h;walk_at "el";refine ⟨_,(af (au (i:=4) b5.nd rfl lc (aw (mJ T) hr.m rfl (aa (qv 0) (aa (qv 1) ad))))
   (af (au (i:=5) b5.nd rfl lc (aw (jl T) hr.m rfl (aa (qv 0) (aa (am aj (qv 1) ae) (aa (am aj ae (aw (av T) hr.m rfl (aa (qv 0) (aa (am aj (qv 1) ae) (aa (qv 2) ad))))) ad)))))
   (af (au (i:=6) b5.nd rfl lc (aw (jl T) hr.m rfl (aa (qv 0) (aa (am aj (qv 1) ae) (aa ae ad)))))
   (af (au (i:=7) b5.nd rfl lc (aL ad))
   (af (au (i:=8) b5.nd rfl lc (aL ad))
   (af (cu PassesOwn.never rfl (bC rfl T.ci (aB (lenE K rfl) rfl T.bZ bD (aa (qv 5) ad))) (ak (i:=9) b5.nd rfl lc) (af (au (i:=10) b5.nd rfl lc (aZ (slE K rfl) (qv 6) bG (bw (am aj ae (aw (av T) hr.m rfl (aa (qv 0) (aa (am aj (am aj (qv 1) ae) (qv 9)) (aa ae ad))))))))
   (af (bj (ba (qv 7) (aA (aa (aq (ixE K rfl) (qv 5) (qv 9) (fun _ _=>rfl)) (aa (aw (ji T) hr.m rfl (aa (qv 0) (aa (am aj (am aj (qv 1) ae) (am be ae (qv 9))) (aa (qv 4) (aa (qv 10) (aa (aw (av T) hr.m rfl (aa (qv 0) (aa (am aj (qv 1) ae) (aa ae ad)))) ad)))))) ad)))))
   (ai (bj (kR (qv 8) (aQ (nt:=1) (fi:=[5,9]) (N':=["_law_door", "_law_names_here", "_law_j"]) rfl (cscope rfl (by decide +kernel)) (cnames (N:=["_law_script", "_law_k", "_law_most", "_law_spare", "_law_layout_here", "_law_names_here", "_law_doors", "_law_houses", "_law_spots_here", "_law_j", "_law_own"]) (sc:=defScope gZ) rfl rfl (by decide +kernel)) (aT (by decide)) (iterE K rfl (qv 10)) (fun _ _ _ _ _=>(ak (i:=0) (by show (["_law_door", "_law_names_here", "_law_j"]:List Str).Nodup; decide +kernel) rfl lc)) (fun _ _ _ _ _=>aU) (fun _ _ _ _ _=>(aA (aa (aq (ixE K rfl) (qv 1) (qv 2) (fun _ _=>rfl)) (aa (qv 0) ad)))))))))))
   (ai (aC (aA (aa (qv 4) (aa (qv 7) (aa (aw (oz T) hr.m rfl (aa (qv 0) (aa (am aj (qv 1) ae) (aa (qv 8) (aa (qv 3) ad))))) ad)))))))))))),?_⟩
 rename_i a k m z;obtain ⟨ns,hS,hk0,hk1,hm1,hm4,rfl,q⟩:=h;walk_at "rd";refine ⟨ns,hS,hk0,by lia,fun l H1 ls hl s1 hL lok hl3 hsz=>?_⟩;walk_at "rd";refine bO (s1.seq hS) (by lia) (by lia) (by lia) (by lia) fun r1 hr1=>?_
 walk_at "rd";refine ⟨ns,1+r1,s1.seq hS,by lia,by lia,by lia,by lia,by lia,fun np H2 nm hnp s2 e2 NB=>?_⟩;have s12:=s1.trans s2;walk_at "rd";refine ⟨ns,3,s12.seq hS,by lia,by lia,rfl,by decide,by decide,fun dp H3 dl hdp s3 e3 DB=>?_⟩;have s13:=s12.trans s3;have hnl:=NB.len;have hdl:=DB.len;walk_at "rd";refine ⟨Nat.zero_le _,fun A hA=>⟨Nat.zero_le _,fun B hB=>⟨_,.inl (SqL.of (((s3.trans (ah hA (.lst []))).trans (ah hB (.lst []))) _ _ e2)),?_⟩⟩⟩;rw [List.length_map];refine ⟨by lia,by lia,?_⟩;rw [Int.toNat_natCast];have nAB:A≠B:=fun z=>by rw [<- z,upd_same] at hB; cases hB
 have sA:=ah hA (.lst []);have sB:=ah hB (.lst []);have hB3:H3 B=none:=sA.free hB;refine c9 (lo:=0) (n:=nm.length) (fun i σ H'=>∃ (hs:List Named) (hv:List V) (ss:List Way) (sv:List V) (u9 u10:Option V),σ = [some (.ref a),some (.int k),some (.int m),some (.int 0),some (.ref l),some (.ref np),some (.ref dp),some (.ref A),some (.ref B),u9,u10]/\Same H3 H'/\H' A=some (.lst hv)/\Paired (NamedF A B H') hs hv/\H' B=some (.lst sv)/\Paired (WayAt H') ss sv /\
   hs.map (·.1)=nm.take i/\(∀ x ∈ hs,HouseB x.2/\HouseS ls x.2)/\ss.Nodup/\(∀ x ∈ ss,x.1 ∈ nm.take i)/\ss.length<=3*i/\i<=ss.length)
  ⟨[],[],[],[],none,none,rfl,sA.trans sB,sB _ _ upd_same,.nil,upd_same,.nil,by simp,fun x hx=>by simp at hx,List.nodup_nil,fun x hx=>by simp at hx,Nat.le_refl _,Nat.le_refl _⟩ ?_ ?_
 ·rintro i σ H4 hi ⟨hs,hv,ss,sv,u9,u10,rfl,s4,eA,pA,eB,pB,hnm,hok,snd,sin,ssl,ssl2⟩;have hlv:=pA.length;have hls:=pB.length;have hhl:hs.length=i:=by
   have:=congrArg List.length hnm;rw [List.length_map,List.length_take] at this
   lia
  have s14:=s13.trans s4;walk_at "rd";refine bO (s14.seq hS) (by lia) (by lia) (by decide) (by decide) fun r2 hr2=>?_
  walk_at "rd";have ed4:=s4 _ _ e3;refine ⟨_,SqL.of ed4,fun op hop=>?_⟩;rw [show ((1:Int)+(r2:Int))=((1+r2:Nat):Int) by lia,mL _ _ (by rw [List.length_map]; lia),<- List.map_take];have s5:=ah hop (.lst ((dl.take (1+r2)).map tx));have e5:upd H4 op (.lst ((dl.take (1+r2)).map tx)) op=some (.lst ((dl.take (1+r2)).map tx)):=upd_same;have nop:op≠B:=fun z=>by rw [z,eB] at hop; cases hop
  have hol:(dl.take (1+r2)).length=1+r2:=by rw [List.length_take]; lia
  have hond:(dl.take (1+r2)).Nodup:=List.Sublist.nodup (List.take_sublist _ _) DB.nd;generalize dl.take (1+r2)=ol at s5 e5 hol hond ⊢;have eA5:=s5 _ _ eA;have s15:=s14.trans s5;have en5:=s5 _ _ (s4 _ _ (s3 _ _ e2));have mul:CMul 300 (i:Int):=.inl ⟨by decide,by decide⟩;have hnv:atI (nm.map tx) (i:Int)=some (tx nm[i]):=cw (by rw [List.getElem?_map,List.getElem?_eq_getElem hi]; rfl);refine ⟨⟨_,eA5⟩,_,tx nm[i],.inl (SqL.of en5),hnv,mul,?_⟩;refine bO (s15.seq hS) (by lia) (by lia) (by decide) (by decide) fun r3 hr3=>?_
  refine ⟨ns,ls,ol,s15.seq hS,by lia,by lia,((hL.same (s2.trans s3)).same s4).same s5,lok,fun x hx=>(hsz x hx).1,e5,hond,by lia,by lia,by lia,by lia,fun hq g w H6 h6 hhq hg hw s6 hN6 hok6 hsh6 hd6=>⟨by decide,fun t ht=>?_⟩⟩;have s7:=ah ht (.tup [tx nm[i],.ref hq]);have eA7:=s7 _ _ (s6 _ _ eA5);have eB7:=s7 _ _ (s6 _ _ (s5 _ _ eB));have eo7:=s7 _ _ (s6 _ _ e5);have en7:=s7 _ _ (s6 _ _ en5);have s47:=s5.trans (s6.trans s7);have fA:∀ r,upd H4 op (.lst (ol.map tx)) r=none->r≠A/\r≠B:=fun r hr=>⟨fun z=>(by rw [z,eA5] at hr; cases hr),fun z=>(by rw [z,s5 _ _ eB] at hr; cases hr)⟩
  have npA:np≠A:=fun z=>by rw [z] at e2; have:=s3 _ _ e2; rw [hA] at this; cases this
  have opA:op≠A:=fun z=>by rw [z,eA] at hop; cases hop
  refine ⟨hv,eA7,sizeBig (by lia),?_⟩;have kt8:∀ t' vs',upd H6 t (.tup [tx nm[i],.ref hq]) t'=some (.tup vs')->upd (upd H6 t (.tup [tx nm[i],.ref hq])) A (.lst (hv++[.ref t])) t'=some (.tup vs'):=cz eA7;have kl8:∀ r vs',r≠A->upd H6 t (.tup [tx nm[i],.ref hq]) r=some (.lst vs')->upd (upd H6 t (.tup [tx nm[i],.ref hq])) A (.lst (hv++[.ref t])) r=some (.lst vs'):=fun r vs' n e=>by rw [ao n]; exact e
  have eA8:upd (upd H6 t (.tup [tx nm[i],.ref hq])) A (.lst (hv++[.ref t])) A=some (.lst (hv++[.ref t])):=upd_same;have s38:Same H3 (upd (upd H6 t (.tup [tx nm[i],.ref hq])) A (.lst (hv++[.ref t]))):=aE (s4.trans s47) hA;have pA8:Paired (NamedF A B (upd (upd H6 t (.tup [tx nm[i],.ref hq])) A (.lst (hv++[.ref t])))) (hs++[(nm[i],h6)]) (hv++[.ref t]):=by
   refine aD (fu kt8 (fun r vs' n1 n2 e=>kl8 r vs' n1 e) (fu (fun t' vs' e=>s47 _ _ e) (fun r vs' _ _ e=>s47 _ _ e) pA)) ?_;have hN7:=(tL hN6 fA).same s7;have one:Paired (NamedF A B (upd H6 t (.tup [tx nm[i],.ref hq]))) [(nm[i],h6)] [V.ref t]:=.cons ⟨t,hq,g,w,rfl,upd_same,hN7,fA g hg,fA w hw⟩ .nil;have one:=fu kt8 (fun r vs' n1 n2 e=>kl8 r vs' n1 e) one;cases one with
   | cons r _=>exact r
  have eB8:=kl8 _ _ (Ne.symm nAB) eB7;have eo8:=kl8 _ _ opA eo7;have en8:=kl8 _ _ npA en7;have pB8:=bu kt8 (bu (fun t' vs' e=>s47 _ _ e) pB);generalize upd (upd H6 t (.tup [tx nm[i],.ref hq])) A (.lst (hv++[.ref t]))=H8 at eA8 s38 pA8 eB8 eo8 en8 pB8 ⊢;walk_at "rd";refine ⟨⟨_,eB8⟩,.inl ⟨⟨_,SqL.of eo8⟩,fun D hD=>?_⟩⟩;refine mI (K:=K) tx ol (fun _=>true) (fun x v H'=>WayAt H' (nm[i],x) v) hD (SqL.of eo8) (by lia) ?_ ?_ ?_
  ·rintro x v H9 H10 acc hd' k' ⟨t',rfl,et⟩;exact ⟨t',rfl,k' t' _ (fun z=>by rw [z,hd'] at et; cases et) et⟩
  ·rintro x H9 out non hx s9 ho _;walk_at "rd";exact ⟨_,tx nm[i],.inl (SqL.of (s9 _ _ en8)),hnv,by decide,fun t9 ht9=>ho _ _ rfl (ah ht9 _) ⟨t9,rfl,upd_same⟩⟩
  intro H9 us s9 e9 p9;rw [List.filter_eq_self.mpr fun _ _=>rfl] at p9;have p9:Paired (WayAt H9) (ol.map fun x=>(nm[i],x)) us:=cS p9;have hul:=p9.length;rw [List.length_map] at hul;have eB9:=s9 _ _ eB8;have kt9:∀ t' vs',H9 t'=some (.tup vs')->upd H9 B (.lst (sv++us)) t'=some (.tup vs'):=cz eB9;have hni:nm[i] ∉ nm.take i:=fun z=>by
   obtain ⟨j,hj,e⟩:=List.mem_take_iff_getElem.mp z;have:=(List.getElem_inj NB.nd).mp e
   lia
  refine ⟨sv,us,eB9,e9,by rw [sizeLine_eq]; lia,hs++[(nm[i],h6)],hv++[.ref t],ss++ol.map (fun x=>(nm[i],x)),sv++us,_,_,rfl,aE (s38.trans s9) hB3,by rw [ao nAB]; exact s9 _ _ eA8,?_,upd_same,?_,?_,fun x hx=>?_,?_,fun x hx=>?_,?_,?_⟩
  ·exact fu (fun t' vs' e=>kt9 _ _ (s9 _ _ e)) (fun r vs' _ n2 e=>by rw [ao n2]; exact s9 _ _ e) pA8
  ·exact gB (bu (fun t' vs' e=>kt9 _ _ (s9 _ _ e)) pB8) (bu kt9 p9)
  ·rw [List.map_append,hnm,List.take_add_one,List.getElem?_eq_getElem hi];rfl
  ·rcases List.mem_append.mp hx with z | z
   ·exact hok x z
   ·rw [List.mem_singleton.mp z];exact ⟨hok6,hsh6⟩
  ·refine List.nodup_append.mpr ⟨snd,List.pairwise_map.mpr (hond.imp fun n e=>n (by cases e; rfl)),fun x hx y hy e=>?_⟩;obtain ⟨z,_,rfl⟩:=List.mem_map.mp hy;rw [e] at hx;exact hni (sin _ hx)
  ·rw [List.take_add_one,List.getElem?_eq_getElem hi];rcases List.mem_append.mp hx with z | z
   ·exact List.mem_append_left _ (sin x z)
   ·obtain ⟨y,_,rfl⟩:=List.mem_map.mp z;exact List.mem_append_right _ (by simp)
  ·rw [List.length_append,List.length_map]
   lia
  ·rw [List.length_append,List.length_map]
   lia
 ·rintro σ H4 ⟨hs,hv,ss,sv,u9,u10,rfl,s4,eA,pA,eB,pB,hnm,hok,snd,sin,ssl,ssl2⟩;rw [List.take_length] at hnm sin;have s14:=s13.trans s4;walk_at "rd";refine ⟨ns,ss,s14.seq hS,by lia,by lia,rfl,⟨sv,eB,pB⟩,snd,by lia,by lia,fun lq H5 lns hlq s5 hLn hap hl6=>⟨by decide,fun t ht=>?_⟩⟩;have s6:=ah ht (.tup [V.ref l,V.ref A,V.ref lq]);have s56:=s5.trans s6;have hhl:hs.length=nm.length:=by rw [<- hnm,List.length_map]
  refine q t _ (ls,hs,lns) ((s14.trans s5).free ht) (s14.trans s56) ⟨l,A,lq,upd_same,(((hL.same (s2.trans s3)).same s4).same s56),⟨hv,s56 _ _ eA,?_⟩,hLn.same s6⟩ ⟨lok,?_,by show 1<=hs.length; lia,by show hs.length<=4; lia,fun x hx=>?_,fun x hx=>(hok x hx).1,hap,hl6⟩ hsz hl3 fun x hx=>(hok x hx).2
  ·exact L2.Paired.mapP (vc pA) fun _ _ ⟨t',q',e,h1,h2⟩=>⟨t',q',e,s56 _ _ h1,h2.same s56⟩
  ·show (hs.map (·.1)).Nodup;rw [hnm];exact NB.nd
  ·have:x.1 ∈ nm:=by rw [<- hnm]; exact List.mem_map.mpr ⟨x,hx,rfl⟩
   exact ⟨NB.low _ this,NB.short _ this⟩
noncomputable def hole (g:Addr) (H:Hp):Hp:=fun b=>if b=g then none else H b
theorem bo {g:Addr} {H:Hp}:hole g H g=none:=if_pos rfl
theorem bf {g b:Addr} {H:Hp} (n:b≠g):hole g H b=H b:=if_neg n
theorem aJ {g:Addr} {H:Hp}:Same (hole g H) H:=fun b o e=>by
 by_cases n:b=g
 ·rw [n,bo] at e; cases e
 ·rw [bf n] at e; exact e
theorem br {g:Addr} {H0 H:Hp} (s:Same H0 H) (h:H0 g=none):Same H0 (hole g H):=fun b o e=>by
 rw [bf (fun n=>by rw [n,h] at e; cases e)];exact s b o e
theorem aG {g:Addr} {H H':Hp} (s:Same H H'):Same (hole g H) (hole g H'):=fun b o e=>by
 by_cases n:b=g
 ·rw [n,bo] at e; cases e
 ·rw [bf n] at e ⊢; exact s _ _ e
theorem dC {g:Addr} {H:Hp} {o:HO}:hole g (upd H g o)=hole g H:=by
 funext b;by_cases n:b=g
 ·rw [n,bo,bo]
 ·rw [bf n,bf n,ao n]
theorem cJ {g:Addr} {H:Hp} {us:List V} (hg:H g=some (.lst us)) {t:Addr} {vs:List V} (h:H t=some (.tup vs)):hole g H t=some (.tup vs):=by
 rw [bf (fun z=>by rw [z,hg] at h; cases h)];exact h
theorem jJ {g r:Addr} {H:Hp} {us:List V} {rs:List Rule} (hg:H g=some (.lst us)) (n:r≠g) (h:Rules H r rs):Rules (hole g H) r rs:=by
 obtain ⟨vs,e,pr⟩:=h;exact ⟨vs,by rw [bf n]; exact e,eV (fun _ _=>cJ hg) pr⟩
noncomputable def fh:Sp:=dP fun r=>dP fun p=>jj fun b=>aM fun H Q _=>r.cps.toList.length<=1000/\p.cps.toList.length<=1000/\Q (tx (if b=true then p.cps.toList++r.cps.toList else r.cps.toList++p.cps.toList)) H
theorem io (T:Top K mg):Callee P w K mg base 1 "_law_padded" ["_law_row_here", "_law_pad", "_law_front"] fh:=by
 refine T.jt.cal mF (by unfold fh; exact LenSp.h) (fun _ _ _ _ _ _ us hl=>match us,hl with | [_,_,_],_=>rfl) (fun f cdv A outer s H vs Q E hr h=>?_);unfold fh at h;walk_at "el";refine ⟨_,(af (bU (im (qv 2)) (ai (aC (am aj (qv 1) (qv 0)))) aO)
   (ai (aC (am aj (qv 0) (qv 1))))),?_⟩
 rename_i r p b;obtain ⟨r,rfl⟩:∃ x,r=st x:=⟨_,(b8 r).symm⟩;obtain ⟨p,rfl⟩:∃ x,p=st x:=⟨_,(b8 p).symm⟩;obtain ⟨h1,h2,q⟩:=h;simp only [bM] at h1 h2 q;walk_at "rd";cases b with
 | true=>exact ⟨by lia,q⟩
 | false=>exact ⟨by lia,q⟩
noncomputable def padR (S:Nat) (b:Bool) (r:List Nat):List Nat:=if b=true then List.replicate S 45++r else r++List.replicate S 45
noncomputable def padRule (S:Nat) (b:Bool) (r:Rule):Rule:=(padR S b r.1,r.2.1,padR S b r.2.2)
theorem r9 (S:Nat) (b:Bool) (r:List Nat):(padR S b r).length=r.length+S:=by
 unfold padR;split
 ·rw [List.length_append,List.length_replicate]; lia
 ·rw [List.length_append,List.length_replicate]
theorem tz {S:Nat} {b:Bool} {r:List Nat} {i:Nat} (h:i < r.length+S) (hi:(padR S b r).getD i 0≠45):(if b=true then S else 0)<=i/\i < (if b=true then S else 0)+r.length:=by
 unfold padR at hi;have rp:∀ j,j < S->(List.replicate S 45).getD j 0=45:=fun j hj=>by
  rw [List.getD_eq_getElem?_getD,List.getElem?_replicate,if_pos hj];rfl
 cases b with
 | true=>
  rw [if_pos rfl] at hi;rw [if_pos rfl];by_cases g:i < S
  ·rw [List.getD_eq_getElem?_getD,List.getElem?_append_left (by rw [List.length_replicate]; exact g),<- List.getD_eq_getElem?_getD,rp i g] at hi;exact absurd rfl hi
  ·lia
 | false=>
  rw [if_neg (by decide)] at hi;rw [if_neg (by decide)];by_cases g:i < r.length
  ·lia
  ·rw [List.getD_eq_getElem?_getD,List.getElem?_append_right (by lia),<- List.getD_eq_getElem?_getD,rp _ (by lia)] at hi;exact absurd rfl hi
def PadOk (W lo hi:Nat) (r:Rule):Prop:=r.1.length=W/\r.2.1.length<=4/\r.2.2.length=W/\∀ i,i < W->r.1.getD i 0≠45->lo<=i/\i < hi
def HouseP (W Z lo hi:Nat) (hs:House):Prop:=(∀ x ∈ hs.1,∀ r ∈ x.2,PadOk W lo hi r)/\∀ x ∈ hs.2,x.1.length<=Z
def NetG (N:Net):Prop:=∃ Z lo hi,(toB,Z) ∈ N.1/\Z<=3/\hi<=lo+12/\widthL N.1<=60/\∀ x ∈ N.2.1,HouseP (widthL N.1) Z lo hi x.2
theorem Bq {W S:Nat} {b:Bool} {r:Rule} (h:RuleW W r):PadOk (W+S) (if b=true then S else 0) ((if b=true then S else 0)+W) (padRule S b r):=by
 refine ⟨by show (padR S b r.1).length=_; rw [r9,h.row],h.word,by show (padR S b r.2.2).length=_; rw [r9,h.over],fun i hi h1=>?_⟩;have:=tz (S:=S) (b:=b) (r:=r.1) (i:=i) (by rw [h.row]; exact hi) h1;rw [h.row] at this;exact this
theorem AZ {ls:List Fld} (h:(ls.map (·.1)).Nodup) {a b:Nat} (ha:(toB,a) ∈ ls) (hb:(toB,b) ∈ ls):a=b:=by
 induction ls with
 | nil=>cases ha
 | cons x l ih=>
  rw [List.map_cons,List.nodup_cons] at h;rcases List.mem_cons.mp ha with e1 | e1 <;> rcases List.mem_cons.mp hb with e2 | e2
  ·rw [<- e1] at e2;exact (Prod.ext_iff.mp e2).2.symm
  ·exact absurd (List.mem_map.mpr ⟨_,e2,by rw [<- e1]⟩) h.1
  ·exact absurd (List.mem_map.mpr ⟨_,e1,by rw [<- e2]⟩) h.1
  ·exact ih h.2 e1 e2
noncomputable def cI (K:Frag):Sp:=az fun t=>bB fun z=>jj fun b=>aM fun H Q _=>∃ (r:Rule) (S:Nat),H t=some (.tup [tx r.1,tx r.2.1,tx r.2.2])/\(r.1.length<=100/\r.2.1.length<=4/\r.2.2.length<=100)/\z=(S:Int)/\S<=42 /\
   ∀ t' H' (r':Rule),H t'=none->Same H H'->H' t'=some (.tup [tx r'.1,tx r'.2.1,tx r'.2.2])->r'=padRule S b r->Q (.ref t') H'
theorem jc (T:Top K mg):Callee P w K mg base 2 "_law_rule_padded" ["_law_rule_here", "_law_size", "_law_front"] (cI K):=by
 refine T.fq.cal i9 (by unfold cI; exact LenSp.h) (fun _ _ _ _ _ _ us hl=>match us,hl with | [_,_,_],_=>rfl) (fun f cdv A outer s H vs Q E hr h=>?_);unfold cI at h;walk_at "el";refine ⟨_,(ai (aC (aA (aa (aw (io T) hr.m rfl (aa (aq (ixE K rfl) (qv 0) ae (fun _ _=>rfl)) (aa (am be (qs [45]) (qv 1)) (aa (qv 2) ad)))) (aa (aq (ixE K rfl) (qv 0) ae (fun _ _=>rfl)) (aa (aw (io T) hr.m rfl (aa (aq (ixE K rfl) (qv 0) ae (fun _ _=>rfl)) (aa (am be (qs [45]) (qv 1)) (aa (qv 2) ad)))) ad)))))),?_⟩;rename_i t z b;obtain ⟨r,S,et,hr,rfl,hS,q⟩:=h;walk_at "rd";refine ⟨_,_,.inr (SqT.of et),rfl,by lia,by lia,?_⟩;refine ⟨by simp only [bM]; lia,by simp; lia,?_⟩;refine ⟨_,tx r.2.1,.inr (SqT.of et),rfl,_,tx r.2.2,.inr (SqT.of et),rfl,by lia,by lia,by simp only [bM]; lia,by simp; lia,by decide,fun t' ht'=>?_⟩;simp only [bM,Int.toNat_natCast];exact q t' _ (padRule S b r) ht' (ah ht' _) upd_same rfl
noncomputable def doorsOf (hs:List Named):List (List Nat × List (List Nat)):=hs.map fun x=>(x.1,x.2.1.map (·.1))
noncomputable def padL (ls:List Fld) (S:Nat) (b:Bool):List Fld:=if S=0 then ls else if b=true then (padB,S)::ls else ls++[(padB,S)]
theorem zG {ls:List Fld} {S:Nat} {b:Bool} (ok:LayB ls) (h3:ls.length<=3) (hS:S<=42) (np:∀ x ∈ ls,x.1≠padB):LayB (padL ls S b):=by
 unfold padL;have nin:padB ∉ ls.map (·.1):=fun z=>by
  obtain ⟨x,hx,e⟩:=List.mem_map.mp z;exact np x hx e
 obtain ⟨n,hn⟩:=ok.to;split
 ·exact ok
 ·split
  ·refine ⟨by have:=ok.two; rw [List.length_cons]; lia,by rw [List.length_cons]; lia,List.nodup_cons.mpr ⟨nin,ok.nd⟩,⟨n,List.mem_cons_of_mem _ hn⟩,fun x hx=>?_⟩;rcases List.mem_cons.mp hx with rfl | hx
   ·show S<=100
    lia
   ·exact ok.sz x hx
  ·refine ⟨by have:=ok.two; rw [List.length_append]; lia,by rw [List.length_append]; simp only [List.length_cons,List.length_nil]; lia,?_,⟨n,List.mem_append_left _ hn⟩,fun x hx=>?_⟩
   ·rw [List.map_append];exact List.nodup_append.mpr ⟨ok.nd,List.nodup_cons.mpr ⟨by simp,List.nodup_nil⟩,fun x hx y hy e=>nin (by have e2:x=padB:=e.trans (List.mem_singleton.mp hy); rw [<- e2]; exact hx)⟩
   ·rcases List.mem_append.mp hx with hx | hx
    ·exact ok.sz x hx
    ·rw [List.mem_singleton.mp hx];show S<=100
     lia
theorem mt (ls:List Fld) (S:Nat) (b:Bool):widthL (padL ls S b)=widthL ls+S:=by
 unfold padL widthL;split
 ·lia
 ·split
  ·rw [List.map_cons,List.sum_cons];exact Nat.add_comm _ _
  ·rw [List.map_append,List.sum_append];rfl
noncomputable def fP (K:Frag):Sp:=az fun q=>bB fun z=>jj fun b=>aM fun H Q _=>∃ (N:Net) (S:Nat),NetAt H q N/\NetB N/\N.1.length<=3/\(∀ x ∈ N.1,x.1≠padB)/\(∀ x ∈ N.2.1,HouseS N.1 x.2)/\z=(S:Int)/\S<=42 /\
   ∀ q' H' N',Same H H'->NetAt H' q' N'->NetB N'->N'.1=padL N.1 S b->N'.2.2=N.2.2->doorsOf N'.2.1=doorsOf N.2.1->NetG N'->Q (.ref q') H'
theorem jn (T:Top K mg):Callee P w K mg base 3 "_law_wider" ["_law_net_here", "_law_size", "_law_front"] (fP K):=by
 refine T.kr.cal bx (by unfold fP; exact LenSp.h) (fun _ _ _ _ _ _ us hl=>match us,hl with | [_,_,_],_=>rfl) (fun f cdv A outer s H vs Q E hr h=>?_);unfold fP at h;walk_at "el";refine ⟨_,(af (bU (aF dM (qv 1) ae) (ai (aC (qv 0))) aO)
   (af (au (i:=3) bx.nd rfl lc (am aj (aq (ixE K rfl) (qv 0) ae (fun _ _=>rfl)) (aL (aa (aA (aa (qs [112,97,100]) (aa (qv 1) ad))) ad))))
   (cX (bU (im (qv 2)) (ai (au (i:=3) bx.nd rfl lc (am aj (aL (aa (aA (aa (qs [112,97,100]) (aa (qv 1) ad))) ad)) (aq (ixE K rfl) (qv 0) ae (fun _ _=>rfl))))) aO)
   (af (au (i:=4) bx.nd rfl lc (aL ad))
   (af (cu PassesOwn.never rfl (iterE K rfl (aq (ixE K rfl) (qv 0) ae (fun _ _=>rfl))) (tupE K rfl rfl (n:=2) (ar (ak (i:=5) bx.nd rfl lc) (ar (ak (i:=6) bx.nd rfl lc) bn))) (af (au (i:=7) bx.nd rfl lc (aL ad))
   (af (cu PassesOwn.never rfl (iterE K rfl (aq (ixE K rfl) (qv 6) ae (fun _ _=>rfl))) (tupE K rfl rfl (n:=2) (ar (ak (i:=8) bx.nd rfl lc) (ar (ak (i:=9) bx.nd rfl lc) bn))) (ai (bj (ba (qv 7) (aA (aa (qv 8) (aa (aQ (nt:=1) (fi:=[1,2]) (N':=["_law_rule_here", "_law_size", "_law_front"]) rfl (cscope rfl (by decide +kernel)) (cnames (N:=["_law_net_here", "_law_size", "_law_front", "_law_layout_here", "_law_houses", "_law_name", "_law_house_here", "_law_gates", "_law_door", "_law_rules"]) (sc:=defScope dX) rfl rfl (by decide +kernel)) (aT (by decide)) (iterE K rfl (qv 9)) (fun _ _ _ _ _=>(ak (i:=0) (by show (["_law_rule_here", "_law_size", "_law_front"]:List Str).Nodup; decide +kernel) rfl lc)) (fun _ _ _ _ _=>aU) (fun _ _ _ _ _=>(aw (jc T) hr.m rfl (aa (qv 0) (aa (qv 1) (aa (qv 2) ad)))))) ad)))))))
   (ai (bj (ba (qv 4) (aA (aa (qv 5) (aa (aA (aa (qv 7) (aa (aq (ixE K rfl) (qv 6) ae (fun _ _=>rfl)) ad))) ad)))))))))
   (ai (aC (aA (aa (qv 3) (aa (qv 4) (aa (aq (ixE K rfl) (qv 0) ae (fun _ _=>rfl)) ad))))))))))),?_⟩
 rename_i q z b;obtain ⟨N,S,hN,nb,hl3,np,hsh,rfl,hS,q'⟩:=h;walk_at "rd";obtain ⟨Z,hZ⟩:=nb.lay.to;have hgood:∀ x ∈ N.2.1,widthL N.1<=12/\Z<=3/\(∀ g ∈ x.2.1,∀ r ∈ g.2,RuleW (widthL N.1) r)/\∀ y ∈ x.2.2,y.1.length<=Z:=fun x hx=>by
  obtain ⟨h1,Z',h2,h3,h4,h5⟩:=hsh x hx;rw [AZ nb.lay.nd hZ h2];exact ⟨h1,h3,h4,h5⟩
 obtain ⟨x0,hx0⟩:=List.exists_mem_of_length_pos (l:=N.2.1) (by have:=nb.h1; lia);obtain ⟨hW12,hZ3,_⟩:=hgood x0 hx0;refine ite2 (fun g=>q' q H N (Same.refl _) hN nb ?_ rfl rfl ⟨Z,0,widthL N.1,hZ,hZ3,by lia,by lia,fun x hx=>⟨fun g hg r hr=>?_,(hgood x hx).2.2.2⟩⟩) fun g=>?_
 ·unfold padL;rw [if_pos (by lia)]
 ·have:=(hgood x hx).2.2.1 g hg r hr;exact ⟨this.row,this.word,this.over,fun i hi _=>⟨Nat.zero_le _,hi⟩⟩
 generalize elo:(if b=true then S else 0)=lo;have pok:∀ {r:Rule},RuleW (widthL N.1) r->PadOk (widthL N.1+S) lo (lo+widthL N.1) (padRule S b r):=fun {r} h=>by rw [<- elo]; exact Bq h
 obtain ⟨la,ha,ca,et,hL,hH,hC⟩:=id hN;refine ⟨_,_,.inr (SqT.of et),rfl,?_⟩;walk_at "rd";obtain ⟨lv,el,pl⟩:=id hL;have hll:=pl.length;refine ⟨by decide,fun t1 ht1=>⟨by decide,fun l1 hl1=>?_⟩⟩;have k1:=ah ht1 (.tup [V.str (st [112,97,100]),V.int (S:Int)]);have k2:=ah hl1 (.lst [V.ref t1]);have k12:=k1.trans k2;refine ⟨lv,_,k12 _ _ el,upd_same,by rw [sizeLine_eq]; simp only [List.length_cons,List.length_nil]; lia,fun l2 hl2=>?_⟩;have k3:=ah hl2 (.lst (lv++[V.ref t1]));have s3:=k12.trans k3;have L3:Lay (upd (upd (upd H t1 (.tup [V.str (st [112,97,100]),V.int (S:Int)])) l1 (.lst [V.ref t1])) l2 (.lst (lv++[V.ref t1]))) l2 (N.1++[(padB,S)]):=⟨_,upd_same,aD (c6 (fun t vs z=>s3 _ _ z) pl) ⟨t1,rfl,k3 _ _ (k2 _ _ upd_same)⟩⟩;generalize upd (upd (upd H t1 (.tup [V.str (st [112,97,100]),V.int (S:Int)])) l1 (.lst [V.ref t1])) l2 (.lst (lv++[V.ref t1]))=H3 at s3 L3 ⊢;refine ⟨fun σ' H'=>∃ lp:Addr,σ'=[some (.ref q),some (nV S),some (.bl b),some (.ref lp),none,none,none,none,none,none]/\Same H H'/\Lay H' lp (padL N.1 S b),?_,?_⟩
 ·cases b with
  | false=>
   rw [if_neg (by decide)];refine ⟨l2,rfl,s3,?_⟩;unfold padL;rw [if_neg (by lia),if_neg (by decide)];exact L3
  | true=>
   rw [if_pos rfl];refine ⟨by decide,fun t4 ht4=>⟨by decide,fun l4 hl4=>?_⟩⟩;have k4:=ah ht4 (.tup [V.str (st [112,97,100]),V.int (S:Int)]);have k5:=ah hl4 (.lst [V.ref t4]);have s5:=s3.trans (k4.trans k5);refine ⟨_,V.ref la,.inr (SqT.of (s5 _ _ et)),rfl,?_⟩;walk_at "rd";refine ⟨_,lv,upd_same,s5 _ _ el,by rw [sizeLine_eq]; simp only [List.length_cons,List.length_nil]; lia,fun l5 hl5=>?_⟩;have k6:=ah hl5 (.lst ([V.ref t4]++lv));refine ⟨l5,rfl,s5.trans k6,?_⟩;unfold padL;rw [if_neg (by lia),if_pos rfl];exact ⟨_,upd_same,.cons ⟨t4,rfl,k6 _ _ (k5 _ _ upd_same)⟩ (c6 (fun t vs z=>(s5.trans k6) _ _ z) pl)⟩
 rintro σ' H4 ⟨lp,rfl,s4,L4⟩;obtain ⟨hv,eh,ph⟩:=id hH;have hhl:=ph.length;have h4:=nb.h4;walk_at "rd";refine ⟨Nat.zero_le _,fun A hA=>?_⟩;have sA:=ah hA (.lst []);refine ⟨_,V.ref ha,.inr (SqT.of ((s4.trans sA) _ _ et)),rfl,?_⟩;walk_at "rd";refine .inl ⟨⟨_,SqL.of ((s4.trans sA) _ _ eh)⟩,?_⟩;refine cC (xs:=hv) (fun i σ H'=>∃ (hs:List Named) (vs:List V) (u5 u6 u7 u8 u9:Option V),σ = [some (.ref q),some (nV S),some (.bl b),some (.ref lp),some (.ref A),u5,u6,u7,u8,u9]/\Same H4 H'/\H' A=some (.lst vs)/\Paired (NamedAt (hole A H')) hs vs/\doorsOf hs=doorsOf (N.2.1.take i)/\∀ x ∈ hs,HouseB x.2/\HouseP (widthL N.1+S) Z lo (lo+widthL N.1) x.2)
  ⟨[],[],none,none,none,none,none,rfl,sA,upd_same,.nil,by simp [doorsOf],fun x hx=>by simp at hx⟩ (fun i σ H' _ ⟨_,_,_,_,_,_,_,_,z,_⟩=>SqL.of (z _ _ (s4 _ _ eh))) ?_ ?_
 ·rintro i x σ H5 hx ⟨hs,vs,u5,u6,u7,u8,u9,rfl,s5,eA,pA,hdo,hhb⟩;have hi:i < hv.length:=(List.getElem?_eq_some_iff.mp hx).1;have hil:i < N.2.1.length:=by lia
  obtain ⟨y,hy,t,hq,ey,ett,hHq⟩:=aH ph (List.getElem?_eq_getElem hil);obtain rfl:x=.ref t:=by rw [hy] at hx; rw [<- Option.some.inj hx,ey]
  have hmem:=List.getElem_mem hil;have hb5:=nb.house _ hmem;obtain ⟨_,_,hs5,hw5⟩:=hgood _ hmem;obtain ⟨gp,wp,eq1,⟨gv,eg,pg⟩,hW⟩:=hHq;have hgl:=pg.length;have s05:=s4.trans s5;refine ⟨t,[_,_],rfl,SqT.of (s05 _ _ ett),rfl,_,[_],rfl,_,[],rfl,rfl,?_⟩;walk_at "rd";refine ⟨Nat.zero_le _,fun B hB=>?_⟩;have sB:=ah hB (.lst []);have nAB:A≠B:=fun z=>by rw [<- z,eA] at hB; cases hB
  refine ⟨_,V.ref gp,.inr (SqT.of ((s05.trans sB) _ _ eq1)),rfl,?_⟩;walk_at "rd";refine .inl ⟨⟨_,SqL.of ((s05.trans sB) _ _ eg)⟩,?_⟩;refine cC (xs:=gv) (fun j σ H'=>∃ (gs:List Gate) (us:List V) (u8 u9:Option V),σ = [some (.ref q),some (nV S),some (.bl b),some (.ref lp),some (.ref A),some (tx N.2.1[i].1),some (.ref hq),some (.ref B),u8,u9]/\Same H5 H'/\H' B=some (.lst us)/\Paired (GateAt (hole A (hole B H'))) gs us/\gs.map (·.1)=(N.2.1[i].2.1.map (·.1)).take j/\∀ x ∈ gs,x.2.length<=3/\∀ r ∈ x.2,PadOk (widthL N.1+S) lo (lo+widthL N.1) r)
   ⟨[],[],_,_,rfl,sB,upd_same,.nil,by simp,fun x hx=>by simp at hx⟩ (fun j σ H' _ ⟨_,_,_,_,_,z,_⟩=>SqL.of (z _ _ (s05 _ _ eg))) ?_ ?_
  ·rintro j x σ H6 hx ⟨gs,us,u8,u9,rfl,s6,eB,pB,hgn,hg3⟩;have hj:j < gv.length:=(List.getElem?_eq_some_iff.mp hx).1;have hjl:j < N.2.1[i].2.1.length:=by lia
   obtain ⟨y,hy,tg,rp,ey,etg,hR⟩:=aH pg (List.getElem?_eq_getElem hjl);obtain rfl:x=.ref tg:=by rw [hy] at hx; rw [<- Option.some.inj hx,ey]
   have s06:=s05.trans s6;have hgm:=List.getElem_mem hjl;have hr3:=hb5.rl _ hgm;have g3:=hb5.g3;obtain ⟨rv,er,pr⟩:=hR.same s06;have hrl:=pr.length;obtain ⟨z1,z2⟩:=bi pr;refine ⟨tg,[_,_],rfl,SqT.of (s06 _ _ etg),rfl,_,[_],rfl,_,[],rfl,rfl,?_⟩;walk_at "rd";refine ⟨⟨_,eB⟩,.inl ⟨⟨_,SqL.of er⟩,fun R hR6=>?_⟩⟩;refine mI (K:=K) (fun x:Rule × V=>x.2) (N.2.1[i].2.1[j].2.zip rv) (fun _=>true) (fun _ v H'=>∃ r:Rule,PadOk (widthL N.1+S) lo (lo+widthL N.1) r/\RuleAt H' r v) hR6 (by rw [z1]; exact SqL.of er) (by rw [List.length_zip]; lia) ?_ ?_ ?_
   ·rintro x v H7 H8 acc hd' k' ⟨r,hro,t',rfl,et'⟩;exact ⟨r,hro,t',rfl,k' t' _ (fun z=>by rw [z,hd'] at et'; cases et') et'⟩
   ·rintro x H7 out non hx s7 ho _;obtain ⟨tr,exr,etr⟩:=z2 x hx;rw [exr];walk_at "rd";have hrw:=hs5 _ hgm _ (List.of_mem_zip hx).1;exact ⟨x.1,S,s7 _ _ etr,⟨by rw [hrw.row]; lia,hrw.word,by rw [hrw.over]; lia⟩,rfl,hS,fun t' H8 r' ht' s8 e8 er=>ho _ _ rfl s8 ⟨r',by rw [er]; exact pok hrw,t',rfl,e8⟩⟩
   intro H7 ws s7 e7 p7;rw [List.filter_eq_self.mpr fun _ _=>rfl] at p7;obtain ⟨rs,pr7,hrs,hrok⟩:=fV p7;rw [List.length_zip] at hrs;refine ⟨by decide,fun t8 ht8=>?_⟩;have s8:=ah ht8 (.tup [tx N.2.1[i].2.1[j].1,.ref R]);have s68:=s7.trans s8;have eB8:=s68 _ _ eB;have eA8:=s68 _ _ (s6 _ _ eA);have nRB:R≠B:=fun z=>by rw [z,eB] at hR6; cases hR6
   have nRA:R≠A:=fun z=>by rw [z,s6 _ _ eA] at hR6; cases hR6
   have hul:=pB.length;have hgs:gs.length=j:=by
    have:=congrArg List.length hgn;rw [List.length_map,List.length_take,List.length_map] at this
    lia
   refine ⟨us,eB8,sizeBig (by lia),gs++[(N.2.1[i].2.1[j].1,rs)],us++[.ref t8],_,_,rfl,aE (s6.trans s68) hB,upd_same,?_,?_,fun x hx=>?_⟩
   ·rw [dC];have R8:Rules (upd H7 t8 (.tup [tx N.2.1[i].2.1[j].1,.ref R])) R rs:=Rules.same ⟨ws,e7,pr7⟩ s8;have R9:=jJ (g:=A) (by rw [bf nAB]; exact eA8) nRA (jJ eB8 nRB R8);refine aD (L2.Paired.mapP pB fun _ _ ⟨t',r',e,h1,h2⟩=>⟨t',r',e,aG (aG s68) _ _ h1,h2.same (aG (aG s68))⟩) ⟨t8,R,rfl,?_,R9⟩;exact cJ (us:=vs) (by rw [bf nAB]; exact eA8) (cJ eB8 upd_same)
   ·rw [List.map_append,hgn,List.take_add_one,List.getElem?_map,List.getElem?_eq_getElem hjl];rfl
   ·rcases List.mem_append.mp hx with z | z
    ·exact hg3 x z
    ·rw [List.mem_singleton.mp z];exact ⟨by show rs.length<=3; lia,hrok⟩
  ·rintro σ H6 ⟨gs,us,u8,u9,rfl,s6,eB,pB,hgn,hg3⟩;have s06:=s05.trans s6;rw [List.take_of_length_le (by rw [List.length_map]; lia)] at hgn;have hgs:gs.length=N.2.1[i].2.1.length:=by
    have:=congrArg List.length hgn;rw [List.length_map,List.length_map] at this;exact this
   have eA6:=s6 _ _ eA;walk_at "rd";refine ⟨⟨_,eA6⟩,_,V.ref wp,.inr (SqT.of (s06 _ _ eq1)),rfl,by decide,fun t7 ht7=>⟨by decide,fun t8 ht8=>?_⟩⟩;have k7:=ah ht7 (.tup [V.ref B,V.ref wp]);have k8:=ah ht8 (.tup [tx N.2.1[i].1,V.ref t7]);have k78:=k7.trans k8;have eA8:=k78 _ _ eA6;have hvl:=pA.length;have hhs:hs.length=i:=by
    have:=congrArg List.length hdo;unfold doorsOf at this;rw [List.length_map,List.length_map,List.length_take] at this
    lia
   have nwA:wp≠A:=fun z=>by
    obtain ⟨wv,ew,_⟩:=hW;have:=s4 _ _ ew;rw [z,hA] at this;cases this
   refine ⟨vs,eA8,sizeBig (by lia),hs++[(N.2.1[i].1,(gs,N.2.1[i].2.2))],vs++[.ref t8],_,_,_,_,_,rfl,aE (s5.trans (s6.trans k78)) hA,upd_same,?_,?_,fun x hx=>?_⟩
   ·rw [dC];have s68:=s6.trans k78;refine aD (L2.Paired.mapP pA fun _ _ ⟨t',q',e,h1,h2⟩=>⟨t',q',e,aG s68 _ _ h1,h2.same (aG s68)⟩) ⟨t8,t7,rfl,cJ eA8 upd_same,B,wp,cJ eA8 (k8 _ _ upd_same),⟨us,?_,?_⟩,?_⟩
    ·rw [bf (Ne.symm nAB)];exact k78 _ _ eB
    ·have sm:Same (hole A (hole B H6)) (hole A (upd (upd H6 t7 (.tup [V.ref B,V.ref wp])) t8 (.tup [tx N.2.1[i].1,V.ref t7]))):=aG (aJ.trans k78);exact L2.Paired.mapP pB fun _ _ ⟨t',r',e,h1,h2⟩=>⟨t',r',e,sm _ _ h1,h2.same sm⟩
    ·obtain ⟨wv,ew,pw⟩:=hW.same (s06.trans k78);exact ⟨wv,by rw [bf nwA]; exact ew,bu (fun _ _=>cJ eA8) pw⟩
   ·unfold doorsOf at hdo ⊢;rw [List.map_append,hdo,List.take_add_one,List.getElem?_eq_getElem hil,Option.toList_some,List.map_append,List.map_cons,List.map_nil,List.map_cons,List.map_nil];dsimp only;rw [hgn]
   ·rcases List.mem_append.mp hx with z | z
    ·exact hhb x z
    ·rw [List.mem_singleton.mp z];refine ⟨⟨?_,?_,?_,fun x hx=>(hg3 x hx).1,hb5.w5⟩,fun x hx=>(hg3 x hx).2,hw5⟩
     ·show (gs.map (·.1)).Nodup;rw [hgn];exact hb5.nd
     ·show 1<=gs.length;have:=hb5.g1
      lia
     ·show gs.length<=3;have:=hb5.g3
      lia
 ·rintro σ H5 ⟨hs,vs,u5,u6,u7,u8,u9,rfl,s5,eA,pA,hdo,hhb⟩;rw [<- hhl,List.take_length] at hdo;have s05:=s4.trans s5;walk_at "rd";refine ⟨_,V.ref ca,.inr (SqT.of (s05 _ _ et)),rfl,by decide,fun t6 ht6=>?_⟩;have k6:=ah ht6 (.tup [V.ref lp,V.ref A,V.ref ca]);have s6:=s05.trans k6;have names:hs.map (·.1)=N.2.1.map (·.1):=by
   have:=congrArg (List.map (·.1)) hdo;unfold doorsOf at this;rw [List.map_map,List.map_map] at this;exact this
  have hlen:hs.length=N.2.1.length:=by
   have:=congrArg List.length names;rw [List.length_map,List.length_map] at this;exact this
  refine q' t6 _ (padL N.1 S b,hs,N.2.2) s6 ⟨lp,A,ca,upd_same,L4.same (s5.trans k6),⟨vs,k6 _ _ eA,?_⟩,hC.same s6⟩ ⟨zG nb.lay hl3 hS np,?_,by show 1<=hs.length; have:=nb.h1; lia,by show hs.length<=4; lia,fun x hx=>?_,fun x hx=>(hhb x hx).1,nb.ends,nb.l6⟩ rfl rfl hdo ⟨Z,lo,lo+widthL N.1,?_,hZ3,by lia,?_,fun x hx=>?_⟩
  ·have sm:=(aJ (g:=A) (H:=H5)).trans k6;exact L2.Paired.mapP pA fun _ _ ⟨t',q'',e,h1,h2⟩=>⟨t',q'',e,sm _ _ h1,h2.same sm⟩
  ·show (hs.map (·.1)).Nodup;rw [names];exact nb.nd
  ·have:x.1 ∈ N.2.1.map (·.1):=by rw [<- names]; exact List.mem_map.mpr ⟨x,hx,rfl⟩
   obtain ⟨y,hy,e⟩:=List.mem_map.mp this;rw [<- e];exact nb.low y hy
  ·show (toB,Z) ∈ padL N.1 S b;unfold padL;split
   ·exact hZ
   ·split
    ·exact List.mem_cons_of_mem _ hZ
    ·exact List.mem_append_left _ hZ
  ·show widthL (padL N.1 S b)<=60;rw [mt]
   lia
  ·show HouseP (widthL (padL N.1 S b)) _ _ _ _;rw [mt];exact (hhb x hx).2
structure Alike (N M:Net):Prop where
 lay:M.1=N.1
 lines:M.2.2=N.2.2
 doors:doorsOf M.2.1=doorsOf N.2.1
noncomputable def fR (K:Frag):Sp:=az fun a=>bB fun m=>bB fun z=>aM fun H Q _=>∃ (ns:List Int),SqL K H a (ns.map V.int)/\1<=m/\m<=4/\z=0 /\
   ∀ (t q1 q2:Addr) (v:V) (H':Hp) (N M:Net),Same H H'->H' t=some (.tup [.ref q1,.ref q2,v])->NetAt H' q1 N->NetAt H' q2 M->NetB N->NetB M->Alike N M->NetG N->NetG M->Q (.ref t) H'
theorem oy (T:Top K mg):Callee P w K mg base 6 "_law_twins" ["_law_script", "_law_most", "_law_spare"] (fR K):=by
 refine T.j7.cal aW (by unfold fR; exact LenSp.h) (fun _ _ _ _ _ _ us hl=>match us,hl with | [_,_,_],_=>rfl) (fun f cdv A outer s H vs Q E hr h=>?_);unfold fR at h;walk_at "el";refine ⟨_,(af (au (i:=3) aW.nd rfl lc (aq (ixE K rfl) (aL (aa ae (aa ae (aa ae (aa (am aj ae (aw (av T) hr.m rfl (aa (qv 0) (aa ae (aa ae ad))))) ad))))) (aw (av T) hr.m rfl (aa (qv 0) (aa ae (aa ae ad)))) (fun _ _=>rfl)))
   (af (au (i:=4) aW.nd rfl lc (sD dM (aw (av T) hr.m rfl (aa (qv 0) (aa ae (aa ae ad)))) ae))
   (af (au (i:=5) aW.nd rfl lc (aw (ro T) hr.m rfl (aa (qv 0) (aa ae (aa (qv 1) (aa (qv 2) ad))))))
   (af (au (i:=6) aW.nd rfl lc (aL ad))
   (af (cu PassesOwn.never rfl (bC rfl T.ci (aB (lenE K rfl) rfl T.bZ bD (aa (aq (ixE K rfl) (qv 5) ae (fun _ _=>rfl)) ad))) (ak (i:=7) aW.nd rfl lc) (af (qo (aq (ixE K rfl) (aq (ixE K rfl) (qv 5) ae (fun _ _=>rfl)) (qv 7) (fun _ _=>rfl)) (seqE K rfl rfl (n:=2) (ar (ak (i:=8) aW.nd rfl lc) (ar (ak (i:=9) aW.nd rfl lc) bn))))
   (cX (bU (aF qN (aw (av T) hr.m rfl (aa (qv 0) (aa (am aj ae (qv 7)) (aa ae ad)))) ae) (af (fE (i:=10) (nt:=1) (fi:=[]) (N':=["_law_gate"]) aW.nd rfl lc rfl (cscope rfl (by decide +kernel)) (cnames (N:=["_law_script", "_law_most", "_law_spare", "_law_size", "_law_front", "_law_one", "_law_houses", "_law_j", "_law_name", "_law_house_here", "_law_doors", "_law_other"]) (sc:=defScope dU) rfl rfl (by decide +kernel)) (aT (by decide)) (iterE K rfl (aq (ixE K rfl) (qv 9) ae (fun _ _=>rfl))) (fun _ _ _ _ _=>(ak (i:=0) (by show (["_law_gate"]:List Str).Nodup; decide +kernel) rfl lc)) (fun _ _ _ _ _=>aU) (fun _ _ _ _ _=>(aq (ixE K rfl) (qv 0) ae (fun _ _=>rfl))))
   (ai (au (i:=9) aW.nd rfl lc (aw (ji T) hr.m rfl (aa (qv 0) (aa (am aj ae (am be ae (qv 7))) (aa (aq (ixE K rfl) (qv 5) ae (fun _ _=>rfl)) (aa (qv 10) (aa (aw (av T) hr.m rfl (aa (qv 0) (aa ae (aa ae ad)))) ad))))))))) aO)
   (ai (bj (ba (qv 6) (aA (aa (qv 8) (aa (qv 9) ad)))))))))
   (af (au (i:=11) aW.nd rfl lc (aw (jn T) hr.m rfl (aa (aA (aa (aq (ixE K rfl) (qv 5) ae (fun _ _=>rfl)) (aa (qv 6) (aa (aq (ixE K rfl) (qv 5) ae (fun _ _=>rfl)) ad)))) (aa (qv 3) (aa (qv 4) ad)))))
   (ai (aC (aA (aa (aw (jn T) hr.m rfl (aa (qv 5) (aa (qv 3) (aa (qv 4) ad)))) (aa (qv 11) (aa (aA (aa (qv 3) (aa (qv 4) ad))) ad)))))))))))),?_⟩
 rename_i a m z;obtain ⟨ns,hS,hm1,hm4,rfl,q⟩:=h;walk_at "rd";refine bO hS (by decide) (by decide) (by decide) (by decide) fun r1 hr1=>?_
 walk_at "rd";refine ⟨by decide,fun p1 hp1=>?_⟩;have s1:=ah hp1 (.lst [V.int 0,V.int 0,V.int 0,V.int (1+(r1:Int))]);refine bO (s1.seq hS) (by decide) (by decide) (by decide) (by decide) fun r2 hr2=>?_
 walk_at "rd";obtain ⟨S,hS42,eS⟩:∃ S:Nat,S<=42/\atI [V.int 0,V.int 0,V.int 0,V.int (1+(r1:Int))] (r2:Int)=some (nV S):=by
  rcases (by lia:r2=0\/r2=1\/r2=2\/r2=3) with rfl | rfl | rfl | rfl
  ·exact ⟨0,by decide,rfl⟩
  ·exact ⟨0,by decide,rfl⟩
  ·exact ⟨0,by decide,rfl⟩
  ·exact ⟨1+r1,by lia,by show some (V.int (1+(r1:Int)))=_; push_cast; rfl⟩
 refine ⟨_,_,.inl (SqL.of upd_same),eS,?_⟩;refine bO (s1.seq hS) (by decide) (by decide) (by decide) (by decide) fun r3 hr3=>?_
 walk_at "rd";refine ⟨ns,s1.seq hS,by decide,by decide,hm1,hm4,rfl,fun n1 H2 N hn1 s2 hN nb hsz hl3 hsh=>?_⟩;have s12:=s1.trans s2;obtain ⟨la,ha,ca,et,hL,hH,hC⟩:=id hN;obtain ⟨hv,eh,ph⟩:=id hH;have hhl:=ph.length;have h4:=nb.h4;walk_at "rd";refine ⟨Nat.zero_le _,fun A hA=>?_⟩;have sA:=ah hA (.lst []);refine ⟨_,V.ref ha,.inr (SqT.of (sA _ _ et)),rfl,?_⟩;walk_at "rd";refine ⟨_,.inl (SqL.of (sA _ _ eh)),by lia,by lia,?_⟩;rw [Int.toNat_natCast];generalize decide ((r3:Int)=0)=fr;refine c9 (lo:=0) (n:=hv.length) (fun i σ H'=>∃ (hs:List Named) (vs:List V) (u7 u8 u9 u10:Option V),σ = [some (.ref a),some (.int m),some (.int 0),some (nV S),some (.bl fr),some (.ref n1),some (.ref A),u7,u8,u9,u10,none]/\Same H2 H'/\H' A=some (.lst vs)/\Paired (NamedAt (hole A H')) hs vs/\doorsOf hs=doorsOf (N.2.1.take i)/\∀ x ∈ hs,HouseB x.2/\HouseS N.1 x.2)
  ⟨[],[],none,none,none,none,rfl,sA,upd_same,.nil,by simp [doorsOf],fun x hx=>by simp at hx⟩ ?_ ?_
 ·rintro i σ H5 hi ⟨hs,vs,u7,u8,u9,u10,rfl,s5,eA,pA,hdo,hhb⟩;have hil:i < N.2.1.length:=by lia
  obtain ⟨y,hy,t,hq,ey,ett,hHq⟩:=aH ph (List.getElem?_eq_getElem hil);subst ey;have hmem:=List.getElem_mem hil;have hb5:=nb.house _ hmem;have hvl:=pA.length;have hhs:hs.length=i:=by
   have:=congrArg List.length hdo;unfold doorsOf at this;rw [List.length_map,List.length_map,List.length_take] at this
   lia
  walk_at "rd";refine ⟨_,V.ref ha,.inr (SqT.of (s5 _ _ et)),rfl,?_⟩;walk_at "rd";refine ⟨_,V.ref t,.inl (SqL.of (s5 _ _ eh)),cw hy,[_,_],.inr (SqT.of (s5 _ _ ett)),rfl,_,[_],rfl,_,[],rfl,rfl,?_⟩;have sh5:Same H2 (hole A H5):=br s5 hA;have s15:=s12.trans s5;walk_at "rd";refine ⟨fun σ' H'=>∃ (q':Addr) (h':House) (u10:Option V),σ'=[some (.ref a),some (.int m),some (.int 0),some (nV S),some (.bl fr),some (.ref n1),some (.ref A),some (nV i),some (tx N.2.1[i].1),some (.ref q'),u10,none]/\Same H5 H'/\HouseAt (hole A H') q' h'/\HouseB h'/\HouseS N.1 h'/\h'.1.map (·.1)=N.2.1[i].2.1.map (·.1),?_,?_⟩
  ·refine bO (s15.seq hS) (by lia) (by lia) (by decide) (by decide) fun r4 hr4=>?_
   walk_at "rd";refine ite2 (fun _=>?_) fun _=>⟨hq,N.2.1[i].2,_,rfl,Same.refl _,hHq.same sh5,hb5,hsh _ hmem,rfl⟩
   obtain ⟨gp,wp,eq1,⟨gv,eg,pg⟩,_⟩:=id hHq;have hgl:=pg.length;have g3:=hb5.g3;have g1:=hb5.g1;obtain ⟨z1,z2⟩:=bi pg;refine ⟨_,V.ref gp,.inr (SqT.of (s5 _ _ eq1)),rfl,?_⟩;walk_at "rd";refine .inl ⟨⟨_,SqL.of (s5 _ _ eg)⟩,fun D hD=>?_⟩;refine bv (item:=fun x:Gate × V=>x.2) (xs:=N.2.1[i].2.1.zip gv) (h:=fun x=>[tx x.1.1]) hD (by rw [z1]; exact SqL.of (s5 _ _ eg)) (by rw [List.length_zip]; lia) (fun _=>by simp) ?_ ?_
   ·intro x H6 out non hx s6 ho _;obtain ⟨tg,r,ex,etg,_⟩:=z2 x hx;rw [ex];walk_at "rd";exact ⟨_,_,.inr (SqT.of (s6 _ _ (s5 _ _ etg))),rfl,ho _ _ rfl (Same.refl _)⟩
   intro H6 s6 e6;rw [show (N.2.1[i].2.1.zip gv).flatMap (fun x=>[tx x.1.1])=(N.2.1[i].2.1.map (·.1)).map tx by
    rw [dj (fun x:Gate × V=>tx x.1.1)]
    conv=>rhs; rw [<- dt (l:=N.2.1[i].2.1) (m:=gv) hgl,List.map_map,List.map_map]
    rfl] at e6
   have s56:=s5.trans s6;have s16:=s12.trans s56;refine ⟨.inl ⟨by decide,by decide⟩,_,V.ref la,.inr (SqT.of (s56 _ _ et)),rfl,?_⟩;refine bO (s16.seq hS) (by decide) (by decide) (by decide) (by decide) fun r5 hr5=>?_
   walk_at "rd";refine ⟨ns,N.1,N.2.1[i].2.1.map (·.1),s16.seq hS,by lia,by lia,hL.same s56,nb.lay,fun x hx=>(hsz x hx).1,e6,hb5.nd,by rw [List.length_map]; lia,by rw [List.length_map]; lia,by lia,by lia,fun q7 g w H7 h7 hq7 hg hw s7 hN7 hok7 hsh7 hd7=>?_⟩;have eA6:=s6 _ _ eA;have eA7:=s7 _ _ eA6;have ne:∀ r,H6 r=none->r≠A:=fun r hr z=>by rw [z,eA6] at hr; cases hr
   refine ⟨q7,h7,_,rfl,s6.trans s7,?_,hok7,hsh7,hd7⟩;obtain ⟨gv7,eg7,pg7⟩:=hN7.gates;obtain ⟨wv7,ew7,pw7⟩:=hN7.ways;refine ⟨g,w,cJ eA7 hN7.tup,⟨gv7,by rw [bf (ne g hg)]; exact eg7,L2.Paired.mapP pg7 ?_⟩,⟨wv7,by rw [bf (ne w hw)]; exact ew7,bu (fun _ _=>cJ eA7) pw7⟩⟩;rintro x v ⟨t',r,e,n,h1,h2⟩;exact ⟨t',r,e,cJ eA7 h1,jJ eA7 (ne r n.2.2) h2⟩
  ·rintro σ' H6 ⟨q',h',u10',rfl,s6,hH6,hb6,hsh6,hd6⟩;walk_at "rd";have eA6:=s6 _ _ eA;refine ⟨⟨_,eA6⟩,by decide,fun t8 ht8=>?_⟩;have k8:=ah ht8 (.tup [tx N.2.1[i].1,V.ref q']);have eA8:=k8 _ _ eA6;refine ⟨vs,eA8,sizeBig (by lia),hs++[(N.2.1[i].1,h')],vs++[.ref t8],_,_,_,_,rfl,aE (s5.trans (s6.trans k8)) hA,upd_same,?_,?_,fun x hx=>?_⟩
   ·rw [dC];have s68:=s6.trans k8;exact aD (L2.Paired.mapP pA fun _ _ ⟨t',q'',e,h1,h2⟩=>⟨t',q'',e,aG s68 _ _ h1,h2.same (aG s68)⟩) ⟨t8,q',rfl,cJ eA8 upd_same,hH6.same (aG k8)⟩
   ·unfold doorsOf at hdo ⊢;rw [List.map_append,hdo,List.take_add_one,List.getElem?_eq_getElem hil,Option.toList_some,List.map_append,List.map_cons,List.map_nil,List.map_cons,List.map_nil];dsimp only;rw [hd6]
   ·rcases List.mem_append.mp hx with z | z
    ·exact hhb x z
    ·rw [List.mem_singleton.mp z];exact ⟨hb6,hsh6⟩
 ·rintro σ H5 ⟨hs,vs,u7,u8,u9,u10,rfl,s5,eA,pA,hdo,hhb⟩;rw [<- hhl,List.take_length] at hdo;have names:hs.map (·.1)=N.2.1.map (·.1):=by
   have:=congrArg (List.map (·.1)) hdo;unfold doorsOf at this;rw [List.map_map,List.map_map] at this;exact this
  have hlen:hs.length=N.2.1.length:=by
   have:=congrArg List.length names;rw [List.length_map,List.length_map] at this;exact this
  have pA5:Paired (NamedAt H5) hs vs:=L2.Paired.mapP pA fun _ _ ⟨t',q'',e,h1,h2⟩=>⟨t',q'',e,aJ _ _ h1,h2.same aJ⟩
  walk_at "rd";refine ⟨_,V.ref la,.inr (SqT.of (s5 _ _ et)),rfl,_,V.ref ca,.inr (SqT.of (s5 _ _ et)),rfl,by decide,fun t6 ht6=>?_⟩;have k6:=ah ht6 (.tup [V.ref la,V.ref A,V.ref ca]);have s6:=s5.trans k6;have nbM:NetB (N.1,hs,N.2.2):=by
   refine ⟨nb.lay,?_,by show 1<=hs.length; have:=nb.h1; lia,by show hs.length<=4; lia,fun x hx=>?_,fun x hx=>(hhb x hx).1,nb.ends,nb.l6⟩
   ·show (hs.map (·.1)).Nodup;rw [names];exact nb.nd
   ·have:x.1 ∈ N.2.1.map (·.1):=by rw [<- names]; exact List.mem_map.mpr ⟨x,hx,rfl⟩
    obtain ⟨y,hy,e⟩:=List.mem_map.mp this;rw [<- e];exact nb.low y hy
  refine ⟨(N.1,hs,N.2.2),S,⟨la,A,ca,upd_same,hL.same s6,⟨vs,k6 _ _ eA,L2.Paired.mapP pA5 fun _ _ ⟨t',q'',e,h1,h2⟩=>⟨t',q'',e,k6 _ _ h1,h2.same k6⟩⟩,hC.same s6⟩,nbM,hl3,fun x hx=>(hsz x hx).2,fun x hx=>(hhb x hx).2,rfl,hS42,fun q7 H7 M s7 hM nbM' eM1 eM2 eM3 ngM=>?_⟩;walk_at "rd";have s67:=s6.trans s7;refine ⟨N,S,hN.same s67,nb,hl3,fun x hx=>(hsz x hx).2,hsh,rfl,hS42,fun q8 H8 N8 s8 hN8 nb8 e81 e82 e83 ng8=>⟨by decide,fun t9 ht9=>⟨by decide,fun t10 ht10=>?_⟩⟩⟩;have k9:=ah ht9 (.tup [nV S,.bl fr]);have k10:=ah ht10 (.tup [V.ref q8,V.ref q7,V.ref t9]);have k90:=k9.trans k10;refine q t10 q8 q7 (.ref t9) _ N8 M (s12.trans (s67.trans (s8.trans k90))) upd_same (hN8.same k90) (hM.same (s8.trans k90)) nb8 nbM' ⟨eM1.trans e81.symm,eM2.trans e82.symm,?_⟩ ?_ ?_
  ·rw [eM3,e83];exact hdo
  ·exact ng8
  ·exact ngM
noncomputable def okS (m i:Nat):Bool:=m == 45 || i == 45 || m == i
noncomputable def meetS (m i:Nat):Nat:=if m=45 then i else m
noncomputable def okL (x y:List Nat):Bool:=(x.zip y).all fun p=>okS p.1 p.2
noncomputable def meetL (x y:List Nat):List Nat:=(x.zip y).map fun p=>meetS p.1 p.2
noncomputable def meetV (x y:List Nat):V:=if okL x y=true then .str (st (meetL x y)) else .non
theorem jm {x y:List Nat} {i c d:Nat} (hc:x[i]? = some c) (hd:y[i]? = some d):(x.take (i+1)).zip (y.take (i+1))=(x.take i).zip (y.take i)++[(c,d)]:=by
 have h1:=(List.getElem?_eq_some_iff.mp hc).1;have h2:=(List.getElem?_eq_some_iff.mp hd).1;rw [List.take_succ,List.take_succ,hc,hd,List.zip_append (by simp; lia)];rfl
theorem xx {x y:List Nat} {i c d:Nat} (hc:x[i]? = some c) (hd:y[i]? = some d):okL (x.take (i+1)) (y.take (i+1))=(okL (x.take i) (y.take i) && okS c d):=by
 unfold okL;rw [jm hc hd];simp
theorem sZ {x y:List Nat} {i c d:Nat} (hc:x[i]? = some c) (hd:y[i]? = some d):meetL (x.take (i+1)) (y.take (i+1))=meetL (x.take i) (y.take i)++[meetS c d]:=by
 unfold meetL;rw [jm hc hd];simp
theorem yl {x y:List Nat} {i c d:Nat} (hc:x[i]? = some c) (hd:y[i]? = some d) (h:okS c d=false):okL x y=false:=by
 unfold okL;rw [Bool.eq_false_iff];intro z;rw [List.all_eq_true] at z;have:=z (c,d) (List.mem_of_getElem? (List.getElem?_zip_eq_some.mpr ⟨hc,hd⟩));rw [h] at this;cases this
theorem ri:∀ {x y:List Nat},(x.take (min x.length y.length)).zip (y.take (min x.length y.length))=x.zip y
 | [],y=>by simp
 | _::_,[]=>by simp
 | a::x,b::y=>by
  have ih:=ri (x:=x) (y:=y);rw [List.length_cons,List.length_cons,Nat.add_min_add_right,List.take_succ_cons,List.take_succ_cons,List.zip_cons_cons,ih,List.zip_cons_cons]
noncomputable def iB:Sp:=dP fun a=>dP fun b=>aM fun H Q _=>a.cps.toList.length<=1000/\∀ H',Same H H'->Q (meetV a.cps.toList b.cps.toList) H'
theorem rg (T:Top K mg):Callee P w K mg base 1 "row_meet" ["one", "other"] iB:=by
 refine T.n6.cal fH (by unfold iB; exact LenSp.h) (fun _ _ _ _ _ _ us hl=>match us,hl with | [_,_],_=>rfl) (fun f cdv A outer s H vs Q E hr h=>?_);unfold iB at h;walk_at "el";refine ⟨_,(af (au (i:=2) fH.nd rfl lc (aL ad))
   (af (cu PassesOwn.never rfl (zipE K rfl rfl T.uH (qv 0) (qv 1)) (tupE K rfl rfl (n:=2) (ar (ak (i:=3) fH.nd rfl lc) (ar (ak (i:=4) fH.nd rfl lc) bn))) (af (bU (PW.pt (sY (aF iz (qv 3) (qs [45])) (sY (aF iz (qv 4) (qs [45])) (ux (aF iz (qv 3) (qv 4)))))) (ai (aC gO)) aO)
   (ai (bj (ba (qv 2) (eQ (aF dM (qv 3) (qs [45])) (qv 4) (qv 3)))))))
   (ai (aC (joinE K rfl (qv 2)))))),?_⟩
 rename_i a b;obtain ⟨x,rfl⟩:∃ x,a=st x:=⟨_,(b8 a).symm⟩;obtain ⟨y,rfl⟩:∃ x,b=st x:=⟨_,(b8 b).symm⟩;obtain ⟨h1,q⟩:=h;simp only [bM] at h1 q;walk_at "rd";refine ⟨by decide,fun g hg=>?_⟩;refine wY (xs:=x.map fun c=>V.str (st [c])) (ys:=y.map fun c=>V.str (st [c])) (fun i σ H'=>∃ u v,σ = [some (.str (st x)),some (.str (st y)),some (.ref g),u,v]/\Same H H'/\okL (x.take i) (y.take i)=true/\H' g=some (.lst ((meetL (x.take i) (y.take i)).map fun k=>V.str (st [k]))))
  ⟨none,none,rfl,ah hg _,rfl,upd_same⟩ (fun i σ H' _=>⟨rfl,rfl⟩) ?_ ?_
 ·rintro i c d σ H1 t hx hy ⟨u,v,rfl,s1,e1,e2⟩ ht;rw [List.getElem?_map] at hx hy;obtain ⟨c,hc,rfl⟩:=Option.map_eq_some_iff.mp hx;obtain ⟨d,hd,rfl⟩:=Option.map_eq_some_iff.mp hy;have hi:=(List.getElem?_eq_some_iff.mp hc).1;have ngt:g≠t:=aX e2 ht;have e3:(upd H1 t (.tup [V.str (st [c]),V.str (st [d])])) g=_:=(ao ngt).trans e2;have s2:Same H (upd H1 t (.tup [V.str (st [c]),V.str (st [d])])):=s1.trans (ah ht _);have small:((meetL (x.take i) (y.take i)).map fun k=>V.str (st [k])).length < sizeLine:=sizeBig (by simp [meetL]; lia);have good:okS c d=true->∀ k,k=meetS c d->∃ u v,[some (V.str (st x)),some (V.str (st y)),some (V.ref g),some (V.str (st [c])),some (V.str (st [d]))]=[some (.str (st x)),some (.str (st y)),some (.ref g),u,v] /\
    Same H (upd (upd H1 t (.tup [V.str (st [c]),V.str (st [d])])) g (.lst (((meetL (x.take i) (y.take i)).map fun k=>V.str (st [k]))++[V.str (st [k])])))/\okL (x.take (i+1)) (y.take (i+1))=true /\
    (upd (upd H1 t (.tup [V.str (st [c]),V.str (st [d])])) g (.lst (((meetL (x.take i) (y.take i)).map fun k=>V.str (st [k]))++[V.str (st [k])]))) g=some (.lst ((meetL (x.take (i+1)) (y.take (i+1))).map fun k=>V.str (st [k]))):=fun ho k hk=>by
   refine ⟨_,_,rfl,aE s2 hg,by rw [xx hc hd,e1,ho]; rfl,?_⟩;rw [upd_same,sZ hc hd,hk];simp
  walk_at "rd";refine ite2 (fun g1=>?_) fun g1=>ite2 (fun g2=>?_) fun g2=>ite2 (fun g3=>?_) fun g3=>?_
  ·exact ⟨⟨_,e3⟩,ite2 (fun g4=>⟨_,e3,small,good (by simp [okS,g1]) _ (by simp [meetS,g4])⟩) fun g4=>absurd g1 g4⟩
  ·exact ⟨⟨_,e3⟩,ite2 (fun g4=>absurd g4 g1) fun g4=>⟨_,e3,small,good (by simp [okS,g2]) _ (by simp [meetS,g4])⟩⟩
  ·exact ⟨⟨_,e3⟩,ite2 (fun g4=>absurd g4 g1) fun g4=>⟨_,e3,small,good (by simp [okS,g3]) _ (by simp [meetS,g4])⟩⟩
  ·have e4:=yl hc hd (by simp [okS,g1,g2,g3]);have:=q _ s2;unfold meetV at this;rw [e4] at this;exact this
 ·rintro σ H1 ⟨u,v,rfl,s1,e1,e2⟩;walk_at "rd";simp only [List.length_map] at e1 e2;unfold okL at e1;unfold meetL at e2;rw [ri] at e1 e2;refine ⟨_,SqL.of e2,by simp; lia,?_⟩;have:=q _ s1;unfold meetV okL meetL at this;rw [if_pos e1] at this;exact this
noncomputable abbrev pl (i:Nat):V:=V.int i
noncomputable def narrow (r:List Nat) (ps:List Nat):List Nat:=ps.map fun i=>r.getD i 0
theorem rH {α β:Type} (f:α -> β) (l:List α):(l.flatMap fun x=>[f x])=l.map f:=by
 induction l with
 | nil=>rfl
 | cons x l ih=>rw [List.flatMap_cons,ih]; rfl
theorem kC {α:Type} {l:List α} {i:Nat} (h:i < l.length):atI l (i:Int)=some l[i]:=by
 have e:ixN l.length (i:Int)=some i:=by
  unfold ixN;simp
  lia
 show ((ixN l.length (i:Int)).bind fun j=>l[j]?)=some l[i];rw [e];exact List.getElem?_eq_getElem h
noncomputable def dD (K:Frag):Sp:=dP fun a=>az fun p=>aM fun H Q _=>∃ ps:List Nat,SqL K H p (ps.map pl)/\(∀ i ∈ ps,i < a.cps.toList.length)/\a.cps.toList.length<=1000/\ps.length<=1000/\∀ H',Same H H'->Q (.str (st (narrow a.cps.toList ps))) H'
theorem lV (T:Top K mg):Callee P w K mg base 1 "row_narrowed" ["row", "places"] (dD K):=by
 refine T.iT.cal lS (by unfold dD; exact LenSp.h) (fun _ _ _ _ _ _ us hl=>match us,hl with | [_,_],_=>rfl) (fun f cdv A outer s H vs Q E hr h=>?_);unfold dD at h;walk_at "el";refine ⟨_,(ai (aC (joinE K rfl (aQ (nt:=1) (fi:=[0]) (N':=["place", "row"]) rfl (cscope rfl (by decide +kernel)) (cnames (N:=["row", "places"]) (sc:=defScope cV) rfl rfl (by decide +kernel)) (aT (by decide)) (iterE K rfl (qv 1)) (fun _ _ _ _ _=>(ak (i:=0) (by show (["place", "row"]:List Str).Nodup; decide +kernel) rfl lc)) (fun _ _ _ _ _=>aU) (fun _ _ _ _ _=>(aq (ixE K rfl) (qv 1) (qv 0) (fun _ _=>rfl))))))),?_⟩;rename_i a p;obtain ⟨r,rfl⟩:∃ x,a=st x:=⟨_,(b8 a).symm⟩;obtain ⟨ps,h1,h2,h3,h4,q⟩:=h;simp only [bM] at h2 h3 q;walk_at "rd";refine .inl ⟨⟨_,h1⟩,fun D hD=>?_⟩;refine bv (item:=pl) (xs:=ps) (h:=fun i=>[V.str (st [r.getD i 0])]) hD h1 (by lia) (fun _=>by simp) ?_ ?_
 ·intro i H1 out non hi s1 ho hn;have hi':=h2 i hi;walk_at "rd";refine ⟨by lia,_,kC hi',ho _ _ (by simp [hi']) (Same.refl _)⟩
 ·intro H1 s1 e1;rw [rH (fun i=>V.str (st [r.getD i 0])) ps] at e1;exact ⟨narrow r ps,SqL.of (by rw [e1]; simp [narrow]),by simp [narrow]; lia,q H1 s1⟩
noncomputable def fQ (K:Frag):Sp:=az fun p=>aM fun H Q _=>∃ hs:List (List Nat),SqL K H p (hs.map tx)/\(∀ r ∈ hs,r.length<=1000)/\∀ H',Same H H'->Q (.int (hs.headD []).length) H'
theorem oC (T:Top K mg):Callee P w K mg base 1 "heap_width" ["heap"] (fQ K):=by
 refine T.kq.cal og (by unfold fQ; exact LenSp.h) (fun _ _ _ _ _ _ us hl=>match us,hl with | [_],_=>rfl) (fun f cdv A outer s H vs Q E hr h=>?_);unfold fQ at h;walk_at "el";refine ⟨_,(ai (aC (eQ (aF (eqNilE K rfl (hu1 hr)) (qv 0) (aL ad)) ae (aB (lenE K rfl) rfl T.bZ bD (aa (aq (ixE K rfl) (qv 0) ae (fun _ _=>rfl)) ad))))),?_⟩;rename_i p;obtain ⟨hs,h1,h2,q⟩:=h;walk_at "rd";refine ⟨by decide,fun z hz=>⟨_,(ah hz _).seq h1,SqL.of upd_same,?_⟩⟩;cases hs with
 | nil=>exact q _ (ah hz _)
 | cons r hs=>
  refine ⟨_,_,.inl ((ah hz _).seq h1),kC (i:=0) (by simp),?_⟩;have:=h2 r List.mem_cons_self;walk_at "rd";exact ⟨show r.length<=100000 by lia,q _ (ah hz _)⟩
noncomputable def told (hs:List (List Nat)) (i:Nat):Bool:=hs.any fun r=>r.getD i 0 != 45
noncomputable def placesL (hs:List (List Nat)) (w:Nat):List Nat:=(List.range w).filter (told hs)
noncomputable def eY (K:Frag):Sp:=az fun p=>aM fun H Q _=>∃ (hs:List (List Nat)) (w:Nat),SqL K H p (hs.map tx)/\(∀ r ∈ hs,r.length=w)/\w<=1000/\hs.length<=1000/\∀ q H',H q=none->Same H H'->H' q=some (.lst ((placesL hs (hs.headD []).length).map pl))->Q (.ref q) H'
theorem nG (T:Top K mg):Callee P w K mg base 2 "heap_places" ["heap"] (eY K):=by
 refine T.jw.cal fc (by unfold eY; exact LenSp.h) (fun _ _ _ _ _ _ us hl=>match us,hl with | [_],_=>rfl) (fun f cdv A outer s H vs Q E hr h=>?_);unfold eY at h;walk_at "el";refine ⟨_,(af (au (i:=1) fc.nd rfl lc (aL ad))
   (af (cu PassesOwn.never rfl (bC rfl T.ci (aw (oC T) hr.m rfl (aa (qv 0) ad))) (ak (i:=2) fc.nd rfl lc) (ai (bU (im (aB (vY K rfl rfl) rfl T.Af AN (aa (aQ (nt:=1) (fi:=[2]) (N':=["row", "place"]) rfl (cscope rfl (by decide +kernel)) (cnames (N:=["heap", "places", "place"]) (sc:=defScope dz) rfl rfl (by decide +kernel)) (aT (by decide)) (iterE K rfl (qv 0)) (fun _ _ _ _ _=>(ak (i:=0) (by show (["row", "place"]:List Str).Nodup; decide +kernel) rfl lc)) (fun _ _ _ _ _=>aU) (fun _ _ _ _ _=>(sD iz (aq (ixE K rfl) (qv 0) (qv 1) (fun _ _=>rfl)) (qs [45])))) ad))) (ai (bj (ba (qv 1) (qv 2)))) aO)))
   (ai (aC (qv 1))))),?_⟩
 rename_i p;obtain ⟨hs,w,h1,h2,h3,h4,q⟩:=h;walk_at "rd";have hw:∀ r ∈ hs,r.length<=1000:=fun r hr=>by rw [h2 r hr]; exact h3
 have hh:(hs.headD []).length<=1000:=by
  cases hs with
  | nil=>simp
  | cons r hs=>exact hw r List.mem_cons_self
 refine ⟨by decide,fun g hg=>⟨hs,(ah hg _).seq h1,hw,fun H0 s0=>⟨by lia,by lia,?_⟩⟩⟩;refine c9 (fun i σ H'=>∃ u,σ = [some (.ref p),some (.ref g),u]/\(∀ b o,H b=some o->H' b=some o)/\H' g=some (.lst ((placesL hs i).map pl))) ⟨none,rfl,fun b o e=>s0 b o (ah hg _ b o e),s0 _ _ upd_same⟩ ?_ ?_
 ·rintro i σ H1 hi ⟨u,rfl,s1,e1⟩;walk_at "rd";have hS1:SqL K H1 p (hs.map tx):=Same.seq s1 h1;have hi':∀ r ∈ hs,i < r.length:=fun r hr=>by
   cases hs with
   | nil=>cases hr
   | cons r0 hs=>
    have a:=h2 r0 List.mem_cons_self;have b:=h2 r hr;have c:i < r0.length:=hi
    lia
  refine .inl ⟨⟨_,hS1⟩,fun D hD=>?_⟩;refine bv (item:=tx) (xs:=hs) (h:=fun r=>[V.bl (r.getD i 0 != 45)]) hD hS1 (by lia) (fun _=>by simp) ?_ ?_
  ·intro r H2 out non hr' s2 ho hn;have hir:=hi' r hr';have hlr:=hw r hr';walk_at "rd";refine ⟨by lia,_,kC hir,ho _ _ ?_ (Same.refl _)⟩;rw [List.getD_eq_getElem?_getD,List.getElem?_eq_getElem hir,Option.getD_some];simp only [bne];congr 3
  ·intro H2 s2 e2;rw [rH (fun r:List Nat=>V.bl (r.getD i 0 != 45)) hs] at e2;walk_at "rd";refine ⟨hs.map fun r=>r.getD i 0 != 45,SqL.of (by rw [e2]; simp),?_⟩;have et:(hs.map fun r=>r.getD i 0 != 45).any id=told hs i:=by unfold told; rw [List.any_map]; rfl
   rw [et];have e3:=s2 _ _ e1;have ep:placesL hs (i+1)=placesL hs i++(if told hs i=true then [i] else []):=by
    unfold placesL;rw [List.range_succ,List.filter_append];simp [List.filter];split <;> simp_all
   show if told hs i=true then _ else _
   refine ite2 (fun ht=>?_) fun ht=>?_
   ·refine ⟨⟨_,e3⟩,_,e3,?_,_,rfl,fun b o e=>?_,?_⟩
    ·have a:(placesL hs i).length<=i:=by
      have:=List.length_filter_le (told hs) (List.range i);simpa [placesL] using this
     have b:i < 1000:=by lia
     rw [List.length_map];exact small1000 (by lia)
    ·rw [ao (aX e hg)];exact s2 _ _ (s1 _ _ e)
    ·rw [upd_same,ep,if_pos ht,List.map_append];rfl
   ·refine ⟨_,rfl,fun b o e=>s2 _ _ (s1 _ _ e),?_⟩;rw [e3,ep,if_neg ht,List.append_nil]
 ·rintro σ H1 ⟨u,rfl,s1,e1⟩;walk_at "rd";exact q g H1 hg s1 e1
noncomputable def dashes (n:Nat):List Nat:=List.replicate n 45
theorem eI {α β:Type} {F:α -> β -> Prop}:∀ {l:List α} {m:List β},Paired F l m->∀ q ∈ l.zip m,F q.1 q.2
 | _,_,.nil,q,h=>by simp at h
 | _,_,.cons p r,q,h=>by
  rw [List.zip_cons_cons] at h;rcases List.mem_cons.mp h with rfl | h
  ·exact p
  ·exact eI r q h
noncomputable def headLen (hs:List (List Nat)):Nat:=(hs.headD []).length
theorem vh {hs:List (List Nat)} {n:Nat} (h:∀ r ∈ hs,r.length=n) {r:List Nat} (hr:r ∈ hs):headLen hs=n:=by
 cases hs with
 | nil=>cases hr
 | cons r0 hs=>exact h r0 List.mem_cons_self
theorem pd {hs:List (List Nat)} {w i:Nat} (h:i ∈ placesL hs w):i < w:=by
 simpa using (List.mem_filter.mp h).1
theorem xU (a b:Nat) (x y:List Nat):okL (a::x) (b::y)=(okS a b && okL x y):=by
 unfold okL;rw [List.zip_cons_cons,List.all_cons]
theorem xf (c:Nat) (l:List Nat):inV (V.str (st [c])) (l.map fun c=>V.str (st [c]))=decide (c ∈ l):=by
 unfold inV
 induction l with
 | nil=>simp
 | cons d l ih=>
  rw [List.map_cons,List.any_cons,ih];simp only [eqV,List.mem_cons];by_cases h:c=d
  ·subst h; simp
  ·have h2:¬ d=c:=fun z=>h z.symm
   simp [h,h2]
noncomputable abbrev Pr:=List Nat × Nat
noncomputable def firstsL (w:Nat):List Pr->List Pr->List Pr
 | acc,[]=>acc
 | acc,p::r=>if p.1=dashes w then (if p.1 ∈ acc.map Prod.fst then acc else acc++[p]) else firstsL w (if p.1 ∈ acc.map Prod.fst then acc else acc++[p]) r
noncomputable def sideP (fs:List Pr) (c:Nat):List Pr:=(fs.filter fun p=>decide (p.1.headD 0=c) || decide (p.1.headD 0=45)).map fun p=>(p.1.tail,p.2)
noncomputable def sideF (fs:List Pr) (c n:Nat):List Pr:=firstsL n [] (sideP fs c)
noncomputable def numOf (fs:List Pr) (s:List Nat):Nat:=((fs.find? fun p=>decide (p.1=s)).map Prod.snd).getD 0
def GoodF (n:Nat) (fs:List Pr):Prop:=(∀ p ∈ fs,p.1.length=n)/\(fs.map Prod.fst).Nodup/\∃ pre k,fs=pre++[(dashes n,k)]
theorem ft (w:Nat):∀ (pairs acc:List Pr),(∀ p ∈ pairs,p.1.length=w)->(∀ p ∈ acc,p.1.length=w)->(acc.map Prod.fst).Nodup->dashes w ∉ acc.map Prod.fst->dashes w ∈ pairs.map Prod.fst->GoodF w (firstsL w acc pairs)
 | [],acc,_,_,_,_,h=>by cases h
 | p::r,acc,hp,ha,nd,hn,hm=>by
  rw [firstsL];split
  ·rename_i hd;have hno:p.1 ∉ acc.map Prod.fst:=by rw [hd]; exact hn
   rw [if_neg hno];refine ⟨fun q hq=>?_,?_,acc,p.2,by rw [<- hd]⟩
   ·rcases List.mem_append.mp hq with hq | hq
    ·exact ha q hq
    ·rw [List.mem_singleton.mp hq];exact hp p List.mem_cons_self
   ·rw [List.map_append,List.nodup_append];exact ⟨nd,by simp,fun a h1 b h2 e=>hno (by rw [List.map_cons,List.map_nil,List.mem_singleton] at h2; rw [<- h2,<- e]; exact h1)⟩
  ·rename_i hd;have hm':dashes w ∈ r.map Prod.fst:=by
    rw [List.map_cons] at hm;rcases List.mem_cons.mp hm with e | h
    ·exact absurd e.symm hd
    ·exact h
   have hr:∀ q ∈ r,q.1.length=w:=fun q hq=>hp q (List.mem_cons_of_mem _ hq)
   split
   ·exact ft w r acc hr ha nd hn hm'
   ·rename_i hno;refine ft w r _ hr (fun q hq=>?_) ?_ ?_ hm'
    ·rcases List.mem_append.mp hq with hq | hq
     ·exact ha q hq
     ·rw [List.mem_singleton.mp hq];exact hp p List.mem_cons_self
    ·rw [List.map_append,List.nodup_append];exact ⟨nd,by simp,fun a h1 b h2 e=>hno (by rw [List.map_cons,List.map_nil,List.mem_singleton] at h2; rw [<- h2,<- e]; exact h1)⟩
    ·rw [List.map_append,List.mem_append];rintro (h | h)
     ·exact hn h
     ·rw [List.map_cons,List.map_nil,List.mem_singleton] at h;exact hd h.symm
theorem oW {fs:List Pr} {n:Nat} (h:GoodF (n+1) fs) (c:Nat):GoodF n (sideF fs c n):=by
 obtain ⟨w,_,pre,k,e⟩:=h;unfold sideF;refine ft n _ [] (fun p hp=>?_) (fun p hp=>by cases hp) (by simp) (by simp) ?_
 ·obtain ⟨q,hq,rfl⟩:=List.mem_map.mp hp;have:=w q (List.mem_filter.mp hq).1;simp only [List.length_tail]
  lia
 ·refine List.mem_map.mpr ⟨(dashes n,k),List.mem_map.mpr ⟨(dashes (n+1),k),List.mem_filter.mpr ⟨?_,?_⟩,rfl⟩,rfl⟩
  ·rw [e];simp
  ·show (decide ((45:Nat)=c) || decide ((45:Nat)=45))=true;simp
theorem wD {fs:List Pr} {n:Nat} (h:GoodF n fs) (hl:fs.length=1):∃ k,fs=[(dashes n,k)]:=by
 obtain ⟨_,_,pre,k,e⟩:=h;rw [e,List.length_append,List.length_singleton] at hl;have:pre=[]:=List.length_eq_zero_iff.mp (by lia);exact ⟨k,by rw [e,this]; rfl⟩
theorem uX {fs:List Pr} (h:GoodF 0 fs):∃ k,fs=[([],k)]:=by
 obtain ⟨w,nd,pre,k,e⟩:=id h;refine ⟨k,?_⟩;cases pre with
 | nil=>exact e
 | cons p pre=>
  exfalso;rw [e,List.cons_append,List.map_cons,List.nodup_cons] at nd;have h1:=List.length_eq_zero_iff.mp (w p (by rw [e]; exact List.mem_cons_self));exact nd.1 (by rw [h1]; simp [dashes])
def AscF (fs:List Pr):Prop:=fs.Pairwise fun p q=>p.2 < q.2
theorem jG (w:Nat):∀ (pairs acc:List Pr),AscF acc->AscF pairs->(∀ a ∈ acc,∀ p ∈ pairs,a.2 < p.2)->AscF (firstsL w acc pairs)
 | [],acc,h,_,_=>h
 | p::r,acc,h,h2,h3=>by
  have hp:=List.pairwise_cons.mp h2;have step:AscF (if p.1 ∈ acc.map Prod.fst then acc else acc++[p])/\∀ a ∈ (if p.1 ∈ acc.map Prod.fst then acc else acc++[p]),∀ q ∈ r,a.2 < q.2:=by
   split
   ·exact ⟨h,fun a ha q hq=>h3 a ha q (List.mem_cons_of_mem _ hq)⟩
   ·refine ⟨List.pairwise_append.mpr ⟨h,List.pairwise_singleton _ _,fun a ha b hb=>?_⟩,fun a ha q hq=>?_⟩
    ·rw [List.mem_singleton.mp hb];exact h3 a ha p List.mem_cons_self
    ·rcases List.mem_append.mp ha with ha | ha
     ·exact h3 a ha q (List.mem_cons_of_mem _ hq)
     ·rw [List.mem_singleton.mp ha];exact hp.1 q hq
  rw [firstsL];split
  ·exact step.1
  ·exact jG w r _ step.1 hp.2 step.2
theorem j3 {fs:List Pr} (h:AscF fs) (c n:Nat):AscF (sideF fs c n):=by
 refine jG n _ [] List.Pairwise.nil ?_ (fun a ha=>by cases ha);unfold sideP AscF;rw [List.pairwise_map];exact List.Pairwise.filter _ h
theorem qB:∀ (b a:List Pr),AscF a->AscF b->(∀ x ∈ a,x ∈ b)->List.Sublist a b
 | [],a,_,_,h=>by
  cases a with
  | nil=>exact List.Sublist.refl _
  | cons x a=>exact absurd (h x List.mem_cons_self) List.not_mem_nil
 | y::b,[],_,_,_=>List.nil_sublist _
 | y::b,x::a,ha,hb,h=>by
  have ha':=List.pairwise_cons.mp ha;have hb':=List.pairwise_cons.mp hb;by_cases e:x=y
  ·subst e;refine List.Sublist.cons₂ _ (qB b a ha'.2 hb'.2 fun z hz=>?_);rcases List.mem_cons.mp (h z (List.mem_cons_of_mem _ hz)) with e | e
   ·have:=ha'.1 z hz;rw [e] at this;exact absurd this (Nat.lt_irrefl _)
   ·exact e
  ·refine List.Sublist.cons _ (qB b (x::a) ha hb'.2 fun z hz=>?_);rcases List.mem_cons.mp (h z hz) with q | q
   ·exfalso;have hx:x ∈ b:=(List.mem_cons.mp (h x List.mem_cons_self)).resolve_left e;have h1:=hb'.1 x hx;rcases List.mem_cons.mp hz with z1 | z1
    ·exact e (z1.symm.trans q)
    ·have h2:=ha'.1 z z1;rw [q] at h2
     lia
   ·exact q
theorem rY {a b:List Pr} (ha:AscF a) (hb:AscF b) (hl:a.length=b.length) (h:∀ x ∈ a,x ∈ b):a=b:=(qB b a ha hb h).eq_of_length hl
inductive Fork where
 | leaf (n:Nat)
 | ask (p:Nat) (no yes:Fork)
noncomputable def eqK:Fork->Fork->Bool
 | .leaf n,.leaf m=>n == m
 | .ask p a b,.ask q c d=>p == q && (eqK a c && eqK b d)
 | .leaf _,.ask _ _ _=>false
 | .ask _ _ _,.leaf _=>false
theorem my:∀ a,eqK a a=true
 | .leaf n=>by simp [eqK]
 | .ask p a b=>by simp [eqK,my a,my b]
noncomputable def joinK (p:Nat) (a b:Fork):Fork:=if eqK a b=true then a else .ask p a b
noncomputable def forkL:List Nat->List Pr->Fork
 | [],fs=>.leaf (numOf fs [])
 | p::ps,fs=>if fs.length=1 then .leaf (numOf fs (dashes (ps.length+1))) else joinK p (forkL ps (sideF fs 48 ps.length)) (forkL ps (sideF fs 49 ps.length))
noncomputable def high:Fork->Nat
 | .leaf _=>0
 | .ask _ a b=>max (high a) (high b)+1
theorem iY:∀ (ps:List Nat) (fs:List Pr),high (forkL ps fs)<=ps.length
 | [],fs=>Nat.le_refl _
 | p::ps,fs=>by
  have a:=iY ps (sideF fs 48 ps.length);have b:=iY ps (sideF fs 49 ps.length);rw [forkL,List.length_cons];split
  ·exact Nat.zero_le _
  ·unfold joinK;split
   ·lia
   ·show max _ _+1<=_
    lia
theorem lX {W p:Nat} (h:p < W):(dashes W).getD p 0=45:=by
 unfold dashes;rw [List.getD_eq_getElem?_getD,List.getElem?_replicate,if_pos h];rfl
noncomputable def metL (heap:List (List Nat)) (row:List Nat):List Pr:=((heap++[dashes row.length]).zipIdx).filter fun q=>okL q.1 row
noncomputable def asked (heap:List (List Nat)) (row:List Nat):List Nat:=(placesL ((metL heap row).map Prod.fst) row.length).filter fun p=>decide (row.getD p 0=45)
noncomputable def pairsL (heap:List (List Nat)) (row:List Nat):List Pr:=(metL heap row).map fun q=>(narrow q.1 (asked heap row),q.2)
noncomputable def forkOf (heap:List (List Nat)) (row:List Nat):Fork:=forkL (asked heap row) (firstsL (asked heap row).length [] (pairsL heap row))
theorem zj (l:List (List Nat)):∀ k,(l.zipIdx k).Pairwise fun (p q:Pr)=>p.2 < q.2:=by
 induction l with
 | nil=>intro k; exact List.Pairwise.nil
 | cons x l ih=>
  intro k;rw [List.zipIdx_cons];refine List.pairwise_cons.mpr ⟨fun q hq=>?_,ih (k+1)⟩;have:=List.le_snd_of_mem_zipIdx hq;show k < q.2
  lia
theorem vK (heap:List (List Nat)) (row:List Nat):AscF (pairsL heap row):=by
 unfold pairsL AscF;rw [List.pairwise_map];exact List.Pairwise.filter _ (zj _ 0)
theorem jX {heap:List (List Nat)} {row:List Nat} {p:Nat} (h:p ∈ asked heap row):p < row.length/\row.getD p 0=45:=by
 obtain ⟨h1,h2⟩:=List.mem_filter.mp h;exact ⟨pd h1,of_decide_eq_true h2⟩
theorem ni:∀ (n:Nat) (x:List Nat),okL (dashes n) x=true
 | 0,x=>by simp [okL,dashes]
 | n+1,[]=>by simp [okL]
 | n+1,c::x=>by
  have:=ni n x;unfold dashes at this ⊢;rw [List.replicate_succ,xU,this];rfl
theorem rh (heap:List (List Nat)) (row:List Nat):(dashes row.length,heap.length) ∈ metL heap row:=by
 refine List.mem_filter.mpr ⟨?_,ni _ _⟩;rw [List.zipIdx_append];exact List.mem_append_right _ (by simp)
theorem oA {W:Nat} {ps:List Nat} (h:∀ p ∈ ps,p < W):narrow (dashes W) ps=dashes ps.length:=by
 unfold narrow;rw [show dashes ps.length=ps.map fun _=>45 by simp [dashes,List.map_const']];exact List.map_congr_left fun p hp=>lX (h p hp)
theorem vz (heap:List (List Nat)) (row:List Nat):GoodF (asked heap row).length (firstsL (asked heap row).length [] (pairsL heap row)):=by
 refine ft _ _ [] (fun p hp=>?_) (fun p hp=>by cases hp) (by simp) (by simp) ?_
 ·obtain ⟨q,_,rfl⟩:=List.mem_map.mp hp;simp [narrow]
 ·refine List.mem_map.mpr ⟨(dashes (asked heap row).length,heap.length),List.mem_map.mpr ⟨_,rh heap row,?_⟩,rfl⟩;rw [oA fun p hp=>(jX hp).1]
theorem xP {heap:List (List Nat)} {row:List Nat} (hh:∀ r ∈ heap,r.length=row.length) {q:Pr} (h:q ∈ metL heap row):q.1.length=row.length/\okL q.1 row=true:=by
 obtain ⟨h1,h2⟩:=List.mem_filter.mp h;refine ⟨?_,h2⟩;have:=List.fst_mem_of_mem_zipIdx h1;rcases List.mem_append.mp this with z | z
 ·exact hh _ z
 ·rw [List.mem_singleton.mp z];simp [dashes]
theorem lG {α β γ:Type} {F:α -> γ -> Prop}:∀ {l:List α} {m:List β} {n:List γ},l.length=m.length->Paired (fun (q:α × β) c=>F q.1 c) (l.zip m) n->Paired F l n
 | [],[],_,_,h=>by cases h; exact .nil
 | a::l,b::m,_,e,h=>by
  rw [List.zip_cons_cons] at h;cases h with
  | cons r t=>exact .cons r (lG (by simpa using e) t)
noncomputable def pk (p:Pr):Key × V:=(Sum.inr (st p.1),V.int p.2)
def PairAt (H:Hp) (x:Pr) (v:V):Prop:=∃ t,v=.ref t/\H t=some (.tup [tx x.1,.int x.2])
def Pairs (H:Hp) (p:Addr) (xs:List Pr):Prop:=∃ vs,H p=some (.lst vs)/\Paired (PairAt H) xs vs
theorem mf (s:List Nat):∀ fs:List Pr,valV (fs.map pk) (Sum.inr (st s))=(fs.find? fun p=>decide (p.1=s)).map fun p=>V.int p.2
 | []=>rfl
 | p::fs=>by
  rw [List.map_cons,List.find?_cons];by_cases h:p.1=s
  ·rw [cm (by rw [<- h]; rfl),decide_eq_true h];rfl
  ·rw [cj (fun z=>h (by have z:(Sum.inr (st p.1):Key)=Sum.inr (st s):=z; injection z with z; exact qD.mp z)),decide_eq_false h];exact mf s fs
theorem x9 {fs:List Pr} {s:List Nat}:valV (fs.map pk) (Sum.inr (st s))=none ↔ s ∉ fs.map Prod.fst:=by
 rw [mf,Option.map_eq_none_iff,List.find?_eq_none];constructor
 ·intro h m;obtain ⟨p,hp,e⟩:=List.mem_map.mp m;exact h p hp (decide_eq_true e)
 ·intro h p hp e;exact h (List.mem_map.mpr ⟨p,hp,of_decide_eq_true e⟩)
theorem Bk {fs:List Pr} {s:List Nat} {n:Nat} (h:s ∉ fs.map Prod.fst):putK (fs.map pk) (Sum.inr (st s)) (V.int n)=(fs++[(s,n)]).map pk:=by
 rw [wE _ (x9.mpr h),List.map_append];rfl
noncomputable def gR (K:Frag):Sp:=az fun p=>bB fun w=>aM fun H Q _=>∃ (xs:List Pr) (n:Nat),w=(n:Int)/\n<=1000/\Pairs H p xs/\xs.length<=1000/\∀ q ob H',H q=none->Same H H'->H' q=some (.frz ob (.dK ((firstsL n [] xs).map pk)))->Q (.ref q) H'
theorem jR (T:Top K mg):Callee P w K mg base 1 "firsts_of" ["pairs", "width"] (gR K):=by
 refine T.lM.cal dR (by unfold gR; exact LenSp.h) (fun _ _ _ _ _ _ us hl=>match us,hl with | [_,_],_=>rfl) (fun f cdv A outer s H vs Q E hr h=>?_);unfold gR at h;walk_at "el";refine ⟨_,(af (au (i:=2) dR.nd rfl lc mG)
   (af (cu PassesOwn.never rfl (iterE K rfl (qv 0)) (tupE K rfl rfl (n:=2) (ar (ak (i:=3) dR.nd rfl lc) (ar (ak (i:=4) dR.nd rfl lc) bn))) (af (bj (vk (qv 2) (qv 3) (qv 4) ⟨rfl,rfl,rfl,rfl⟩))
   (ai (bU (aF dM (qv 3) (am be (qs [45]) (qv 1))) (ai wN) aO))))
   (ai (yp (qv 2))))),?_⟩
 rename_i p w;obtain ⟨xs,n,rfl,hn,⟨vs,e0,pr⟩,hx,q⟩:=h;have hl:=pr.length;walk_at "rd";intro g hg;refine .inl ⟨⟨_,SqL.of (ah hg _ _ _ e0)⟩,?_⟩;have fin:∀ H1,Same H H1->H1 g=some (.dK ((firstsL n [] xs).map pk))->∃ kvs,H1 g=some (.dK kvs)/\∀ ob,Q (.ref g) (upd H1 g (.frz ob (.dK kvs))):=fun H1 s1 e1=>
  ⟨_,e1,fun ob=>q g ob _ hg (aE s1 hg) upd_same⟩
 refine cC (xs:=vs) (fun i σ H'=>∃ (u v:Option V) (acc:List Pr),σ = [some (.ref p),some (.int n),some (.ref g),u,v]/\Same H H'/\H' g=some (.dK (acc.map pk))/\acc.length<=i/\firstsL n [] xs=firstsL n acc (xs.drop i)) ⟨none,none,[],rfl,ah hg _,upd_same,Nat.le_refl _,by rw [List.drop_zero]⟩ (fun i σ H' _ ⟨_,_,_,_,z,_⟩=>SqL.of (z _ _ e0)) ?_ ?_
 ·rintro i x σ H1 hxi ⟨u,v,acc,rfl,s1,e1,la,ef⟩;have hi:i < vs.length:=(List.getElem?_eq_some_iff.mp hxi).1;have hiw:i < xs.length:=by lia
  obtain ⟨y,hy,t',ey,et⟩:=aH pr (List.getElem?_eq_getElem hiw);obtain rfl:x=.ref t':=by rw [hy] at hxi; rw [<- Option.some.inj hxi,ey]
  rw [List.drop_eq_getElem_cons hiw] at ef;generalize xs[i]=pr0 at et ef;obtain ⟨s,k⟩:=pr0;refine ⟨t',[_,_],rfl,SqT.of (s1 _ _ et),rfl,_,[_],rfl,_,[],rfl,rfl,?_⟩;walk_at "rd";have small:(acc.map pk).length < sizeLine:=by rw [List.length_map,sizeLine_eq]; lia
  refine ⟨.inl ⟨_,.inl e1⟩,_,Sum.inr (st s),e1,rfl,small,fun v0 hv=>?_,fun hnone=>?_⟩
  ·have hm:s ∈ acc.map Prod.fst:=Classical.byContradiction fun z=>by rw [x9.mpr z] at hv; cases hv
   rw [firstsL,if_pos hm] at ef;dsimp only at ef;walk_at "rd";refine ⟨by lia,by lia,ite2 (fun c=>?_) fun c=>?_⟩
   ·rw [Int.toNat_natCast] at c;rw [if_pos (show s=dashes n from c)] at ef;exact fin _ s1 (by rw [e1,ef])
   ·rw [Int.toNat_natCast] at c;rw [if_neg (show ¬ s=dashes n from c)] at ef;exact ⟨_,_,acc,rfl,s1,e1,by lia,ef⟩
  ·have hm:s ∉ acc.map Prod.fst:=x9.mp hnone;rw [firstsL,if_neg hm] at ef;dsimp only at ef;rw [Bk hm];walk_at "rd";refine ⟨by lia,by lia,ite2 (fun c=>?_) fun c=>?_⟩
   ·rw [Int.toNat_natCast] at c;rw [if_pos (show s=dashes n from c)] at ef;exact fin _ (aE s1 hg) (by rw [upd_same,ef])
   ·rw [Int.toNat_natCast] at c;rw [if_neg (show ¬ s=dashes n from c)] at ef;exact ⟨_,_,acc++[(s,k)],rfl,aE s1 hg,upd_same,by rw [List.length_append,List.length_singleton]; lia,ef⟩
 ·rintro σ H1 ⟨u,v,acc,rfl,s1,e1,la,ef⟩;walk_at "rd";rw [<- hl,List.drop_length] at ef;exact fin _ s1 (by rw [e1,ef]; rfl)
theorem jB (w:Nat):∀ (pairs acc:List Pr),(firstsL w acc pairs).length<=acc.length+pairs.length
 | [],acc=>Nat.le_refl _
 | p::r,acc=>by
  have a:(if p.1 ∈ acc.map Prod.fst then acc else acc++[p]).length<=acc.length+1:=by
   split
   ·lia
   ·rw [List.length_append,List.length_singleton]
    lia
  have b:=jB w r (if p.1 ∈ acc.map Prod.fst then acc else acc++[p]);rw [firstsL,List.length_cons];split
  ·lia
  ·lia
theorem ny (fs:List Pr) (c n:Nat):(sideF fs c n).length<=fs.length:=by
 have a:=jB n (sideP fs c) [];have b:(sideP fs c).length<=fs.length:=by
  unfold sideP;rw [List.length_map];exact List.length_filter_le _ _
 rw [List.length_nil] at a;unfold sideF
 lia
noncomputable def fg (K:Frag):Sp:=az fun d=>dP fun s=>bB fun w=>aM fun H Q _=>∃ (ob:Obj) (fs:List Pr) (c n:Nat),s.cps.toList=[c]/\w=(n:Int)/\n<=1000/\H d=some (.frz ob (.dK (fs.map pk)))/\(∀ p ∈ fs,0 < p.1.length/\p.1.length<=1000)/\fs.length<=1000 /\
   ∀ q ob' H',H q=none->Same H H'->H' q=some (.frz ob' (.dK ((sideF fs c n).map pk)))->Q (.ref q) H'
theorem ix (T:Top K mg):Callee P w K mg base 2 "firsts_side" ["firsts", "sign", "width"] (fg K):=by
 refine T.ju.cal mW (by unfold fg; exact LenSp.h) (fun _ _ _ _ _ _ us hl=>match us,hl with | [_,_,_],_=>rfl) (fun f cdv A outer s H vs Q E hr h=>?_);unfold fg at h;walk_at "el";refine ⟨_,(ai (aC (aw (jR T) hr.m rfl (aa (aQ (nt:=2) (fi:=[1]) (N':=["signs", "number", "sign"]) rfl (cscope rfl (by decide +kernel)) (cnames (N:=["firsts", "sign", "width"]) (sc:=defScope du) rfl rfl (by decide +kernel)) (dS (by decide) (by decide)) (w9 (qv 0)) (fun _ _ _ _ _=>(tupE K rfl rfl (n:=2) (ar (ak (i:=0) (by show (["signs", "number", "sign"]:List Str).Nodup; decide +kernel) rfl lc) (ar (ak (i:=1) (by show (["signs", "number", "sign"]:List Str).Nodup; decide +kernel) rfl lc) bn)))) (fun _ _ _ _ _=>(d4 (aF (inE K rfl) (aq (ixE K rfl) (qv 0) ae (fun _ _=>rfl)) (aA (aa (qv 2) (aa (qs [45]) ad)))))) (fun _ _ _ _ _=>(aA (aa (aZ (slE K rfl) (qv 0) (bw ae) bG) (aa (qv 1) ad))))) (aa (qv 2) ad))))),?_⟩;rename_i d s w;obtain ⟨ob,fs,c,n,hc,rfl,hn,h1,h2,h3,q⟩:=h;obtain rfl:s=st [c]:=by rw [<- hc,b8]
 walk_at "rd";refine ⟨ob,_,h1,fun D hD=>?_⟩;refine rm pk fs (fun p=>decide (p.1.headD 0=c) || decide (p.1.headD 0=45)) (fun x v H'=>PairAt H' (x.1.tail,x.2) v) hD h1 (by lia) ?_ ?_ ?_
 ·rintro x v H1 H2 acc hd k ⟨t,e,r⟩;exact ⟨t,e,k _ _ (fun z=>by subst z; rw [hd] at r; cases r) r⟩
 ·rintro ⟨l,k⟩ Tt H1 out non hm s1 hT ho hno;obtain ⟨a,b⟩:=h2 _ hm;refine ⟨Tt,[tx l,.int k],rfl,SqT.of hT,rfl,tx l,[.int k],rfl,.int k,[],rfl,rfl,?_⟩;cases l with
  | nil=>exact absurd a (Nat.lt_irrefl 0)
  | cons x l=>
   have b:l.length+1<=1000:=b;walk_at "rd";refine ⟨by lia,x,kC (l:=x::l) (i:=0) (by simp),by decide,fun p hp=>⟨_,.inr (SqT.of upd_same),rfl,rfl,?_⟩⟩;have e:inV (V.str (st [x])) [V.str (st [c]),V.str (st [45])]=decide (x ∈ [c,45]):=xf x [c,45];rw [e];refine ite2 (fun e2=>?_) fun e2=>hno _ ?_ (ah hp _)
   ·refine ⟨by lia,by lia,by decide,fun t ht=>ho _ _ ?_ ((ah hp _).trans (ah ht _)) ⟨t,rfl,?_⟩⟩
    ·have:x=c\/x=45:=by simpa using e2
     simpa using this
    ·rw [upd_same];simp [tx]
   ·have:¬ (x=c\/x=45):=by simpa using e2
    simpa using this
 ·intro H1 ws s1 e1 pr;refine ⟨sideP fs c,n,rfl,hn,⟨ws,e1,?_⟩,?_,fun q1 ob' H' f1 s2 e2=>q q1 ob' H' (s1.free f1) (s1.trans s2) e2⟩
  ·exact cS pr
  ·unfold sideP;rw [List.length_map];exact Nat.le_trans (List.length_filter_le _ _) h3
noncomputable def FkV (H:Hp):Fork->V->Prop
 | .leaf n,v=>v=.int n
 | .ask p a b,v=>∃ t x y,v=.ref t/\H t=some (.tup [.int p,x,y])/\FkV H a x/\FkV H b y
theorem FkV.same {H H':Hp} (s:Same H H'):∀ {F:Fork} {v:V},FkV H F v->FkV H' F v
 | .leaf _,_,h=>h
 | .ask _ _ _,_,⟨t,x,y,e,q,h1,h2⟩=>⟨t,x,y,e,s _ _ q,h1.same s,h2.same s⟩
noncomputable def forkD:Fork->D
 | .leaf n=>.f (.int n)
 | .ask p a b=>.t [.f (.int p),forkD a,forkD b]
theorem i0 {H:Hp}:∀ (F:Fork) (v:V) (n:Nat),FkV H F v->high F<=n->Deep K H n v (forkD F)
 | .leaf k,v,n,h,_=>by
  rw [show v=.int k from h];exact bI n rfl
 | .ask p a b,v,n,⟨t,x,y,e,q,h1,h2⟩,hn=>by
  have hn:max (high a) (high b)+1<=n:=hn;obtain ⟨m,rfl⟩:∃ m,n=m+1:=⟨n - 1,by lia⟩;exact .inr (.inr ⟨t,_,_,e,rfl,SqT.of q,.cons (bI m rfl) (.cons (i0 a x m h1 (by lia)) (.cons (i0 b y m h2 (by lia)) .nil))⟩)
theorem intK (n m:Nat):eqV (.int n) (.int m)=(n == m):=by
 show ((n:Int) == (m:Int))=_;rw [Bool.eq_iff_iff,beq_iff_eq,beq_iff_eq]
 lia
theorem nO:∀ a b:Fork,eqD (forkD a) (forkD b)=eqK a b
 | .leaf n,.leaf m=>by
  rw [forkD,forkD,eqD,eqK];exact intK n m
 | .ask p a b,.ask q c d=>by
  rw [forkD,forkD,eqD,eqDs,eqDs,eqDs,eqDs,eqD,eqK,nO a c,nO b d,Bool.and_true];rw [intK]
 | .leaf _,.ask _ _ _=>by rw [forkD,forkD,eqD,eqK]
 | .ask _ _ _,.leaf _=>by rw [forkD,forkD,eqD,eqK]
theorem uL {H:Hp} {Q:VK} {F G:Fork} {x y:V} (hF:FkV H F x) (hG:FkV H G y) (h1:high F<=50) (h2:high G<=50) (q:Q (.bl (eqK F G)) H):kEqF K x y H Q:=by
 cases F with
 | leaf n=>
  obtain rfl:x=.int n:=hF;cases G with
  | leaf m=>
   obtain rfl:y=.int m:=hG;show Q (.bl (decide ((n:Int)=(m:Int)))) H;rw [show decide ((n:Int)=(m:Int))=eqK (.leaf n) (.leaf m) by rw [eqK,Bool.eq_iff_iff,decide_eq_true_iff,beq_iff_eq]; lia];exact q
  | ask p a b=>
   obtain ⟨t,x,y,rfl,e,_⟩:=hG;exact ⟨⟨_,SqT.of e⟩,q⟩
 | ask p a b=>
  obtain ⟨t,x1,y1,rfl,e,z1,z2⟩:=hF;cases G with
  | leaf m=>
   obtain rfl:y=.int m:=hG;exact ⟨⟨_,SqT.of e⟩,q⟩
  | ask p' a' b'=>
   have dG:=i0 (K:=K) _ _ 50 hG h2;obtain ⟨t',x',y',rfl,e',z1',z2'⟩:=hG;refine ⟨50,_,_,by decide,i0 (.ask p a b) _ 50 ⟨t,x1,y1,rfl,e,z1,z2⟩ h1,dG,?_⟩;rw [nO,Bool.false_xor];exact q
theorem ip (x:V) (xs:List V):cutV (x::xs) (some 1) none=xs:=by
 unfold cutV;have e1:HT.sIx (x::xs).length 0 (some 1)=1:=by
  simp [HT.sIx]
  try lia
 have e2:HT.sIx (x::xs).length (x::xs).length none=xs.length+1:=by simp [HT.sIx]
 rw [e1,e2];simp
theorem wg {a b:List Pr} (ha:AscF a) (hb:AscF b) (h:dEq (a.map pk) (b.map pk)=true):a=b:=by
 unfold dEq at h;rw [Bool.and_eq_true,beq_iff_eq,List.length_map,List.length_map,List.all_eq_true] at h;refine rY ha hb h.1 fun p hp=>?_
 have:=h.2 (pk p) (List.mem_map.mpr ⟨p,hp,rfl⟩);rw [show (pk p).2=V.int p.2 from rfl,show (pk p).1=Sum.inr (st p.1) from rfl,mf] at this;cases e:b.find? fun q=>decide (q.1=p.1) with
 | none=>rw [e] at this; cases this
 | some q=>
  rw [e] at this;have e2:((p.2:Int) == (q.2:Int))=true:=this;have e1:q.1=p.1:=by simpa using List.find?_some e
  rw [beq_iff_eq] at e2;have:p=q:=Prod.ext e1.symm (by lia);rw [this];exact List.mem_of_find?_eq_some e
noncomputable def cr (K:Frag) (m:Nat):Sp:=az fun d=>az fun g=>aM fun H Q _=>∃ (ob:Obj) (fs:List Pr) (ps:List Nat),ps.length < m/\ps.length<=12/\H d=some (.frz ob (.dK (fs.map pk)))/\SqL K H g (ps.map pl)/\GoodF ps.length fs/\AscF fs/\fs.length<=1000 /\
   ∀ v H',Same H H'->FkV H' (forkL ps fs) v->Q v H'
theorem nh (T:Top K mg):∀ m:Nat,Callee P w K mg base (m+3) "fork_below" ["firsts", "places"] (cr K m):=by
 intro m
 induction m with
 | zero=>
  refine T.h8.cal cp (by unfold cr; exact LenSp.h) (fun _ _ _ _ _ _ us hl=>match us,hl with | [_,_],_=>rfl) (fun f cdv A outer s H vs Q E hr h=>?_);unfold cr at h;walk_at "el";obtain ⟨_,_,_,hn,_⟩:=h;exact absurd hn (Nat.not_lt_zero _)
 | succ m ih=>
  refine T.h8.cal cp (by unfold cr; exact LenSp.h) (fun _ _ _ _ _ _ us hl=>match us,hl with | [_,_],_=>rfl) (fun f cdv A outer s H vs Q E hr h=>?_);unfold cr at h;walk_at "el";refine ⟨_,(af (bU (aF dM (aB uc rfl T.bZ bD (aa (qv 0) ad)) ae) (ai (aC (ma (iE hr) (qv 0) (am be (qs [45]) (aB (lenE K rfl) rfl T.bZ bD (aa (qv 1) ad))) (fun _ _=>rfl)))) aO)
   (af (au (i:=2) cp.nd rfl lc (aw (ix T) hr.m rfl (aa (qv 0) (aa (qs [48]) (aa (am j4 (aB (lenE K rfl) rfl T.bZ bD (aa (qv 1) ad)) ae) ad)))))
   (af (au (i:=3) cp.nd rfl lc (aw (ix T) hr.m rfl (aa (qv 0) (aa (qs [49]) (aa (am j4 (aB (lenE K rfl) rfl T.bZ bD (aa (qv 1) ad)) ae) ad)))))
   (af (au (i:=4) cp.nd rfl lc (aw ih hr.m rfl (aa (qv 2) (aa (aZ (slE K rfl) (qv 1) (bw ae) bG) ad))))
   (af (bU (aF (eqDictE hr) (qv 2) (qv 3)) (ai (aC (qv 4))) aO)
   (af (au (i:=5) cp.nd rfl lc (aw ih hr.m rfl (aa (qv 3) (aa (aZ (slE K rfl) (qv 1) (bw ae) bG) ad))))
   (ai (aC (eQ (aF (eqFE K rfl hr) (qv 4) (qv 5)) (qv 4) (aA (aa (aq (ixE K rfl) (qv 1) ae (fun _ _=>rfl)) (aa (qv 4) (aa (qv 5) ad))))))))))))),?_⟩
  rename_i d g;obtain ⟨ob,fs,ps,hm,hm12,h1,h2,hG,hA,hl,q⟩:=h;walk_at "rd";refine ⟨d,_,rfl,.inr ⟨ob,h1⟩,?_⟩;rw [List.length_map];refine ite2 (fun c1=>?_) fun c1=>?_
  ·have c1:fs.length=1:=by lia
   obtain ⟨k,rfl⟩:=wD hG c1;refine ⟨_,.inl h2,by rw [List.length_map]; lia,by rw [List.length_map]; lia,V.int k,.inl ⟨_,Sum.inr (st (dashes ps.length)),.inr ⟨ob,h1⟩,?_,?_⟩,q _ H (Same.refl _) ?_⟩
   ·rw [List.length_map,Int.toNat_natCast];rfl
   ·rw [mf];simp
   ·cases ps with
    | nil=>
     show V.int k=V.int (numOf _ []);rfl
    | cons p ps=>
     rw [forkL,if_pos c1];show V.int k=V.int (numOf _ _);unfold numOf;simp
  ·have c1:fs.length≠1:=by lia
   cases ps with
   | nil=>
    obtain ⟨k,rfl⟩:=uX hG;exact absurd rfl c1
   | cons p ps=>
    have hG:GoodF (ps.length+1) fs:=hG;have ek:(((p::ps).map pl).length:Int) - 1=(ps.length:Int):=by rw [List.length_map,List.length_cons]; lia
    have hm':ps.length < m:=by rw [List.length_cons] at hm; lia
    have hm12':ps.length<=11:=by rw [List.length_cons] at hm12; lia
    have hw:∀ x ∈ fs,0 < x.1.length/\x.1.length<=1000:=fun x hx=>by have:=hG.1 x hx; lia
    have t0:=ny fs 48 ps.length;have t1:=ny fs 49 ps.length;refine ⟨_,.inl h2,ob,fs,48,ps.length,rfl,ek,by lia,h1,hw,hl,fun d0 ob0 H1 f0 s1 e0=>?_⟩;refine ⟨_,.inl (s1.seq h2),ob,fs,49,ps.length,rfl,ek,by lia,s1 _ _ h1,hw,hl,fun d1 ob1 H2 f1 s2 e1=>?_⟩;have s02:=s1.trans s2;refine ⟨_,s02.seq h2,fun g1 hg1=>?_⟩;rw [List.map_cons,ip];have s3:=ah hg1 (.lst (ps.map pl));refine ⟨ob0,_,ps,hm',by lia,s3 _ _ (s2 _ _ e0),SqL.of upd_same,oW hG 48,j3 hA 48 _,by lia,fun no H3 s4 k0=>?_⟩;have s24:=s3.trans s4;have e0':=s24 _ _ (s2 _ _ e0);have e1':=s24 _ _ e1;walk_at "rd";refine ⟨_,_,.inr ⟨ob0,e0'⟩,.inr ⟨ob1,e1'⟩,fun x hx=>?_,fun x hx=>?_,?_⟩
    ·obtain ⟨y,_,rfl⟩:=List.mem_map.mp hx;exact ⟨_,rfl⟩
    ·obtain ⟨y,_,rfl⟩:=List.mem_map.mp hx;exact ⟨_,rfl⟩
    have s04:=s02.trans s24;have ef:forkL (p::ps) fs=joinK p (forkL ps (sideF fs 48 ps.length)) (forkL ps (sideF fs 49 ps.length)):=by rw [forkL,if_neg c1]
    walk_at "rd";refine ite2 (fun c2=>?_) fun c2=>?_
    ·have e:=wg (j3 hA 48 _) (j3 hA 49 _) c2;refine q no H3 s04 ?_;rw [ef,<- e];unfold joinK;rw [if_pos (my _)];exact k0
    ·refine ⟨_,s04.seq h2,fun g2 hg2=>?_⟩;rw [List.map_cons,ip];have s5:=ah hg2 (.lst (ps.map pl));refine ⟨ob1,_,ps,hm',by lia,s5 _ _ e1',SqL.of upd_same,oW hG 49,j3 hA 49 _,by lia,fun yes H4 s6 k1=>?_⟩;have s06:=s04.trans (s5.trans s6);have k0':=k0.same (s5.trans s6);have b0:=iY ps (sideF fs 48 ps.length);have b1:=iY ps (sideF fs 49 ps.length);walk_at "rd";refine uL k0' k1 (by lia) (by lia) ?_;walk_at "rd";refine ite2 (fun c3=>?_) fun c3=>?_
     ·refine q no H4 s06 ?_;rw [ef];unfold joinK;rw [if_pos c3];exact k0'
     ·refine ⟨_,pl p,.inl (s06.seq h2),kC (l:=(p::ps).map pl) (i:=0) (by simp),by decide,fun t ht=>q _ _ (s06.trans (ah ht _)) ?_⟩;rw [ef];unfold joinK;rw [if_neg c3];exact ⟨t,_,_,rfl,upd_same,k0'.same (ah ht _),k1.same (ah ht _)⟩
theorem oG (T:Top K mg):Callee P w K mg base 19 "fork_below" ["firsts", "places"] (cr K 16):=nh T 16
theorem yr {l:List Nat} {i:Nat} (h:i < l.length):atI l (i:Int)=some (l.getD i 0):=by
 rw [kC h];simp [h]
theorem vX {xs:List Pr} {vs:List V} (h:xs.length=vs.length):(xs.zip vs).map Prod.snd=vs:=List.map_snd_zip (by lia)
theorem rj:∀ (l:List Pr) (m:List V),l.length=m.length->((l.zip m).flatMap fun pr=>[tx pr.1.1])=(l.map Prod.fst).map tx
 | [],_,_=>rfl
 | x::l,[],h=>by cases h
 | x::l,v::m,h=>by
  rw [List.zip_cons_cons,List.flatMap_cons,rj l m (by simpa using h)];rfl
theorem mR {α:Type} (f:α -> V) (k:α -> Bool):∀ l:List α,(l.flatMap fun x=>if k x=true then [f x] else [])=(l.filter k).map f
 | []=>rfl
 | x::l=>by
  rw [List.flatMap_cons,mR f k l,List.filter_cons];split <;> rfl
noncomputable def jI (K:Frag):Sp:=az fun p=>dP fun r=>aM fun H Q _=>∃ hs:List (List Nat),H p=some (.lst (hs.map tx))/\(∀ x ∈ hs,x.length=r.cps.toList.length)/\r.cps.toList.length<=1000/\hs.length<=500/\(asked hs r.cps.toList).length<=12/\∀ v H',Same H H'->FkV H' (forkOf hs r.cps.toList) v->Q v H'
theorem nk (T:Top K mg):Callee P w K mg base 20 "fork_of" ["heap", "row"] (jI K):=by
 refine T.pV.cal gQ (by unfold jI; exact LenSp.h) (fun _ _ _ _ _ _ us hl=>match us,hl with | [_,_],_=>rfl) (fun f cdv A outer s H vs Q E hr h=>?_);unfold jI at h;walk_at "el";refine ⟨_,(af (au (i:=2) gQ.nd rfl lc (am aj (qv 0) (aL (aa (am be (qs [45]) (aB (lenE K rfl) rfl T.bZ bD (aa (qv 1) ad))) ad))))
   (af (fE (i:=3) (nt:=2) (fi:=[1]) (N':=["number", "mine", "row"]) gQ.nd rfl lc rfl (cscope rfl (by decide +kernel)) (cnames (N:=["heap", "row", "rows", "met", "places"]) (sc:=defScope de) rfl rfl (by decide +kernel)) (dS (by decide) (by decide)) (rq K rfl rfl T.iQ (qv 2)) (fun _ _ _ _ _=>(tupE K rfl rfl (n:=2) (ar (ak (i:=0) (by show (["number", "mine", "row"]:List Str).Nodup; decide +kernel) rfl lc) (ar (ak (i:=1) (by show (["number", "mine", "row"]:List Str).Nodup; decide +kernel) rfl lc) bn)))) (fun _ _ _ _ _=>(d4 (aF iZ (aw (rg T) hr.m rfl (aa (qv 1) (aa (qv 2) ad))) gO))) (fun _ _ _ _ _=>(aA (aa (qv 1) (aa (qv 0) ad)))))
   (af (au (i:=4) gQ.nd rfl lc (aQ (nt:=1) (fi:=[1]) (N':=["place", "row"]) rfl (cscope rfl (by decide +kernel)) (cnames (N:=["heap", "row", "rows", "met", "places"]) (sc:=defScope de) rfl rfl (by decide +kernel)) (aT (by decide)) (iterE K rfl (aw (nG T) hr.m rfl (aa (aQ (nt:=2) (fi:=[]) (N':=["mine", "number"]) rfl (cscope rfl (by decide +kernel)) (cnames (N:=["heap", "row", "rows", "met", "places"]) (sc:=defScope de) rfl rfl (by decide +kernel)) (dS (by decide) (by decide)) (iterE K rfl (qv 3)) (fun _ _ _ _ _=>(tupE K rfl rfl (n:=2) (ar (ak (i:=0) (by show (["mine", "number"]:List Str).Nodup; decide +kernel) rfl lc) (ar (ak (i:=1) (by show (["mine", "number"]:List Str).Nodup; decide +kernel) rfl lc) bn)))) (fun _ _ _ _ _=>aU) (fun _ _ _ _ _=>(qv 0))) ad))) (fun _ _ _ _ _=>(ak (i:=0) (by show (["place", "row"]:List Str).Nodup; decide +kernel) rfl lc)) (fun _ _ _ _ _=>(d4 (aF dM (aq (ixE K rfl) (qv 1) (qv 0) (fun _ _=>rfl)) (qs [45])))) (fun _ _ _ _ _=>(qv 0))))
   (ai (aC (aw (oG T) hr.m rfl (aa (aw (jR T) hr.m rfl (aa (aQ (nt:=2) (fi:=[4]) (N':=["mine", "number", "places"]) rfl (cscope rfl (by decide +kernel)) (cnames (N:=["heap", "row", "rows", "met", "places"]) (sc:=defScope de) rfl rfl (by decide +kernel)) (dS (by decide) (by decide)) (iterE K rfl (qv 3)) (fun _ _ _ _ _=>(tupE K rfl rfl (n:=2) (ar (ak (i:=0) (by show (["mine", "number", "places"]:List Str).Nodup; decide +kernel) rfl lc) (ar (ak (i:=1) (by show (["mine", "number", "places"]:List Str).Nodup; decide +kernel) rfl lc) bn)))) (fun _ _ _ _ _=>aU) (fun _ _ _ _ _=>(aA (aa (aw (lV T) hr.m rfl (aa (qv 0) (aa (qv 2) ad))) (aa (qv 1) ad))))) (aa (aB (lenE K rfl) rfl T.bZ bD (aa (qv 4) ad)) ad))) (aa (qv 4) ad)))))))),?_⟩
 rename_i p r;obtain ⟨r,rfl⟩:∃ x,r=st x:=⟨_,(b8 r).symm⟩;obtain ⟨hs,h1,h2,h3,h4,h5,q⟩:=h;simp only [bM] at h2 h3 h5 q;walk_at "rd";refine ⟨by lia,by lia,by lia,by decide,fun z hz=>?_⟩;refine ⟨_,_,ah hz _ _ _ h1,upd_same,by rw [List.length_map,sizeLine_eq]; simp; lia,fun ra hra=>?_⟩;have er:upd (upd H z (.lst [V.str (st (List.replicate (r.length:Int).toNat 45))])) ra (.lst (hs.map tx++[V.str (st (List.replicate (r.length:Int).toNat 45))]))=upd (upd H z (.lst [tx (dashes r.length)])) ra (.lst ((hs++[dashes r.length]).map tx)):=by
  rw [Int.toNat_natCast,List.map_append];rfl
 have s1:Same H (upd (upd H z (.lst [tx (dashes r.length)])) ra (.lst ((hs++[dashes r.length]).map tx))):=by
  rw [<- er];exact (ah hz _).trans (ah hra _)
 rw [er];generalize hrows:hs++[dashes r.length]=rows at s1;have hrl:rows.length<=501:=by rw [<- hrows]; simp; lia
 have hrw:∀ x ∈ rows,x.length=r.length:=fun x hx=>by
  rw [<- hrows] at hx;rcases List.mem_append.mp hx with hx | hx
  ·exact h2 x hx
  ·rw [List.mem_singleton.mp hx];simp [dashes]
 have e1:upd (upd H z (.lst [tx (dashes r.length)])) ra (.lst (rows.map tx)) ra=some (.lst (rows.map tx)):=upd_same;generalize upd (upd H z (.lst [tx (dashes r.length)])) ra (.lst (rows.map tx))=H1 at s1 e1;walk_at "rd";refine ⟨⟨_,SqL.of e1⟩,fun D hD=>?_⟩;refine iF (xs:=rows.zipIdx) (keep:=fun q=>okL q.1 r) (R:=fun x v H'=>PairAt H' x v) hD (by rw [List.length_zipIdx]; lia) ?_ ?_ ?_ ?_ ?_ ?_
 ·intro i H2 hi s2;rw [List.length_zipIdx] at hi;exact ⟨_,tx rows[i],SqL.of (s2 _ _ e1),by rw [List.getElem?_map,List.getElem?_eq_getElem hi]; rfl⟩
 ·intro H2 s2;exact ⟨_,SqL.of (s2 _ _ e1),by rw [List.length_zipIdx,List.length_map]⟩
 ·rintro i H2 v H3 hi ⟨Tt,x,rfl,hT,_,rfl⟩;exact ah hT _
 ·rintro x v H2 H3 acc hd k ⟨t,e,r⟩;exact ⟨t,e,k _ _ (fun z=>by subst z; rw [hd] at r; cases r) r⟩
 ·rintro i x v H2 H3 out non hx s2 ⟨Tt,y,rfl,hT,hxi,rfl⟩ ho hno;have hi:i < rows.length:=by
   have:=(List.getElem?_eq_some_iff.mp hx).1;simpa using this
  have ex:x=(rows[i],i):=by
   rw [List.getElem?_zipIdx,List.getElem?_eq_getElem hi] at hx;have:=Option.some.inj hx;rw [<- this,Nat.zero_add]
  subst ex;have ey:=hxi _ (SqL.of (s2 _ _ e1));rw [List.getElem?_map,List.getElem?_eq_getElem hi] at ey;obtain rfl:tx rows[i]=y:=Option.some.inj ey;have hrl':=hrw _ (List.getElem_mem hi);refine ⟨Tt,[.int i,tx rows[i]],rfl,SqT.upd_same,rfl,.int i,[tx rows[i]],rfl,tx rows[i],[],rfl,rfl,?_⟩;walk_at "rd";refine ⟨by simp only [bM]; lia,fun H4 s4=>?_⟩;simp only [bM];unfold meetV;cases hk:okL rows[i] r with
  | true=>
   walk_at "rd";exact ⟨by decide,fun t ht=>ho _ _ hk (s4.trans (ah ht _)) ⟨t,rfl,upd_same⟩⟩
  | false=>
   walk_at "rd";exact hno _ hk s4
 intro H2 ws s2 e2 pr;have hmet:rows.zipIdx.filter (fun q=>okL q.1 r)=metL hs r:=by unfold metL; rw [hrows]
 rw [hmet] at pr;have mw:∀ x ∈ metL hs r,x.1.length=r.length:=fun x hx=>(xP h2 hx).1
 have ml:(metL hs r).length<=501:=by
  rw [<- hmet];refine Nat.le_trans (List.length_filter_le _ _) ?_;rw [List.length_zipIdx];exact hrl
 have hz:=pr.length;have hS:SqL K H2 D (((metL hs r).zip ws).map Prod.snd):=by rw [vX hz]; exact SqL.of e2
 walk_at "rd";refine .inl ⟨⟨_,hS⟩,fun D2 hD2=>?_⟩;refine bv (item:=Prod.snd) (xs:=(metL hs r).zip ws) (h:=fun x=>[tx x.1.1]) hD2 hS (by rw [List.length_zip]; lia) (fun _=>by simp) ?_ ?_
 ·rintro ⟨x,v⟩ H3 out non hm s3 ho hno;obtain ⟨t,rfl,et⟩:=eI pr _ hm;refine ⟨t,[tx x.1,.int x.2],rfl,SqT.of (s3 _ _ et),rfl,tx x.1,[.int x.2],rfl,.int x.2,[],rfl,rfl,?_⟩;walk_at "rd";exact ho _ _ rfl (Same.refl _)
 intro H3 s3 e3;rw [rj _ _ hz] at e3;have hd0:dashes r.length ∈ (metL hs r).map Prod.fst:=List.mem_map.mpr ⟨_,rh hs r,rfl⟩;have hw0:∀ x ∈ (metL hs r).map Prod.fst,x.length=r.length:=fun x hx=>by
  obtain ⟨y,hy,rfl⟩:=List.mem_map.mp hx;exact mw y hy
 refine ⟨(metL hs r).map Prod.fst,r.length,SqL.of e3,hw0,h3,by rw [List.length_map]; lia,fun pa H4 f4 s4 e4=>?_⟩;have hhd:(((metL hs r).map Prod.fst).headD []).length=r.length:=vh hw0 hd0;rw [hhd] at e4;have lt4:∀ i ∈ placesL ((metL hs r).map Prod.fst) r.length,i < r.length:=fun i hi=>pd hi
 have pl4:(placesL ((metL hs r).map Prod.fst) r.length).length<=1000:=by
  have:=List.length_filter_le (told ((metL hs r).map Prod.fst)) (List.range r.length);rw [List.length_range] at this;exact Nat.le_trans this h3
 refine .inl ⟨⟨_,SqL.of e4⟩,fun D3 hD3=>?_⟩;refine bv (item:=pl) (xs:=placesL ((metL hs r).map Prod.fst) r.length) (h:=fun i=>if decide (r.getD i 0=45)=true then [pl i] else []) hD3 (SqL.of e4) (by lia) (fun _=>by split <;> simp) ?_ ?_
 ·intro i H5 out non hi s5 ho hno;have:=lt4 i hi;walk_at "rd";exact ⟨by lia,_,yr this,ite2 (fun g=>ho _ _ (if_pos (decide_eq_true g)) (Same.refl _)) fun g=>hno _ (if_neg (by simpa using g)) (Same.refl _)⟩
 intro H5 s5 e5;rw [mR pl fun i=>decide (r.getD i 0=45)] at e5;have e5:H5 D3=some (.lst ((asked hs r).map pl)):=e5;have s25:=s3.trans (s4.trans s5);have pr5:=L2.Paired.mapP pr fun _ _ (h:PairAt H2 _ _)=>(⟨h.choose,h.choose_spec.1,s25 _ _ h.choose_spec.2⟩:PairAt H5 _ _)
 have hS5:=s25.seq hS;walk_at "rd";refine .inl ⟨⟨_,hS5⟩,fun D4 hD4=>?_⟩;refine mI (K:=K) Prod.snd ((metL hs r).zip ws) (fun _=>true) (fun x v H'=>PairAt H' (narrow x.1.1 (asked hs r),x.1.2) v) hD4 hS5 (by rw [List.length_zip]; lia) ?_ ?_ ?_
 ·rintro x v H6 H7 acc hd k ⟨t,e,q⟩;exact ⟨t,e,k _ _ (fun z=>by subst z; rw [hd] at q; cases q) q⟩
 ·rintro ⟨x,v⟩ H6 out non hm s6 ho _;obtain ⟨t,rfl,et⟩:=eI pr5 _ hm;have hx:=mw x (List.of_mem_zip hm).1;refine ⟨t,[tx x.1,.int x.2],rfl,SqT.of (s6 _ _ et),rfl,tx x.1,[.int x.2],rfl,.int x.2,[],rfl,rfl,?_⟩;walk_at "rd";refine ⟨asked hs r,s6.seq (SqL.of e5),fun i hi=>?_,by simp only [bM]; lia,by lia,fun H7 s7=>?_⟩
  ·have:=(jX hi).1;simp only [bM]
   lia
  ·simp only [bM];walk_at "rd";exact ⟨by decide,fun t2 ht2=>ho _ _ rfl (s7.trans (ah ht2 _)) ⟨t2,rfl,upd_same⟩⟩
 intro H6 us s6 e6 pr6;rw [List.filter_eq_self.mpr fun _ _=>rfl] at pr6;have e56:=s6 _ _ e5;walk_at "rd";refine ⟨_,.inl (SqL.of e56),pairsL hs r,(asked hs r).length,by rw [List.length_map],by lia,⟨us,e6,?_⟩,by unfold pairsL; rw [List.length_map]; lia,fun d ob H7 f7 s7 e7=>?_⟩
 ·exact cS (lG (F:=fun x v=>PairAt H6 (narrow x.1 (asked hs r),x.2) v) hz pr6)
 have fl:=jB (asked hs r).length (pairsL hs r) [];have fl2:(pairsL hs r).length=(metL hs r).length:=by unfold pairsL; rw [List.length_map]
 rw [List.length_nil] at fl;refine ⟨ob,_,asked hs r,by lia,h5,e7,SqL.of (s7 _ _ e56),vz hs r,jG _ _ [] List.Pairwise.nil (vK hs r) (fun a ha=>by cases ha),by lia,fun v H8 s8 k8=>?_⟩;exact q v H8 (s1.trans (s2.trans (s25.trans (s6.trans (s7.trans s8))))) k8
noncomputable def rowOfW (n:Nat) (x:Way):List Nat:=x.1++dashes (n - x.1.length)
theorem mD {n:Nat} {x:Way} (h:x.1.length<=n):(rowOfW n x).length=n:=by
 unfold rowOfW dashes;rw [List.length_append,List.length_replicate]
 lia
theorem gG {α β:Type} {R:α -> β -> Prop}:∀ {l:List α} {m:List β},Paired R l m->Paired (fun b a=>R a b) m l
 | _,_,.nil=>.nil
 | _,_,.cons a r=>.cons a (gG r)
noncomputable def keyW (H:Hp) (v:V):Nat:=match v with
 | .ref t=>match H t with
  | some (.tup (.str y::_))=>y.length
  | _=>0
 | _=>0
theorem qz {H:Hp} {x:Way} {v:V} (h:WayAt H x v):keyW H v=x.1.length:=by
 obtain ⟨t,rfl,e⟩:=h;unfold keyW;simp only [e];rw [strlen,bM]
noncomputable def dk (K:Frag):Sp:=az fun p=>aM fun H Q _=>∃ ws:List Way,Ways H p ws/\ws.length < 64/\(∀ x ∈ ws,x.1.length<=1000)/\∃ c TT,PySem.W.tabIn K "longest_first" = some (c,TT)/\H TT=some (.tbl #[]) /\
   ∀ q H' ws',H q=none->Same H H'->Ways H' q ws'->ws'.Perm ws->(ws'.Pairwise fun a b=>b.1.length<=a.1.length)->Q (.ref q) H'
theorem kB (T:Top K mg):Callee P w K mg base 1 "longest_first" ["ways"] (dk K):=by
 obtain ⟨cc,TT,LL⟩:=T.lam_longest_first;refine T.ik.calC LL kW (by unfold dk; exact LenSp.h) (fun _ _ _ _ _ _ us hl=>match us,hl with | [_],_=>rfl) (fun f A outer s H vs Q E hr h=>?_);unfold dk at h;walk_at "el";refine ⟨_,(ai (aC (sw rfl hr rfl T.iU T.bZ rfl LL.lam (qv 0) rfl rfl rfl (by decide) rfl rfl rfl rfl rfl (fun _ _ _ _ _ _=>rfl)))),?_⟩;rename_i p;obtain ⟨ws,⟨vs,e0,pr⟩,hl,hw,c2,T2,ht,hT,q⟩:=h;have et:=LL.tb.symm.trans ht;cases et;have hln:=pr.length;have pf:=gG pr;walk_at "rd";refine ⟨vs,keyW H,SqL.of e0,by lia,fun x hx=>?_,hT,fun z H' xs' hz sz ez hd=>?_⟩
 ·obtain ⟨y,hy,hyx⟩:=iu pr x hx;have hk:=qz hyx;obtain ⟨t,rfl,e⟩:=hyx;have:=hw y hy;exact ⟨t,st y.1,[tx y.2],rfl,SqT.of e,by rw [strlen,bM,sizeLine_eq]; lia,by rw [hk,strlen,bM]⟩
 ·obtain ⟨ws',p1,p2⟩:=lm hd.1 pf;refine q z _ ws' hz sz ⟨xs',ez,bu (fun t us e=>sz _ _ e) (gG p2)⟩ p1 (dF (fun a b c d ra rc h=>?_) p2 hd.2);rw [qz ra,qz rc] at h;exact h
noncomputable def jx:Sp:=az fun t=>bB fun n=>aM fun H Q _=>∃ (x:Way) (m:Nat),H t=some (.tup [tx x.1,tx x.2])/\n=(m:Int)/\x.1.length<=m/\m<=1000/\Q (tx (rowOfW m x)) H
theorem tN (T:Top K mg):Callee P w K mg base 1 "way_row" ["way", "size"] jx:=by
 refine T.pS.cal sx (by unfold jx; exact LenSp.h) (fun _ _ _ _ _ _ us hl=>match us,hl with | [_,_],_=>rfl) (fun f cdv A outer s H vs Q E hr h=>?_);unfold jx at h;walk_at "el";refine ⟨_,(ai (aC (am aj (aq (ixE K rfl) (qv 0) ae (fun _ _=>rfl)) (am be (qs [45]) (am j4 (qv 1) (aB (lenE K rfl) rfl T.bZ bD (aa (aq (ixE K rfl) (qv 0) ae (fun _ _=>rfl)) ad))))))),?_⟩;rename_i t n;obtain ⟨x,m,e,rfl,h1,h2,q⟩:=h;walk_at "rd";refine ⟨_,_,.inr (SqT.of e),rfl,?_⟩;walk_at "rd";refine ⟨_,_,.inr (SqT.of e),rfl,?_⟩;walk_at "rd";have en:((m:Int) - (x.1.length:Int)).toNat=m - x.1.length:=by lia
 refine ⟨by lia,by lia,by lia,?_,?_⟩
 ·rw [List.length_replicate,en]; lia
 ·rw [en];exact q
noncomputable def wRow (a W:Nat) (x:Way):List Nat:=dashes a++rowOfW (W - a) x
theorem xw {a W:Nat} {x:Way} (h:a+x.1.length<=W):(wRow a W x).length=W:=by
 unfold wRow;rw [List.length_append,mD (by lia)];simp [dashes]
 lia
theorem cO (n:Nat):(dashes n).length=n:=by simp [dashes]
noncomputable abbrev clsG (K:Frag):Addr:=xA K "Gate"
noncomputable def kA (K:Frag):Sp:=az fun p=>az fun t=>aM fun H Q _=>∃ (ls:List Fld) (x:Way) (a b:Nat),Lay H p ls/\ls.length<=1000/\H t=some (.tup [tx x.1,tx x.2])/\spanF ls toT 0=some (a,b)/\a+x.1.length<=widthL ls/\widthL ls<=1000/\∀ H',Same H H'->Q (tx (wRow a (widthL ls) x)) H'
theorem vj (T:Top K mg):CalleeX P w K mg base 2 "to_row" ["layout", "way"] (kA K):=by
 refine T.si.calX pe (by unfold kA; exact LenSp.h) (fun _ _ _ _ _ _ us hl=>match us,hl with | [_,_],_=>rfl) (fun f cdv A outer s H vs Q E hr h=>?_);unfold kA at h;walk_at "el";refine ⟨_,(af (au (i:=2) pe.nd rfl lc (aq (ixE K rfl) (nz (oJ T) hr.m dg rfl (aa (qv 0) (aa (qs [116,111]) ad))) ae (fun _ _=>rfl)))
   (ai (aC (am aj (am be (qs [45]) (qv 2)) (aw (tN T) hr.m rfl (aa (qv 1) (aa (am j4 (aw (ig T) hr.m rfl (aa (qv 0) ad)) (qv 2)) ad))))))),?_⟩
 rename_i p t;obtain ⟨ls,x,a,b,hL,hl,e,esp,h1,h2,q⟩:=h;walk_at "rd";refine ⟨ls,hL,by decide,by decide,fun a' b' esp' t1 H1 ht1 s1 e1=>?_,fun en=>(by have en':spanF ls toT 0=none:=en; rw [esp] at en'; cases en')⟩;have esp'':spanF ls toT 0=some (a',b'):=esp';rw [esp] at esp'';cases esp'';refine ⟨_,_,.inr (SqT.of e1),rfl,?_⟩;walk_at "rd";refine ⟨by lia,by lia,ls,hL.same s1,hl,fun H2 s2=>?_⟩;walk_at "rd";refine ⟨x,widthL ls - a,s2 _ _ (s1 _ _ e),by lia,by lia,by lia,?_⟩;have hl2:=mD (n:=widthL ls - a) (x:=x) (by lia);walk_at "rd";refine ⟨by rw [List.length_replicate]; lia,?_⟩;have:=q H2 (s1.trans s2);unfold wRow at this;rw [Int.toNat_natCast];exact this
theorem tV {n i:Nat} {x:Way} (h:x.1.length<=i) (hi:i < n):(rowOfW n x).getD i 0=45:=by
 unfold rowOfW dashes;rw [List.getD_eq_getElem?_getD,List.getElem?_append_right h,List.getElem?_replicate,if_pos (by lia)];rfl
theorem qw:∀ (l m:List Nat),l.Nodup->(∀ x ∈ l,x ∈ m)->l.length<=m.length
 | [],m,_,_=>Nat.zero_le _
 | x::l,m,hn,h=>by
  rw [List.nodup_cons] at hn;have ih:=qw l (m.erase x) hn.2 fun y hy=>(List.mem_erase_of_ne (show y≠x from fun e=>hn.1 (by rw [<- e]; exact hy))).mpr (h y (List.mem_cons_of_mem _ hy))
  have hx:=h x List.mem_cons_self;rw [List.length_erase_of_mem hx] at ih;have:=List.length_pos_of_mem hx;rw [List.length_cons]
  lia
theorem jh (hs:List (List Nat)) (W:Nat):(placesL hs W).Pairwise (· < ·):=List.Pairwise.filter _ List.pairwise_lt_range
theorem nu {gs:List Gate} {n:List Nat} {rs:List Rule} (h:gateOf gs n=some rs):∃ g ∈ gs,g.1=n/\g.2=rs:=by
 unfold gateOf at h;obtain ⟨g,hg,rfl⟩:=Option.map_eq_some_iff.mp h;have:=List.find?_some hg;exact ⟨g,List.mem_of_find?_eq_some hg,of_decide_eq_true this,rfl⟩
noncomputable def fM (K:Frag):Sp:=az fun t=>dP fun n=>aM fun H Q E=>∃ (h:House) (rs:List Rule),HouseAt H t h/\gateOf h.1 n.cps.toList=some rs/\∀ p H',Same H H'->Rules H' p rs->Q (.ref p) H'
theorem oo (T:Top K mg):CalleeX P w K mg base 1 "gate_rules" ["house", "door"] (fM K):=by
 refine T.km.calX fO (by unfold fM; exact LenSp.h) (fun _ _ _ _ _ _ us hl=>match us,hl with | [_,_],_=>rfl) (fun f cdv A outer s H vs Q E hr h=>?_);unfold fM at h;walk_at "el";refine ⟨_,(af (cu PassesOwn.leaving rfl (iterE K rfl (aq (ixE K rfl) (qv 0) ae (fun _ _=>rfl))) (tupE K rfl rfl (n:=2) (ar (ak (i:=2) fO.nd rfl lc) (ar (ak (i:=3) fO.nd rfl lc) bn))) (ai (bU (aF dM (qv 2) (qv 1)) (ai (aC (qv 3))) aO)))
   (ai (iI rfl gr rfl T.iR.1 T.iR.2 (aa (z9 (mh (qs [110,111,32,100,111,111,114,32]) (mh (uo (qv 1)) xb))) ad)))),?_⟩
 rename_i p s;obtain ⟨n,rfl⟩:∃ x,s=st x:=⟨_,(b8 s).symm⟩;obtain ⟨hs,rs,⟨g,w,e,⟨vs,e0,pr⟩,hw⟩,he,q1⟩:=h;simp only [bM] at he;have hl:=pr.length;walk_at "rd";refine ⟨_,_,.inr (SqT.of e),rfl,?_⟩;walk_at "rd";refine .inl ⟨⟨_,SqL.of e0⟩,?_⟩;refine cC (xs:=vs) (fun i σ H'=>∃ u v,σ = [some (.ref p),some (.str (st n)),u,v]/\Same H H'/\∀ x ∈ hs.1.take i,¬ x.1=n) ⟨none,none,rfl,Same.refl _,fun x hx=>by simp at hx⟩ (fun i σ H' _ ⟨_,_,_,z,_⟩=>SqL.of (z _ _ e0)) ?_ ?_
 ·rintro i x σ H1 hx ⟨u,v,rfl,s1,h1⟩;have hi:i < vs.length:=(List.getElem?_eq_some_iff.mp hx).1;have hil:i < hs.1.length:=by lia
  obtain ⟨y,hy,t,r,ey,et,hr⟩:=aH pr (List.getElem?_eq_getElem hil);obtain rfl:x=.ref t:=by rw [hy] at hx; rw [<- Option.some.inj hx,ey]
  refine ⟨t,[_,_],rfl,SqT.of (s1 _ _ et),rfl,_,[_],rfl,_,[],rfl,rfl,?_⟩;walk_at "rd";refine ite2 (fun g=>?_) fun g=>⟨some (tx hs.1[i].1),some (.ref r),rfl,s1,fun y hy=>?_⟩
  ·have:hs.1[i].2=rs:=by
    unfold gateOf at he;rw [show hs.1.find? (fun g=>decide (g.1=n))=some hs.1[i] from List.find?_eq_some_iff_append.mpr ⟨by simpa using g,hs.1.take i,hs.1.drop (i+1),by simp,fun y hy=>by simpa using h1 y hy⟩] at he;exact Option.some.inj he
   exact q1 r H1 s1 (this ▸ hr.same s1)
  ·rw [List.take_add_one,List.getElem?_eq_getElem hil] at hy;rcases List.mem_append.mp hy with hy | hy
   ·exact h1 y hy
   ·have e:y=hs.1[i]:=by simpa using hy
    rw [e];exact g
 ·rintro σ H1 ⟨u,v,rfl,s1,h1⟩;obtain ⟨g,hg,hn,_⟩:=nu he;exact absurd hn (h1 g (by rw [<- hl,List.take_length]; exact hg))
structure GateI (ls:List Fld) (rs:List Rule) (ws:List Way) (a b:Nat):Prop where
 wide:widthL ls<=1000
 few:ls.length<=1000
 to:spanF ls toT 0=some (a,b)
 hb:b<=widthL ls
 rows:∀ r ∈ rs,r.1.length=widthL ls
 rl:rs.length<=500
 ra:(asked (rs.map fun x=>x.1) (dashes (widthL ls))).length<=12
 way:∀ x ∈ ws,a+x.1.length<=b/\x.1.length<=8
 wl:ws.length < 64
@[elab_as_elim]
theorem cb {G:Hp} {ca:Addr} {motive:Hp->Prop} (H:Hp) (o:HO) (s:Same G H) (h:G ca=none) (k:∀ H',Same G H'->H' ca=some o->motive H'):motive (upd H ca o):=k _ (aE s h) upd_same
@[elab_as_elim]
theorem cy {p:Addr} {motive:Hp->Prop} (H:Hp) (o:HO) (h:H p=none) (k:∀ H',Same H H'->H' p=some o->motive H'):motive (upd H p o):=k _ (ah h o) upd_same
theorem qu {H:Hp} {g C dx t:Addr} {fs:List (Str × V)} {o:HO} (h:H g=some (.ins C dx fs)) (q:H t=some o) (n:o≠.ins C dx fs):hole g H t=some o:=by
 rw [bf (fun e=>n (by rw [e,h] at q; cases q; rfl))];exact q
theorem Rules.hole {H:Hp} {g C dx p:Addr} {fs:List (Str × V)} {rs:List Rule} (h:Rules H p rs) (e:H g=some (.ins C dx fs)):Rules (hole g H) p rs:=by
 obtain ⟨vs,q,pr⟩:=h;exact ⟨vs,qu e q (fun z=>nomatch z),eV (fun _ _ q=>qu e q (fun z=>nomatch z)) pr⟩
theorem Ways.hole {H:Hp} {g C dx p:Addr} {fs:List (Str × V)} {ws:List Way} (h:Ways H p ws) (e:H g=some (.ins C dx fs)):Ways (hole g H) p ws:=by
 obtain ⟨vs,q,pr⟩:=h;exact ⟨vs,qu e q (fun z=>nomatch z),bu (fun _ _ q=>qu e q (fun z=>nomatch z)) pr⟩
theorem nc:∀ (l:List Rule) (m:List V),l.length=m.length->((l.zip m).flatMap fun pr=>[tx pr.1.1])=(l.map fun x=>x.1).map tx
 | [],_,_=>rfl
 | x::l,[],h=>by cases h
 | x::l,v::m,h=>by
  rw [List.zip_cons_cons,List.flatMap_cons,nc l m (by simpa using h)];rfl
theorem px (a n:Nat):∀ (l:List Way) (m:List V),l.length=m.length->((l.zip m).flatMap fun pr=>[tx (wRow a n pr.1)])=(l.map (wRow a n)).map tx
 | [],_,_=>rfl
 | x::l,[],h=>by cases h
 | x::l,v::m,h=>by
  rw [List.zip_cons_cons,List.flatMap_cons,px a n l m (by simpa using h)];rfl
theorem vZ {hs:List (List Nat)} {W lo hi:Nat} (hh:hi<=lo+12) (hl:∀ r ∈ hs,r.length=W) (ht:∀ r ∈ hs,∀ i,i < W->r.getD i 0≠45->lo<=i/\i < hi):(asked hs (dashes W)).length<=12:=by
 have:=qw (asked hs (dashes W)) ((List.range 12).map (lo+·)) ?_ fun i hi=>?_
 ·simpa using this
 ·unfold asked;exact (List.Pairwise.filter _ (jh _ _)).imp fun h=>Nat.ne_of_lt h
 ·have hlt:=(jX hi).1;rw [cO] at hlt;obtain ⟨r,hr,h45⟩:=List.any_eq_true.mp (List.mem_filter.mp (List.mem_filter.mp hi).1).2;obtain ⟨q,hq,rfl⟩:=List.mem_map.mp hr;have hq1:=List.fst_mem_of_mem_zipIdx (List.mem_filter.mp hq).1;rcases List.mem_append.mp hq1 with z | z
  ·have:=ht _ z i hlt (by simpa using h45);exact List.mem_map.mpr ⟨i - lo,List.mem_range.mpr (by lia),by lia⟩
  ·rw [List.mem_singleton.mp z,cO,lX hlt] at h45;exact absurd h45 (by decide)
theorem tQ {ws:List Way} {a b W:Nat} (hb:b<=W) (hw:∀ x ∈ ws,a+x.1.length<=b/\x.1.length<=8):(asked (ws.map (wRow a W)) (dashes W)).length<=8:=by
 have:=qw (asked (ws.map (wRow a W)) (dashes W)) ((List.range 8).map (a+·)) ?_ fun i hi=>?_
 ·simpa using this
 ·unfold asked;exact (List.Pairwise.filter _ (jh _ _)).imp fun h=>Nat.ne_of_lt h
 ·have hlt:=(jX hi).1;rw [cO] at hlt;obtain ⟨r,hr,h45⟩:=List.any_eq_true.mp (List.mem_filter.mp (List.mem_filter.mp hi).1).2;obtain ⟨q,hq,rfl⟩:=List.mem_map.mp hr;have hq1:=List.fst_mem_of_mem_zipIdx (List.mem_filter.mp hq).1;have d45:(dashes W).getD i 0=45:=lX hlt;rcases List.mem_append.mp hq1 with z | z
  ·obtain ⟨x,hx,e⟩:=List.mem_map.mp z;obtain ⟨k1,k3⟩:=hw x hx;rw [List.mem_map];have hnd:(wRow a W x).getD i 0≠45:=by rw [e]; simpa using h45
   rcases Nat.lt_or_ge i a with g1 | g1
   ·exfalso;apply hnd;unfold wRow;rw [List.getD_eq_getElem?_getD,List.getElem?_append_left (by rw [cO]; exact g1),<- List.getD_eq_getElem?_getD,lX g1]
   ·rcases Nat.lt_or_ge i (a+x.1.length) with g2 | g2
    ·exact ⟨i - a,List.mem_range.mpr (by lia),by lia⟩
    ·exfalso;apply hnd;unfold wRow;rw [List.getD_eq_getElem?_getD,List.getElem?_append_right (by rw [cO]; exact g1),<- List.getD_eq_getElem?_getD,cO,tV (by lia) (by lia)]
  ·rw [List.mem_singleton.mp z,cO,d45] at h45;exact absurd h45 (by decide)
noncomputable def cT (K:Frag):Sp:=az fun ga=>az fun p=>az fun t=>dP fun d=>aM fun H Q E=>∃ (G:Hp) (dx c TT:Addr) (a b:Nat) (ls:List Fld) (hs:House) (rs:List Rule),Same G H/\G ga=none/\H ga=some (.ins (clsG K) dx [])/\Lay G p ls/\HouseAt G t hs/\PySem.W.tabIn K "longest_first" = some (c,TT)/\G TT=some (.tbl #[]) /\
   gateOf hs.1 d.cps.toList=some rs/\GateI ls rs hs.2 a b/\∀ H',Same G H'->Q .non H'
theorem jO (T:Top K mg):KCalX P w K mg base 21 "Gate" ["self", "layout", "house", "door"] (cT K):=by
 refine T.gx.calX fF (by unfold cT; exact LenSp.h) (fun _ _ _ _ _ _ us hl=>match us,hl with | [_,_,_,_],_=>rfl) (fun f cdv A outer s H vs Q E hr h=>?_);unfold cT at h;walk_at "el";refine ⟨_,(af (b7 (qv 0) (nz (oo T) hr.m dg rfl (aa (qv 2) (aa (qv 3) ad))) rfl)
   (af (b7 (qv 0) (aw (kB T) hr.m rfl (aa (aq (ixE K rfl) (qv 2) ae (fun _ _=>rfl)) ad)) rfl)
   (af (au (i:=4) fF.nd rfl lc (am be (qs [45]) (aw (ig T) hr.m rfl (aa (qv 1) ad))))
   (af (b7 (qv 0) (aw (nk T) hr.m rfl (aa (aQ (nt:=1) (fi:=[]) (N':=["rule"]) rfl (cscope rfl (by decide +kernel)) (cnames (N:=["self", "layout", "house", "door", "every"]) (sc:=defScope aY) rfl rfl (by decide +kernel)) (aT (by decide)) (iterE K rfl (cG (qv 0) rfl)) (fun _ _ _ _ _=>(ak (i:=0) (by show (["rule"]:List Str).Nodup; decide +kernel) rfl lc)) (fun _ _ _ _ _=>aU) (fun _ _ _ _ _=>(aq (ixE K rfl) (qv 0) ae (fun _ _=>rfl)))) (aa (qv 4) ad))) rfl)
   (ai (b7 (qv 0) (aw (nk T) hr.m rfl (aa (aQ (nt:=1) (fi:=[1]) (N':=["way", "layout"]) rfl (cscope rfl (by decide +kernel)) (cnames (N:=["self", "layout", "house", "door", "every"]) (sc:=defScope aY) rfl rfl (by decide +kernel)) (aT (by decide)) (iterE K rfl (cG (qv 0) rfl)) (fun _ _ _ _ _=>(ak (i:=0) (by show (["way", "layout"]:List Str).Nodup; decide +kernel) rfl lc)) (fun _ _ _ _ _=>aU) (fun _ _ _ _ _=>(aw (vj T).calm hr.m rfl (aa (qv 1) (aa (qv 0) ad))))) (aa (qv 4) ad))) rfl)))))),?_⟩
 rename_i ga p t d;obtain ⟨G,dx,c,TT,a,b,ls,hs,rs,sG,hga,eg,hL,hH,ht,hT,hgr,I,q⟩:=h;walk_at "rd";refine ⟨hs,rs,hH.same sG,hgr,fun ra H1 s1 R1=>?_⟩;have w1:=I.wide;have w2:=I.few;walk_at "rd";refine ⟨ga,_,dx,[],rfl,s1 _ _ eg,T.c_Gate.c,T.a_Gate_rules,by decide,?_⟩;have R1':Rules (hole ga H1) ra rs:=R1.hole (s1 _ _ eg);have g1:Same G (hole ga H1):=br (sG.trans s1) hga;refine cb (G:=hole ga H1) H1 _ aJ bo fun H2 s12 e2=>?_
 have s2:=g1.trans s12;have R2:=R1'.same s12;obtain ⟨g0,w0,eh,hg,hw⟩:=hH.same s2;refine ⟨_,_,.inr (SqT.of eh),rfl,?_⟩;walk_at "rd";refine ⟨hs.2,hw,I.wl,fun x hx=>by have:=(I.way x hx).2; lia,c,TT,ht,s2 _ _ hT,fun wa H3 ws' f3 s3 W3 hp hd=>?_⟩;have e3:=s3 _ _ e2;refine ⟨ga,_,dx,_,rfl,e3,T.c_Gate.c,T.a_Gate_ways,by show 1 < 1000; decide,?_⟩;have R3':Rules (hole ga H3) ra rs:=(R2.same s3).hole e3;have W3':Ways (hole ga H3) wa ws':=W3.hole e3;have g3:Same G (hole ga H3):=br (s2.trans s3) hga;refine cb (G:=hole ga H3) H3 _ aJ bo fun H4 s34 e4=>?_
 have s4:=g3.trans s34;have R4:=R3'.same s34;have W4:=W3'.same s34;refine ⟨ls,hL.same s4,w2,fun H5 s5=>?_⟩;have e5:=s5 _ _ e4;have s05:=s4.trans s5;have R5:=R4.same s5;have W5:=W4.same s5;walk_at "rd";refine ⟨by lia,by lia,?_⟩;rw [Int.toNat_natCast];obtain ⟨rv,er,pr⟩:=id R5;have lr:=pr.length;have hrl:=I.rl;have hS:SqL K H5 ra ((rs.zip rv).map Prod.snd):=by rw [List.map_snd_zip (by lia)]; exact SqL.of er
 refine ⟨ga,_,dx,_,_,rfl,e5,T.c_Gate.c,T.a_Gate_rules,rfl,.inl ⟨⟨_,hS⟩,fun D hD=>?_⟩⟩;refine bv (item:=Prod.snd) (xs:=rs.zip rv) (h:=fun x=>[tx x.1.1]) hD hS (by rw [List.length_zip]; lia) (fun _=>by simp) ?_ ?_
 ·rintro ⟨x,v⟩ H6 out non hm s6 ho hno;obtain ⟨t1,rfl,et⟩:=eI pr _ hm;walk_at "rd";exact ⟨_,_,.inr (SqT.of (s6 _ _ et)),rfl,ho _ _ rfl (Same.refl _)⟩
 intro H6 s6 e6;rw [nc _ _ lr] at e6;refine ⟨rs.map fun x=>x.1,e6,fun x hx=>?_,by simp; lia,by rw [List.length_map]; lia,?_,fun fr H7 s7 F7=>?_⟩
 ·obtain ⟨y,hy,rfl⟩:=List.mem_map.mp hx;rw [I.rows y hy];simp
 ·simp only [bM];exact I.ra
 simp only [bM] at F7;have F7:FkV H7 (forkOf (rs.map fun x=>x.1) (dashes (widthL ls))) fr:=F7;have s07:=s05.trans (s6.trans s7);have s57:=s6.trans s7;have e7:=s57 _ _ e5;refine ⟨ga,_,dx,_,rfl,e7,T.c_Gate.c,T.a_Gate_rules_fork,by show 2 < 1000; decide,?_⟩;have W7':Ways (hole ga H7) wa ws':=(W5.same s57).hole e7;have g7:Same G (hole ga H7):=br s07 hga;refine cb (G:=hole ga H7) H7 _ aJ bo fun H8 s78 e8=>?_
 have s8:=g7.trans s78;have W8:=W7'.same s78;obtain ⟨wv,ew,pw⟩:=id W8;have lw:=pw.length;have hwl:=hp.length_eq;have hwl2:=I.wl;have hway:∀ x ∈ ws',a+x.1.length<=b/\x.1.length<=8:=fun x hx=>I.way x (hp.mem_iff.mp hx)
 have hb:=I.hb;have hS8:SqL K H8 wa ((ws'.zip wv).map Prod.snd):=by rw [List.map_snd_zip (by lia)]; exact SqL.of ew
 refine ⟨ga,_,dx,_,_,rfl,e8,T.c_Gate.c,T.a_Gate_ways,rfl,.inl ⟨⟨_,hS8⟩,fun D2 hD2=>?_⟩⟩;refine bv (item:=Prod.snd) (xs:=ws'.zip wv) (h:=fun x=>[tx (wRow a (widthL ls) x.1)]) hD2 hS8 (by rw [List.length_zip]; lia) (fun _=>by simp) ?_ ?_
 ·rintro ⟨x,v⟩ H9 out non hm s9 ho hno;obtain ⟨t1,rfl,et⟩:=eI pw _ hm;have hx:=hway x (List.of_mem_zip hm).1;walk_at "rd";exact ⟨ls,x,a,b,hL.same (s8.trans s9),w2,s9 _ _ et,I.to,by lia,w1,fun H10 s10=>ho _ _ rfl s10⟩
 intro H9 s9 e9;rw [px _ _ _ _ lw] at e9;refine ⟨ws'.map (wRow a (widthL ls)),e9,fun x hx=>?_,by simp; lia,by rw [List.length_map]; lia,?_,fun fw H10 s10 F10=>?_⟩
 ·obtain ⟨y,hy,rfl⟩:=List.mem_map.mp hx;rw [xw (by have:=(hway y hy).1; lia)];simp
 ·simp only [bM];exact Nat.le_trans (tQ hb hway) (by decide)
 simp only [bM] at F10;have F10:FkV H10 (forkOf (ws'.map (wRow a (widthL ls))) (dashes (widthL ls))) fw:=F10;have s810:=s9.trans s10;have e10:=s810 _ _ e8;refine ⟨ga,_,dx,_,rfl,e10,T.c_Gate.c,T.a_Gate_ways_fork,by show 3 < 1000; decide,?_⟩;exact q _ (aE (s8.trans s810) hga)
mutual
noncomputable def gdD:D->Bool
 | .f (.str _)=>true
 | .f (.int _)=>true
 | .f _=>false
 | .l xs=>gdDs xs
 | .t xs=>gdDs xs
noncomputable def gdDs:List D->Bool
 | []=>true
 | x::xs=>gdD x && gdDs xs
end
mutual
theorem jZ:∀ (d e:D),gdD d=true->gdD e=true->(eqD d e=true ↔ d=e)
 | .f x,.f y,h1,h2=>by
  cases x <;> cases y <;> simp_all [gdD,eqD,eqV]
 | .l xs,.l ys,h1,h2=>by
  rw [eqD,eqDs_iff xs ys (by rw [gdD] at h1; exact h1) (by rw [gdD] at h2; exact h2)];simp
 | .t xs,.t ys,h1,h2=>by
  rw [eqD,eqDs_iff xs ys (by rw [gdD] at h1; exact h1) (by rw [gdD] at h2; exact h2)];simp
 | .f _,.l _,_,_=>by simp [eqD]
 | .f _,.t _,_,_=>by simp [eqD]
 | .l _,.f _,_,_=>by simp [eqD]
 | .l _,.t _,_,_=>by simp [eqD]
 | .t _,.f _,_,_=>by simp [eqD]
 | .t _,.l _,_,_=>by simp [eqD]
theorem eqDs_iff:∀ (ds es:List D),gdDs ds=true->gdDs es=true->(eqDs ds es=true ↔ ds=es)
 | [],[],_,_=>by simp [eqDs]
 | [],_::_,_,_=>by simp [eqDs]
 | _::_,[],_,_=>by simp [eqDs]
 | x::xs,y::ys,h1,h2=>by
  rw [gdDs,Bool.and_eq_true] at h1 h2;rw [eqDs,Bool.and_eq_true,jZ x y h1.1 h2.1,eqDs_iff xs ys h1.2 h2.2];simp
end
theorem gN {α:Type} {f:α -> D}:∀ l:List α,(∀ x ∈ l,gdD (f x)=true)->gdDs (l.map f)=true
 | [],_=>by simp [gdDs]
 | x::l,h=>by rw [List.map_cons,gdDs,h x List.mem_cons_self,gN l fun y hy=>h y (List.mem_cons_of_mem _ hy)]; rfl
theorem jN {α β:Type} {f:α -> β} (inj:∀ x y,f x=f y->x=y):∀ {l m:List α},l.map f=m.map f->l=m
 | [],[],_=>rfl
 | [],_::_,h=>by simp at h
 | _::_,[],h=>by simp at h
 | x::l,y::m,h=>by
  rw [List.map_cons,List.map_cons,List.cons.injEq] at h;rw [inj x y h.1,jN inj h.2]
theorem mv {a b:List Nat} (h:tx a=tx b):a=b:=by
 have:st a=st b:=by injection h
 exact qD.mp this
noncomputable def layD (ls:List Fld):D:=.l (ls.map fldD)
noncomputable def lineD (x:Line):D:=.t [wayD x.1,wayD x.2]
noncomputable def linesD (ls:List Line):D:=.l (ls.map lineD)
noncomputable def doorD (x:List Nat × List (List Nat)):D:=.t [.f (tx x.1),.l (x.2.map fun d=>.f (tx d))]
noncomputable def doorsD (ds:List (List Nat × List (List Nat))):D:=.l (ds.map doorD)
theorem wy (x y:Fld) (h:fldD x=fldD y):x=y:=by
 unfold fldD at h;simp only [D.t.injEq,List.cons.injEq,D.f.injEq,and_true] at h;have e2:(x.2:Int)=(y.2:Int):=by injection h.2
 exact Prod.ext (mv h.1) (by lia)
theorem rD (x y:Way) (h:wayD x=wayD y):x=y:=by
 unfold wayD at h;simp only [D.t.injEq,List.cons.injEq,D.f.injEq,and_true] at h;exact Prod.ext (mv h.1) (mv h.2)
theorem vB (x y:Line) (h:lineD x=lineD y):x=y:=by
 unfold lineD at h;simp only [D.t.injEq,List.cons.injEq,and_true] at h;exact Prod.ext (rD _ _ h.1) (rD _ _ h.2)
theorem vU (x y:List Nat × List (List Nat)) (h:doorD x=doorD y):x=y:=by
 unfold doorD at h;simp only [D.t.injEq,List.cons.injEq,D.f.injEq,D.l.injEq,and_true] at h;refine Prod.ext (mv h.1) (jN (f:=fun d=>D.f (tx d)) (fun a b e=>mv (by simpa using e)) h.2)
theorem Br (a b:List Fld):eqD (layD a) (layD b)=decide (a=b):=by
 have g:∀ l:List Fld,gdD (layD l)=true:=fun l=>by
  unfold layD;rw [gdD];exact gN l fun x _=>by simp [fldD,gdD,gdDs]
 rw [Bool.eq_iff_iff,decide_eq_true_iff,jZ _ _ (g a) (g b)];constructor
 ·intro h;unfold layD at h;exact jN wy (by simpa using h)
 ·exact fun h=>by rw [h]
theorem xD (a b:List Line):eqD (linesD a) (linesD b)=decide (a=b):=by
 have g:∀ l:List Line,gdD (linesD l)=true:=fun l=>by
  unfold linesD;rw [gdD];exact gN l fun x _=>by simp [lineD,wayD,gdD,gdDs]
 rw [Bool.eq_iff_iff,decide_eq_true_iff,jZ _ _ (g a) (g b)];constructor
 ·intro h;unfold linesD at h;exact jN vB (by simpa using h)
 ·exact fun h=>by rw [h]
theorem wc (a b:List (List Nat × List (List Nat))):eqD (doorsD a) (doorsD b)=decide (a=b):=by
 have g:∀ l,gdD (doorsD l)=true:=fun l=>by
  unfold doorsD;rw [gdD];refine gN l fun x _=>?_
  unfold doorD;rw [gdD,gdDs,gdDs,gdDs,gdD,gdD,gN x.2 fun d _=>by rw [gdD]];rfl
 rw [Bool.eq_iff_iff,decide_eq_true_iff,jZ _ _ (g a) (g b)];constructor
 ·intro h;unfold doorsD at h;exact jN vU (by simpa using h)
 ·exact fun h=>by rw [h]
theorem pC {H:Hp} {p:Addr} {ls:List Fld} (h:Lay H p ls):Deep K H 4 (.ref p) (layD ls):=by
 obtain ⟨vs,e,pr⟩:=h;refine .inr (.inl ⟨p,vs,ls.map fldD,rfl,rfl,SqL.of e,?_⟩);clear e
 induction pr with
 | nil=>exact .nil
 | cons r _ ih=>
  obtain ⟨t,rfl,q⟩:=r;exact .cons (.inr (.inr ⟨t,_,_,rfl,rfl,SqT.of q,.cons (bI 2 rfl) (.cons (bI 2 rfl) .nil)⟩)) ih
theorem kH {H:Hp} {x:Way} {v:V} (n:Nat) (h:WayAt H x v):Deep K H (n+1) v (wayD x):=by
 obtain ⟨t,rfl,q⟩:=h;exact .inr (.inr ⟨t,_,_,rfl,rfl,SqT.of q,.cons (bI n rfl) (.cons (bI n rfl) .nil)⟩)
theorem lu {H:Hp} {p:Addr} {ls:List Line} (h:Lines H p ls):Deep K H 4 (.ref p) (linesD ls):=by
 obtain ⟨vs,e,pr⟩:=h;refine .inr (.inl ⟨p,vs,ls.map lineD,rfl,rfl,SqL.of e,?_⟩);clear e
 induction pr with
 | nil=>exact .nil
 | cons r _ ih=>
  obtain ⟨t,u1,u2,rfl,q,w1,w2⟩:=r;exact .cons (.inr (.inr ⟨t,_,_,rfl,rfl,SqT.of q,.cons (kH 1 w1) (.cons (kH 1 w2) .nil)⟩)) ih
theorem iK {H:Hp} {p:Addr} {ls:List (List Nat)} (n:Nat) (e:H p=some (.lst (ls.map tx))):Deep K H (n+1) (.ref p) (.l (ls.map fun d=>.f (tx d))):=by
 refine .inr (.inl ⟨p,_,_,rfl,rfl,SqL.of e,?_⟩);clear e
 induction ls with
 | nil=>exact .nil
 | cons x l ih=>exact .cons (bI n rfl) ih
def NetL (N:Net):Prop:=N.2.1.length<=100/\∀ x ∈ N.2.1,x.2.1.length<=100
theorem NetB.l {N:Net} (h:NetB N):NetL N:=⟨Nat.le_trans h.h4 (by decide),fun x hx=>Nat.le_trans (h.house x hx).g3 (by decide)⟩
noncomputable def eO (K:Frag):Sp:=az fun q=>aM fun H Q _=>∃ h:House,HouseAt H q h/\h.1.length<=100/\∀ p H',H p=none->Same H H'->H' p=some (.lst ((h.1.map (·.1)).map tx))->Q (.ref p) H'
theorem nQ (T:Top K mg):Callee P w K mg base 1 "house_doors" ["house"] (eO K):=by
 refine T.jq.cal mm (by unfold eO; exact LenSp.h) (fun _ _ _ _ _ _ us hl=>match us,hl with | [_],_=>rfl) (fun f cdv A outer s H vs Q E hr h=>?_);unfold eO at h;walk_at "el";refine ⟨_,(ai (aC (aQ (nt:=2) (fi:=[]) (N':=["door", "rules"]) rfl (cscope rfl (by decide +kernel)) (cnames (N:=["house"]) (sc:=defScope dA) rfl rfl (by decide +kernel)) (dS (by decide) (by decide)) (iterE K rfl (aq (ixE K rfl) (qv 0) ae (fun _ _=>rfl))) (fun _ _ _ _ _=>(tupE K rfl rfl (n:=2) (ar (ak (i:=0) (by show (["door", "rules"]:List Str).Nodup; decide +kernel) rfl lc) (ar (ak (i:=1) (by show (["door", "rules"]:List Str).Nodup; decide +kernel) rfl lc) bn)))) (fun _ _ _ _ _=>aU) (fun _ _ _ _ _=>(qv 0))))),?_⟩;rename_i q;obtain ⟨h,⟨g,w,e,⟨gv,eg,pg⟩,_⟩,hl,q'⟩:=h;have hgl:=pg.length;obtain ⟨z1,z2⟩:=bi pg;walk_at "rd";refine ⟨_,V.ref g,.inr (SqT.of e),rfl,?_⟩;walk_at "rd";refine .inl ⟨⟨_,SqL.of eg⟩,fun D hD=>?_⟩;refine bv (item:=fun x:Gate × V=>x.2) (xs:=h.1.zip gv) (h:=fun x=>[tx x.1.1]) hD (by rw [z1]; exact SqL.of eg) (by rw [List.length_zip]; lia) (fun _=>by simp) ?_ ?_
 ·intro x H6 out non hx s6 ho _;obtain ⟨tg,r,ex,etg,_⟩:=z2 x hx;rw [ex];refine ⟨tg,[_,_],rfl,SqT.of (s6 _ _ etg),rfl,_,[_],rfl,_,[],rfl,rfl,?_⟩;walk_at "rd";exact ho _ _ rfl (Same.refl _)
 intro H6 s6 e6;rw [show (h.1.zip gv).flatMap (fun x=>[tx x.1.1])=(h.1.map (·.1)).map tx by
  rw [dj (fun x:Gate × V=>tx x.1.1)]
  conv=>rhs; rw [<- dt (l:=h.1) (m:=gv) hgl,List.map_map,List.map_map]
  rfl] at e6
 exact q' D H6 hD s6 e6
noncomputable def gI (K:Frag):Sp:=az fun q=>aM fun H Q _=>∃ N:Net,NetAt H q N/\NetL N/\∀ p H',Same H H'->Deep K H' 4 (.ref p) (doorsD (doorsOf N.2.1))->Q (.ref p) H'
theorem jP (T:Top K mg):Callee P w K mg base 2 "net_doors" ["net"] (gI K):=by
 refine T.lN.cal pY (by unfold gI; exact LenSp.h) (fun _ _ _ _ _ _ us hl=>match us,hl with | [_],_=>rfl) (fun f cdv A outer s H vs Q E hr h=>?_);unfold gI at h;walk_at "el";refine ⟨_,(ai (aC (aQ (nt:=2) (fi:=[]) (N':=["name", "house"]) rfl (cscope rfl (by decide +kernel)) (cnames (N:=["net"]) (sc:=defScope fz) rfl rfl (by decide +kernel)) (dS (by decide) (by decide)) (iterE K rfl (aq (ixE K rfl) (qv 0) ae (fun _ _=>rfl))) (fun _ _ _ _ _=>(tupE K rfl rfl (n:=2) (ar (ak (i:=0) (by show (["name", "house"]:List Str).Nodup; decide +kernel) rfl lc) (ar (ak (i:=1) (by show (["name", "house"]:List Str).Nodup; decide +kernel) rfl lc) bn)))) (fun _ _ _ _ _=>aU) (fun _ _ _ _ _=>(aA (aa (qv 0) (aa (aw (nQ T) hr.m rfl (aa (qv 1) ad)) ad))))))),?_⟩;rename_i q;obtain ⟨N,⟨la,ha,ca,et,hL,⟨hv,eh,ph⟩,hC⟩,nb,q'⟩:=h;have hhl:=ph.length;have h4:=nb.1;obtain ⟨z1,z2⟩:=bi ph;walk_at "rd";refine ⟨_,V.ref ha,.inr (SqT.of et),rfl,?_⟩;walk_at "rd";refine .inl ⟨⟨_,SqL.of eh⟩,fun D hD=>?_⟩;refine kX (N.2.1.zip hv) (fun x v H'=>∃ t l,v=.ref t/\l≠D/\H' t=some (.tup [tx x.1.1,.ref l])/\H' l=some (.lst ((x.1.2.1.map (·.1)).map tx))) hD (by rw [List.length_zip]; lia) (fun i H1 hi s2=>⟨hv,hv[i]'(by rw [List.length_zip] at hi; lia),SqL.of (s2 _ _ eh),List.getElem?_eq_getElem _⟩) (fun H1 s2=>⟨hv,SqL.of (s2 _ _ eh),by rw [List.length_zip]; lia⟩) ?_ ?_ ?_ ?_
 ·rintro i H1 v H2 _ ⟨rfl,_⟩;exact Same.refl _
 ·rintro x v H1 H2 acc hd k ⟨t,l,rfl,nl,e1,e2⟩;exact ⟨t,l,rfl,nl,k _ _ (fun y=>by rw [y,hd] at e1; cases e1) e1,k _ _ nl e2⟩
 ·rintro i x v H1 H2 out non hx s2 nD ⟨rfl,a1⟩ ho;obtain ⟨y1,y2⟩:=List.getElem?_zip_eq_some.mp hx;have y3:=a1 hv (SqL.of (s2 _ _ eh));rw [y2] at y3;have y4:=Option.some.inj y3;obtain ⟨t,q2,ex,e1,hHq⟩:=z2 x (List.mem_of_getElem? hx);have g3:=nb.2 x.1 (List.of_mem_zip (List.mem_of_getElem? hx)).1;rw [<- y4,ex];refine ⟨t,[_,_],rfl,SqT.of (s2 _ _ e1),rfl,_,[_],rfl,_,[],rfl,rfl,?_⟩;walk_at "rd";refine ⟨x.1.2,hHq.same s2,by lia,fun l H3 hl s3 e3=>⟨by decide,fun t2 ht2=>?_⟩⟩;have s4:=ah ht2 (.tup [tx x.1.1,V.ref l]);exact ho _ _ (s3.trans s4) ⟨t2,l,rfl,nD l hl,upd_same,s4 _ _ e3⟩
 intro H1 vs s1 e1 p1;refine q' D H1 s1 (.inr (.inl ⟨D,vs,_,rfl,rfl,SqL.of e1,?_⟩));have hz:(N.2.1.zip hv).map Prod.fst=N.2.1:=dt hhl;have p2:Paired (fun (x:Named) v=>∃ t l,v=.ref t/\l≠D/\H1 t=some (.tup [tx x.1,.ref l])/\H1 l=some (.lst ((x.2.1.map (·.1)).map tx))) N.2.1 vs:=by
  rw [<- hz];exact cS p1
 clear p1 e1 hz;unfold doorsOf;rw [List.map_map];generalize N.2.1=hs at p2
 induction p2 with
 | nil=>exact .nil
 | cons r _ ih=>
  obtain ⟨t,l,rfl,_,h1,h2⟩:=r;exact .cons (.inr (.inr ⟨t,_,_,rfl,rfl,SqT.of h1,.cons (bI 2 rfl) (.cons (iK 1 h2) .nil)⟩)) ih
theorem uY {H H':Hp} {a:Addr} {xs:List V} (e:Same H H') (h:SqT K H a xs):SqT K H' a xs:=by
 rcases h with (h | ⟨o,h⟩) | h
 ·exact .inl (.inl (e _ _ h))
 ·exact .inl (.inr ⟨o,e _ _ h⟩)
 ·exact .inr h
theorem jz {H H':Hp} (s:Same H H'):∀ (n:Nat) (v:V) (d:D),Deep K H n v d->Deep K H' n v d
 | 0,_,_,h=>h
 | n+1,v,d,h=>by
  rcases h with h | ⟨a,vs,ds,e1,e2,h,p⟩ | ⟨a,vs,ds,e1,e2,h,p⟩
  ·exact .inl h
  ·exact .inr (.inl ⟨a,vs,ds,e1,e2,Same.seq s h,L2.Paired.mapP p fun _ _ z=>jz s n _ _ z⟩)
  ·exact .inr (.inr ⟨a,vs,ds,e1,e2,uY s h,L2.Paired.mapP p fun _ _ z=>jz s n _ _ z⟩)
def Like (N M:Net):Prop:=N.1=M.1/\N.2.2=M.2.2/\doorsOf N.2.1=doorsOf M.2.1
noncomputable def cF (K:Frag):Sp:=az fun p=>az fun q=>aM fun H Q E=>∃ N M:Net,NetAt H p N/\NetAt H q M/\NetL N/\NetL M/\(Like N M->∀ H',Same H H'->Q .non H')/\(¬ Like N M->∀ H',Same H H'->E (.ref (xA K "Unlike")) none H')
theorem ja (T:Top K mg):CalleeX P w K mg base 3 "check_changeable" ["one", "other"] (cF K):=by
 refine T.fm.calX je (by unfold cF; exact LenSp.h) (fun _ _ _ _ _ _ us hl=>match us,hl with | [_,_],_=>rfl) (fun f cdv A outer s H vs Q E hr h=>?_);unfold cF at h;walk_at "el";refine ⟨_,(af (bU (aF (neDE K rfl hr) (aq (ixE K rfl) (qv 0) ae (fun _ _=>rfl)) (aq (ixE K rfl) (qv 1) ae (fun _ _=>rfl))) (ai (iI rfl gr rfl T.cL.1 T.cL.2 (aa (qs [116,104,101,32,108,97,121,111,117,116,115,32,97,114,101,32,110,111,116,32,101,113,117,97,108]) ad))) aO)
   (af (bU (aF (neDE K rfl hr) (aq (ixE K rfl) (qv 0) ae (fun _ _=>rfl)) (aq (ixE K rfl) (qv 1) ae (fun _ _=>rfl))) (ai (iI rfl gr rfl T.cL.1 T.cL.2 (aa (qs [116,104,101,32,108,105,110,101,115,32,97,114,101,32,110,111,116,32,101,113,117,97,108]) ad))) aO)
   (ai (bU (aF (neDE K rfl hr) (aw (jP T) hr.m rfl (aa (qv 0) ad)) (aw (jP T) hr.m rfl (aa (qv 1) ad))) (ai (iI rfl gr rfl T.cL.1 T.cL.2 (aa (qs [116,104,101,32,104,111,117,115,101,115,32,111,114,32,116,104,101,105,114,32,100,111,111,114,115,32,97,114,101,32,110,111,116,32,116,104,101,32,115,97,109,101]) ad))) aO)))),?_⟩
 rename_i p q;obtain ⟨N,M,hN,hM,nb,mb,q1,q2⟩:=h;obtain ⟨la,ha,ca,et,hL,hH,hC⟩:=id hN;obtain ⟨la',ha',ca',et',hL',hH',hC'⟩:=id hM;walk_at "rd";refine ⟨_,V.ref la,.inr (SqT.of et),rfl,_,V.ref la',.inr (SqT.of et'),rfl,4,_,_,by decide,pC hL,pC hL',?_⟩;rw [Br];by_cases g1:N.1=M.1
 ·rw [decide_eq_true g1];walk_at "rd";refine ⟨_,V.ref ca,.inr (SqT.of et),rfl,_,V.ref ca',.inr (SqT.of et'),rfl,4,_,_,by decide,lu hC,lu hC',?_⟩;rw [xD];by_cases g2:N.2.2=M.2.2
  ·rw [decide_eq_true g2];walk_at "rd";refine ⟨N,hN,nb,fun d1 H1 s1 D1=>⟨M,hM.same s1,mb,fun d2 H2 s2 D2=>⟨4,_,_,by decide,jz s2 4 _ _ D1,D2,?_⟩⟩⟩;rw [wc];by_cases g3:doorsOf N.2.1=doorsOf M.2.1
   ·rw [decide_eq_true g3];walk_at "rd";exact q1 ⟨g1,g2,g3⟩ H2 (s1.trans s2)
   ·rw [decide_eq_false g3];walk_at "rd";exact ⟨by decide,q2 (fun z=>g3 z.2.2) H2 (s1.trans s2)⟩
  ·rw [decide_eq_false g2];walk_at "rd";exact ⟨by decide,q2 (fun z=>g2 z.2.1) H (Same.refl _)⟩
 ·rw [decide_eq_false g1];walk_at "rd";exact ⟨by decide,q2 (fun z=>g1 z.1) H (Same.refl _)⟩
theorem kJ {α:Type} {f:α -> D} {H:Hp} {n:Nat} {p:Addr} {xs:List α} {vs:List V} (e:H p=some (.lst vs)) (h:Paired (fun x v=>Deep K H n v (f x)) xs vs):Deep K H (n+1) (.ref p) (.l (xs.map f)):=by
 refine .inr (.inl ⟨p,vs,_,rfl,rfl,SqL.of e,?_⟩);clear e
 induction h with
 | nil=>exact .nil
 | cons r _ ih=>exact .cons r ih
noncomputable def gateD (g:Gate):D:=.t [.f (tx g.1),.l (g.2.map ruleD)]
noncomputable def houseD (h:House):D:=.t [.l (h.1.map gateD),.l (h.2.map wayD)]
noncomputable def namedD (x:Named):D:=.t [.f (tx x.1),houseD x.2]
theorem tD {H:Hp} {x:Rule} {v:V} (h:RuleAt H x v):Deep K H 1 v (ruleD x):=by
 obtain ⟨t,rfl,q⟩:=h;exact .inr (.inr ⟨t,_,_,rfl,rfl,SqT.of q,.cons (bI 0 rfl) (.cons (bI 0 rfl) (.cons (bI 0 rfl) .nil))⟩)
theorem sP {H:Hp} {x:Gate} {v:V} (h:GateAt H x v):Deep K H 3 v (gateD x):=by
 obtain ⟨t,r,rfl,q,⟨vs,e,p⟩⟩:=h;exact .inr (.inr ⟨t,_,_,rfl,rfl,SqT.of q,.cons (bI 2 rfl) (.cons (kJ e (L2.Paired.mapP p fun _ _ z=>tD z)) .nil)⟩)
theorem lz {H:Hp} {x:Named} {v:V} (h:NamedAt H x v):Deep K H 6 v (namedD x):=by
 obtain ⟨t,q,rfl,e,⟨g,w,e1,⟨gv,eg,pg⟩,⟨wv,ew,pw⟩⟩⟩:=h;exact .inr (.inr ⟨t,_,_,rfl,rfl,SqT.of e,.cons (bI 5 rfl) (.cons (.inr (.inr ⟨q,_,_,rfl,rfl,SqT.of e1,.cons (kJ eg (L2.Paired.mapP pg fun _ _ z=>sP z)) (.cons (kJ ew (L2.Paired.mapP pw fun _ _ z=>kH 2 z)) .nil)⟩)) .nil)⟩)
theorem uA:∀ (ls:List Fld) (n:List Nat) (Z s:Nat),(ls.map (·.1)).Nodup->(n,Z) ∈ ls->∃ a,spanF ls n s=some (a,a+Z)/\a+Z<=s+widthL ls
 | [],_,_,_,_,h=>by cases h
 | (f,z)::r,n,Z,s,nd,h=>by
  rw [List.map_cons,List.nodup_cons] at nd;have e:widthL ((f,z)::r)=z+widthL r:=by simp [widthL]
  rcases List.mem_cons.mp h with h | h
  ·cases h;exact ⟨s,by rw [spanF,if_pos rfl],by lia⟩
  ·have hn:f≠n:=fun y=>nd.1 (List.mem_map.mpr ⟨_,h,y.symm⟩)
   obtain ⟨a,h1,h2⟩:=uA r n Z (s+z) nd.2 h;exact ⟨a,by rw [spanF,if_neg hn]; exact h1,by lia⟩
theorem Bn {N:Net} (nb:NetB N) (ng:NetG N) {x:Named} (hx:x ∈ N.2.1) {d:List Nat} {rs:List Rule} (h:gateOf x.2.1 d=some rs):∃ a b,GateI N.1 rs x.2.2 a b:=by
 obtain ⟨Z,lo,hi,hto,hZ,hh,hW,hP⟩:=ng;obtain ⟨a,h1,h2⟩:=uA N.1 toT Z 0 nb.lay.nd hto;obtain ⟨g,hg,_,rfl⟩:=nu h;obtain ⟨p1,p2⟩:=hP x hx;have hb:=nb.house x hx;have r3:=hb.rl g hg;have f4:=nb.lay.few;have w5:=hb.w5;exact ⟨a,a+Z,by lia,by lia,h1,by lia,fun r hr=>(p1 g hg r hr).1,by lia,vZ hh (fun r hr=>by
  obtain ⟨y,hy,rfl⟩:=List.mem_map.mp hr;exact (p1 g hg y hy).1) (fun r hr=>by
  obtain ⟨y,hy,rfl⟩:=List.mem_map.mp hr;exact (p1 g hg y hy).2.2.2),fun y hy=>⟨by have:=p2 y hy; lia,by have:=p2 y hy; lia⟩,by lia⟩
noncomputable def keyP (x:Way):List Key:=[.inr (st x.1),.inr (st x.2)]
noncomputable def gC (K:Frag):Sp:=az fun p=>aM fun H Q _=>∃ N:Net,NetAt H p N/\N.2.2.length<=500/\∀ d H',Same H H'->Q (.ref d) H'
theorem qh (T:Top K mg):Callee P w K mg base 1 "line_ends" ["net"] (gC K):=by
 refine T.lL.cal dW (by unfold gC; exact LenSp.h) (fun _ _ _ _ _ _ us hl=>match us,hl with | [_],_=>rfl) (fun f cdv A outer s H vs Q E hr h=>?_);unfold gC at h;walk_at "el";refine ⟨_,(af (au (i:=1) dW.nd rfl lc j5)
   (af (cu PassesOwn.never rfl (iterE K rfl (aq (ixE K rfl) (qv 0) ae (fun _ _=>rfl))) (tupE K rfl rfl (n:=2) (ar (ak (i:=2) dW.nd rfl lc) (ar (ak (i:=3) dW.nd rfl lc) bn))) (af (jU (iE hr) (qv 1) (qv 2) (qv 3))
   (ai (jU (iE hr) (qv 1) (qv 3) (qv 2)))))
   (ai (aC (qv 1))))),?_⟩
 rename_i p;obtain ⟨⟨ls,hs,lns⟩,⟨pa,pb,pc,eN,_,_,⟨vs,e0,pr⟩⟩,hn,q⟩:=h;dsimp only at pr hn;have hl:=pr.length;walk_at "rd";intro d hd;have s1:=ah hd (.dT []);refine ⟨_,_,.inr (SqT.of (s1 _ _ eN)),rfl,?_⟩;walk_at "rd";refine .inl ⟨⟨_,SqL.of (s1 _ _ e0)⟩,?_⟩;refine cC (xs:=vs) (fun i σ H'=>∃ u v kvs,σ = [some (.ref p),some (.ref d),u,v]/\Same H H'/\H' d=some (.dT kvs)/\kvs.length<=2*i) ⟨none,none,[],rfl,s1,upd_same,Nat.le_refl _⟩ (fun i σ H' _ ⟨_,_,_,_,z,_⟩=>SqL.of (z _ _ e0)) ?_ ?_
 ·rintro i x σ H1 hx ⟨u,v,kvs,rfl,s2,ed,hk⟩;have hi:i < vs.length:=(List.getElem?_eq_some_iff.mp hx).1;have hil:i < lns.length:=by lia
  obtain ⟨y,hy,t,u1,u2,ey,et,⟨t1,rfl,h1⟩,⟨t2,rfl,h2⟩⟩:=aH pr (List.getElem?_eq_getElem hil);obtain rfl:x=.ref t:=by rw [hy] at hx; rw [<- Option.some.inj hx,ey]
  refine ⟨t,[_,_],rfl,SqT.of (s2 _ _ et),rfl,_,[_],rfl,_,[],rfl,rfl,?_⟩;walk_at "rd";have h2':upd H1 d (.dT (putK kvs (keyP lns[i].1) (.ref t2))) t2=some (.tup ((keyP lns[i].2).map kV)):=by
   have z:=s2 _ _ h2;rw [ao (fun y=>by rw [y,ed] at z; cases z)];exact z
  have lp1:=b6 kvs (keyP lns[i].1) (.ref t2);have lp2:=b6 (putK kvs (keyP lns[i].1) (.ref t2)) (keyP lns[i].2) (.ref t1);exact ⟨_,DPut.t (k:=keyP lns[i].1) ed (s2 _ _ h1) (sizeBig (by lia)),_,DPut.t (k:=keyP lns[i].2) upd_same h2' (sizeBig (by lia)),_,_,_,rfl,aE (aE s2 hd) hd,upd_same,by lia⟩
 ·rintro σ H1 ⟨u,v,kvs,rfl,s2,ed,hk⟩;walk_at "rd";exact q d H1 s2
noncomputable def mixH (hs ks:List Named) (nm:List (List Nat)):List Named:=(hs.zip ks).map fun p=>if p.2.1 ∈ nm then p.2 else p.1
noncomputable def mixN (N M:Net) (nm:List (List Nat)):Net:=(N.1,mixH N.2.1 M.2.1 nm,N.2.2)
theorem pO {α β γ:Type} {f:α × α -> γ}:∀ {l m:List α} {u v:List β},l.length=u.length->m.length=v.length->((l.zip u).zip (m.zip v)).map (fun x=>f (x.1.1,x.2.1))=(l.zip m).map f
 | [],_,_,_,_,_=>by rw [List.zip_nil_left,List.zip_nil_left,List.zip_nil_left]; rfl
 | _::_,[],_,_,_,_=>by rw [List.zip_nil_left,List.zip_nil_right,List.zip_nil_right]; rfl
 | _::_,_::_,[],_,h,_=>by cases h
 | _::_,_::_,_::_,[],_,h=>by cases h
 | a::l,b::m,c::u,d::v,h,k=>by
  rw [List.zip_cons_cons,List.zip_cons_cons,List.zip_cons_cons,List.zip_cons_cons,List.map_cons,List.map_cons,pO (by simpa using h) (by simpa using k)]
noncomputable def iD (K:Frag):Sp:=az fun p=>az fun q=>az fun l=>aM fun H Q _=>∃ (N M:Net) (nm:List (List Nat)),NetAt H p N/\NetAt H q M/\NetB N/\NetB M/\N.2.1.length=M.2.1.length/\H l=some (.tup (nm.map tx))/\∀ t H',Same H H'->NetAt H' t (mixN N M nm)->Q (.ref t) H'
theorem rX (T:Top K mg):Callee P w K mg base 1 "mixed_by" ["one", "other", "names"] (iD K):=by
 refine T.nU.cal rP (by unfold iD; exact LenSp.h) (fun _ _ _ _ _ _ us hl=>match us,hl with | [_,_,_],_=>rfl) (fun f cdv A outer s H vs Q E hr h=>?_);unfold iD at h;walk_at "el";refine ⟨_,(ai (aC (aA (aa (aq (ixE K rfl) (qv 0) ae (fun _ _=>rfl)) (aa (aQ (nt:=2) (fi:=[2]) (N':=["mine", "its", "names"]) rfl (cscope rfl (by decide +kernel)) (cnames (N:=["one", "other", "names"]) (sc:=defScope gA) rfl rfl (by decide +kernel)) (dS (by decide) (by decide)) (zipE K rfl rfl T.uH (aq (ixE K rfl) (qv 0) ae (fun _ _=>rfl)) (aq (ixE K rfl) (qv 1) ae (fun _ _=>rfl))) (fun _ _ _ _ _=>(tupE K rfl rfl (n:=2) (ar (ak (i:=0) (by show (["mine", "its", "names"]:List Str).Nodup; decide +kernel) rfl lc) (ar (ak (i:=1) (by show (["mine", "its", "names"]:List Str).Nodup; decide +kernel) rfl lc) bn)))) (fun _ _ _ _ _=>aU) (fun _ _ _ _ _=>(eQ (aF (inE K rfl) (aq (ixE K rfl) (qv 1) ae (fun _ _=>rfl)) (qv 2)) (qv 1) (qv 0)))) (aa (aq (ixE K rfl) (qv 0) ae (fun _ _=>rfl)) ad)))))),?_⟩;rename_i p q l;obtain ⟨N,M,nm,hN,hM,nb,mb,hlen,el,q'⟩:=h;obtain ⟨la,ha,ca,et,hL,⟨hv,eh,ph⟩,hC⟩:=id hN;obtain ⟨la',ha',ca',et',hL',⟨hv',eh',ph'⟩,hC'⟩:=id hM;have hhl:=ph.length;have hhl':=ph'.length;have h4:=nb.h4;have z2:=(bi ph).2;have z2':=(bi ph').2;walk_at "rd";refine ⟨_,V.ref la,.inr (SqT.of et),rfl,_,V.ref ha,.inr (SqT.of et),rfl,_,V.ref ha',.inr (SqT.of et'),rfl,⟨⟨_,SqL.of eh⟩,⟨_,SqL.of eh'⟩,fun D hD=>?_⟩⟩;refine kX ((N.2.1.zip hv).zip (M.2.1.zip hv')) (fun x v _=>v=if x.2.1.1 ∈ nm then x.2.2 else x.1.2) hD (by simp only [List.length_zip]; lia) ?_ ?_ ?_ ?_ ?_ ?_
 ·intro i H1 hi s1;simp only [List.length_zip] at hi;exact ⟨⟨hv,hv[i]'(by lia),SqL.of (s1 _ _ eh),List.getElem?_eq_getElem _⟩,⟨hv',hv'[i]'(by lia),SqL.of (s1 _ _ eh'),List.getElem?_eq_getElem _⟩⟩
 ·intro H1 s1;exact .inl ⟨hv,SqL.of (s1 _ _ eh),by simp only [List.length_zip]; lia⟩
 ·rintro i H1 v H2 _ ⟨T,x,y,rfl,hT,rfl,_⟩;exact ah hT _
 ·intro x v H1 H2 acc _ _ h;exact h
 ·rintro i x v H1 H2 out non hx s1 nD ⟨T,u,w,rfl,hT,rfl,a1,a2⟩ ho;obtain ⟨y1,y2⟩:=List.getElem?_zip_eq_some.mp hx;obtain ⟨m1,m2⟩:=List.getElem?_zip_eq_some.mp y1;obtain ⟨m3,m4⟩:=List.getElem?_zip_eq_some.mp y2;have b1:=a1 hv (SqL.of (s1 _ _ eh));have b2:=a2 hv' (SqL.of (s1 _ _ eh'));rw [m2] at b1;rw [m4] at b2
  replace b1:=Option.some.inj b1
  replace b2:=Option.some.inj b2
  subst b1 b2;obtain ⟨t,q2,ex,e1,_⟩:=z2' x.2 (List.mem_of_getElem? y2);rw [ex] at ho ⊢;have sT:=ah hT (.tup [x.1.2,.ref t]);refine ⟨T,[_,_],rfl,SqT.of upd_same,rfl,_,[_],rfl,_,[],rfl,rfl,?_⟩;walk_at "rd";refine ⟨_,_,.inr (SqT.of (sT _ _ (s1 _ _ e1))),rfl,nm.map tx,.inr (SqT.of (sT _ _ (s1 _ _ el))),rfl,jY nm,?_⟩;rw [pZ];by_cases g:x.2.1.1 ∈ nm
  ·rw [if_pos (decide_eq_true g)];exact ho _ _ (Same.refl _) (by rw [if_pos g])
  ·rw [if_neg (by rw [decide_eq_true_eq]; exact g)];exact ho _ _ (Same.refl _) (by rw [if_neg g])
 intro H1 vs s1 e1 p1;refine ⟨_,V.ref ca,.inr (SqT.of (s1 _ _ et)),rfl,by decide,fun t ht=>?_⟩;have s2:=ah ht (.tup [.ref la,.ref D,.ref ca]);refine q' t _ (s1.trans s2) ⟨la,D,ca,upd_same,hL.same (s1.trans s2),⟨vs,s2 _ _ e1,?_⟩,hC.same (s1.trans s2)⟩;have ss:=s1.trans s2;clear e1;generalize hxs:(N.2.1.zip hv).zip (M.2.1.zip hv')=xs at p1;have hm:mixH N.2.1 M.2.1 nm=xs.map fun x=>if x.2.1.1 ∈ nm then x.2.1 else x.1.1:=by
  rw [<- hxs];exact (pO (f:=fun p:Named × Named=>if p.2.1 ∈ nm then p.2 else p.1) hhl hhl').symm
 have hall:∀ x ∈ xs,NamedAt H x.1.1 x.1.2/\NamedAt H x.2.1 x.2.2:=by
  intro x hx;rw [<- hxs] at hx;exact ⟨z2 _ (List.of_mem_zip hx).1,z2' _ (List.of_mem_zip hx).2⟩
 show Paired _ (mixH N.2.1 M.2.1 nm) vs;rw [hm];clear hm hxs
 induction p1 with
 | nil=>exact .nil
 | @cons x v xs vs r _ ih=>
  refine .cons ?_ (ih fun x hx=>hall x (List.mem_cons_of_mem _ hx));obtain ⟨⟨t1,q1,a1,a2,a3⟩,⟨t3,q3,c1,c2,c3⟩⟩:=hall x List.mem_cons_self;rw [r];by_cases g:x.2.1.1 ∈ nm
  ·rw [if_pos g,show (fun x:(Named × V) × Named × V=>if x.2.1.1 ∈ nm then x.2.1 else x.1.1) x=x.2.1 from if_pos g];exact ⟨t3,q3,c1,ss _ _ c2,c3.same ss⟩
  ·rw [if_neg g,show (fun x:(Named × V) × Named × V=>if x.2.1.1 ∈ nm then x.2.1 else x.1.1) x=x.1.1 from if_neg g];exact ⟨t1,q1,a1,ss _ _ a2,a3.same ss⟩
theorem vS {N M:Net} (e:M.2.1.map (·.1)=N.2.1.map (·.1)) (nm:List (List Nat)):(mixN N M nm).2.1.map (·.1)=N.2.1.map (·.1):=by
 unfold mixN mixH;dsimp only;generalize N.2.1=hs at e ⊢;generalize M.2.1=ks at e
 induction hs generalizing ks with
 | nil=>simp
 | cons x hs ih=>
  cases ks with
  | nil=>cases e
  | cons y ks=>
   rw [List.map_cons,List.map_cons,List.cons.injEq] at e;rw [List.zip_cons_cons,List.map_cons,List.map_cons,List.map_cons,ih ks e.2];congr 1;split
   ·exact e.1
   ·rfl
theorem mZ {H:Hp}:∀ {hs:List Named} {vs:List V},Paired (NamedAt H) hs vs->∃ kvs:List (Key × V),kvs.map (·.1)=hs.map (fun x=>Sum.inr (st x.1))/\Paired (fun (kv:Key × V) v=>∃ t,v=.ref t/\H t=some (.tup [kV kv.1,kv.2])) kvs vs
 | _,_,.nil=>⟨[],rfl,.nil⟩
 | x::hs,v::vs,.cons r p=>by
  obtain ⟨kvs,h1,h2⟩:=mZ p;obtain ⟨t,q,e,et,_⟩:=r;exact ⟨(.inr (st x.1),.ref q)::kvs,by rw [List.map_cons,List.map_cons,h1],.cons ⟨t,e,et⟩ h2⟩
noncomputable abbrev clsC (K:Frag):Addr:=xA K "Crowd"
noncomputable def cQ (K:Frag):Sp:=az fun ca=>az fun p=>az fun g=>jj fun b=>aM fun H Q _=>∃ (G:Hp) (dx:Addr) (N:Net),Same G H/\G ca=none/\H ca=some (.ins (clsC K) dx [])/\NetAt G p N/\N.2.1.length<=100/\(N.2.1.map (·.1)).Nodup/\N.2.2.length<=500/\∀ H',Same G H'->Q .non H'
theorem jF (T:Top K mg):KCalD P w K mg base 2 "Crowd" ["self", "net", "gates", "by_rules"] [Value.bool false] (cQ K):=by
 refine T.fK.cal jH (by unfold cQ; exact LenSp.h) (fun _ _ _ _ _ _ _ us hl=>(fun (hl:us.length=3)=>match us,hl with | [_,_,_],_=>⟨_,rfl,rfl⟩) (by simpa using hl)) (fun f cdv A outer s H vs Q E hr h=>?_);unfold cQ at h;walk_at "el";refine ⟨_,(af (b7 (qv 0) (aq (ixE K rfl) (qv 1) ae (fun _ _=>rfl)) rfl)
   (af (b7 (qv 0) (i4 (tJ rfl) rfl T.yf za (aa (aq (ixE K rfl) (qv 1) ae (fun _ _=>rfl)) ad)) rfl)
   (af (b7 (qv 0) (aw (qh T) hr.m rfl (aa (qv 1) ad)) rfl)
   (af (b7 (qv 0) (qv 2) rfl)
   (af (b7 (qv 0) (qv 3) rfl)
   (af (b7 (qv 0) mG rfl)
   (ai (b7 (qv 0) mG rfl)))))))),?_⟩
 rename_i ca p g b;obtain ⟨G,dx,N,sG,hca,ec,hN,h1,h2,h3,q⟩:=h;obtain ⟨la,ha,ca2,et,hL,⟨hv,eh,ph⟩,hC⟩:=id hN;walk_at "rd";refine ⟨_,V.ref la,.inr (SqT.of (sG _ _ et)),rfl,ca,_,dx,[],rfl,ec,T.c_Crowd.c,T.a_Crowd_layout,by decide,?_⟩;refine cb H _ sG hca fun H1 s1 e1=>?_
 refine ⟨_,V.ref ha,.inr (SqT.of (s1 _ _ et)),rfl,?_⟩;obtain ⟨kvs,k1,k2⟩:=mZ ph;have kl:=k2.length;have hl:=ph.length;refine ⟨hv,kvs,s1 _ _ eh,by lia,?_,Paired.mapP k2 fun _ _ ⟨t,e,z⟩=>⟨t,e,s1 _ _ z⟩,fun d hd=>?_⟩
 ·rw [k1];refine List.pairwise_map.mpr ((List.pairwise_map.mp h2).imp fun {a b} z e=>z ?_);have:st a.1=st b.1:=by injection e
  exact qD.mp this
 refine cy H1 _ hd fun H2 s12 _=>?_
 have s2:=s1.trans s12;have e2:=s12 _ _ e1;refine ⟨ca,_,dx,_,rfl,e2,T.c_Crowd.c,T.a_Crowd_houses,by show 1 < 1000; decide,?_⟩;refine cb H2 _ s2 hca fun H3 s3 e3=>?_
 refine ⟨N,hN.same s3,h3,fun d2 H4 s4=>?_⟩;have s04:=s3.trans s4;have e4:=s4 _ _ e3;clear s3 s4;refine ⟨ca,_,dx,_,rfl,e4,T.c_Crowd.c,T.a_Crowd_ends,by show 2 < 1000; decide,?_⟩;refine cb H4 _ s04 hca fun H5 s5 e5=>⟨ca,_,dx,_,rfl,e5,T.c_Crowd.c,T.a_Crowd_gates,by show 3 < 1000; decide,?_⟩
 refine cb H5 _ s5 hca fun H6 s6 e6=>⟨ca,_,dx,_,rfl,e6,T.c_Crowd.c,T.a_Crowd_by_rules,by show 4 < 1000; decide,?_⟩
 refine cb H6 _ s6 hca fun H7 s7 e7 d5 hd5=>?_
 refine cy H7 _ hd5 fun H8 s8 _=>⟨ca,_,dx,_,rfl,s8 _ _ e7,T.c_Crowd.c,T.a_Crowd_shares,by show 5 < 1000; decide,?_⟩
 refine cb H8 _ (s7.trans s8) hca fun H9 s9 e9 d6 hd6=>?_
 refine cy H9 _ hd6 fun H10 s10 _=>⟨ca,_,dx,_,rfl,s10 _ _ e9,T.c_Crowd.c,T.a_Crowd_known,by show 6 < 1000; decide,q _ (aE (s9.trans s10) hca)⟩
def KeysOk (kvs:List (List Key × V)) (S:List Way):Prop:=(∀ k,valV kvs k≠none->∃ x ∈ S,k=keyP x)/\∀ x ∈ S,∃ a,valV kvs (keyP x)=some (.ref a)
theorem KeysOk.put {kvs:List (List Key × V)} {S:List Way} (h:KeysOk kvs S) (x:Way) (a:Addr):KeysOk (putK kvs (keyP x) (.ref a)) (S++[x]):=by
 refine ⟨fun k hk=>?_,fun y hy=>?_⟩
 ·rw [jQ] at hk;by_cases e:k=keyP x
  ·exact ⟨x,by simp,e⟩
  ·rw [if_neg e] at hk;obtain ⟨y,hy,e⟩:=h.1 k hk;exact ⟨y,by simp [hy],e⟩
 ·rw [jQ];by_cases e:keyP y=keyP x
  ·exact ⟨a,if_pos e⟩
  ·rw [if_neg e];rcases List.mem_append.mp hy with hy | hy
   ·exact h.2 y hy
   ·exact absurd (by rw [List.mem_singleton.mp hy]) e
theorem rE {gs:List Gate} {g:Gate} (h:g ∈ gs):∃ rs,gateOf gs g.1=some rs:=by
 unfold gateOf;have:(gs.find? fun x=>decide (x.1=g.1)).isSome=true:=List.find?_isSome.mpr ⟨g,h,decide_eq_true rfl⟩;obtain ⟨x,hx⟩:=Option.isSome_iff_exists.mp this;exact ⟨x.2,by rw [hx]; rfl⟩
noncomputable def gU (K:Frag):Sp:=az fun p=>aM fun H Q E=>∃ (N:Net) (c TT:Addr),NetAt H p N/\NetB N/\NetG N/\PySem.W.tabIn K "longest_first" = some (c,TT)/\H TT=some (.tbl #[])/\∀ d ob kvs H',Same H H'->H' d=some (.frz ob (.dT kvs))->kvs.length<=100->KeysOk kvs (spotsOf N.2.1)->Q (.ref d) H'
theorem j6 (T:Top K mg):CalleeX P w K mg base 23 "net_gates" ["net"] (gU K):=by
 refine T.lH.calX cA (by unfold gU; exact LenSp.h) (fun _ _ _ _ _ _ us hl=>match us,hl with | [_],_=>rfl) (fun f cdv A outer s H vs Q E hr h=>?_);unfold gU at h;walk_at "el";refine ⟨_,(af (au (i:=1) cA.nd rfl lc j5)
   (af (cu PassesOwn.leaving rfl (iterE K rfl (aq (ixE K rfl) (qv 0) ae (fun _ _=>rfl))) (tupE K rfl rfl (n:=2) (ar (ak (i:=2) cA.nd rfl lc) (ar (ak (i:=3) cA.nd rfl lc) bn))) (ai (cu PassesOwn.leaving rfl (iterE K rfl (aq (ixE K rfl) (qv 3) ae (fun _ _=>rfl))) (tupE K rfl rfl (n:=2) (ar (ak (i:=4) cA.nd rfl lc) (ar (ak (i:=5) cA.nd rfl lc) bn))) (ai (jU (iE hr) (qv 1) (aA (aa (qv 2) (aa (qv 4) ad))) (xW T.c_Gate (jO T) hr.m dg rfl (aa (aq (ixE K rfl) (qv 0) ae (fun _ _=>rfl)) (aa (qv 3) (aa (qv 4) ad)))))))))
   (ai (zd (qv 1))))),?_⟩
 rename_i p;obtain ⟨N,c,TT,hN,nb,ng,ht,hT,q⟩:=h;obtain ⟨la,ha,ca,et,hL,⟨hv,eh,ph⟩,hC⟩:=id hN;have hl:=ph.length;have h4:=nb.h4;walk_at "rd";intro d hd;have s1:=ah hd (.dT []);refine ⟨_,V.ref ha,.inr (SqT.of (s1 _ _ et)),rfl,?_⟩;walk_at "rd";refine .inl ⟨⟨_,SqL.of (s1 _ _ eh)⟩,?_⟩;refine cC (xs:=hv) (fun i σ H'=>∃ u2 u3 u4 u5 kvs,σ = [some (.ref p),some (.ref d),u2,u3,u4,u5]/\Same H H'/\H' d=some (.dT kvs)/\kvs.length<=3*i/\KeysOk kvs (spotsOf (N.2.1.take i))) ⟨none,none,none,none,[],rfl,s1,upd_same,Nat.le_refl _,fun k hk=>absurd rfl hk,fun x hx=>by cases hx⟩ (fun i σ H' _ ⟨_,_,_,_,_,_,z,_⟩=>SqL.of (z _ _ eh)) ?_ ?_
 ·rintro i x σ H1 hx ⟨u2,u3,u4,u5,kvs,rfl,s2,ed,hk,KO⟩;have hi:i < hv.length:=(List.getElem?_eq_some_iff.mp hx).1;have hil:i < N.2.1.length:=by lia
  have hxm:N.2.1[i] ∈ N.2.1:=List.getElem_mem hil;obtain ⟨y,hy,t,hq,ey,e1,hH⟩:=aH ph (List.getElem?_eq_getElem hil);obtain rfl:x=.ref t:=by rw [hy] at hx; rw [<- Option.some.inj hx,ey]
  obtain ⟨g,w,eq,⟨gv,eg,pg⟩,hw⟩:=id hH;have gl:=pg.length;have g3:=(nb.house _ hxm).g3;refine ⟨t,[_,_],rfl,SqT.of (s2 _ _ e1),rfl,_,[_],rfl,_,[],rfl,rfl,?_⟩;walk_at "rd";refine ⟨_,V.ref g,.inr (SqT.of (s2 _ _ eq)),rfl,?_⟩;walk_at "rd";refine .inl ⟨⟨_,SqL.of (s2 _ _ eg)⟩,?_⟩;have KO0:KeysOk kvs (spotsOf (N.2.1.take i)++(N.2.1[i].2.1.take 0).map fun g=>(N.2.1[i].1,g.1)):=by simpa using KO
  refine cC (xs:=gv) (fun j σ H'=>∃ u4 u5 kvs,σ = [some (.ref p),some (.ref d),some (tx N.2.1[i].1),some (.ref hq),u4,u5]/\Same H H'/\H' d=some (.dT kvs)/\kvs.length<=3*i+j/\KeysOk kvs (spotsOf (N.2.1.take i)++(N.2.1[i].2.1.take j).map fun g=>(N.2.1[i].1,g.1))) ⟨u4,u5,kvs,rfl,s2,ed,hk,KO0⟩ (fun j σ H' _ ⟨_,_,_,_,z,_⟩=>SqL.of (z _ _ eg)) ?_ ?_
  ·rintro j x2 σ H2 hx2 ⟨u4,u5,kv2,rfl,s3,ed3,hk3,KO3⟩;have hj:j < gv.length:=(List.getElem?_eq_some_iff.mp hx2).1;have hjl:j < N.2.1[i].2.1.length:=by lia
   obtain ⟨y2,hy2,t2,r2,ey2,e2,hR⟩:=aH pg (List.getElem?_eq_getElem hjl);obtain rfl:x2=.ref t2:=by rw [hy2] at hx2; rw [<- Option.some.inj hx2,ey2]
   refine ⟨t2,[_,_],rfl,SqT.of (s3 _ _ e2),rfl,_,[_],rfl,_,[],rfl,rfl,?_⟩;walk_at "rd";refine ⟨_,V.ref la,.inr (SqT.of (s3 _ _ et)),rfl,fun ga dx hga hdx hne=>?_⟩;obtain ⟨rs,hrs⟩:=rE (List.getElem_mem hjl);obtain ⟨a,b,I⟩:=Bn nb ng hxm hrs;have s4:Same H2 (upd (upd H2 dx (.own ga)) ga (.ins (clsG K) dx [])):=(ah hdx _).trans (ah (by rw [ao (Ne.symm hne)]; exact hga) _);refine ⟨H2,dx,c,TT,a,b,N.1,N.2.1[i].2,rs,s4,hga,upd_same,hL.same s3,hH.same s3,ht,s3 _ _ hT,hrs,I,fun H3 s5=>⟨rfl,by decide,fun k hk2=>?_⟩⟩;have s6:=s5.trans (ah hk2 (.tup [tx N.2.1[i].1,tx N.2.1[i].2.1[j].1]));have lp:=b6 kv2 (keyP (N.2.1[i].1,N.2.1[i].2.1[j].1)) (.ref ga);refine ⟨_,DPut.t (k:=keyP (N.2.1[i].1,N.2.1[i].2.1[j].1)) (s6 _ _ ed3) upd_same (sizeBig (by lia)),_,_,_,rfl,aE (s3.trans s6) hd,upd_same,by lia,?_⟩;rw [List.take_add_one,List.getElem?_eq_getElem hjl,List.map_append,<- List.append_assoc];exact KO3.put _ ga
  ·rintro σ H2 ⟨u4,u5,kv2,rfl,s3,ed3,hk3,KO3⟩;refine ⟨_,_,_,_,kv2,rfl,s3,ed3,by lia,?_⟩;rw [<- gl,List.take_length] at KO3;rw [List.take_add_one,List.getElem?_eq_getElem hil,Option.toList_some];unfold spotsOf at KO3 ⊢;rw [List.flatMap_append,List.flatMap_singleton];exact KO3
 ·rintro σ H1 ⟨u2,u3,u4,u5,kvs,rfl,s2,ed,hk,KO⟩;walk_at "rd";rw [<- hl,List.take_length] at KO;exact ⟨kvs,ed,fun ob=>q d ob kvs _ (aE s2 hd) upd_same (by lia) KO⟩
noncomputable def dJ (K:Frag):Sp:=oQ fun c=>az fun dm=>aM fun H Q _=>H dm=some (.lst [])/\Q .non H
theorem lQ (T:Top K mg):Callee P w K mg base 1 "first_broken" ["crowd", "demands"] (dJ K):=by
 refine T.iP.cal cN (by unfold dJ; exact LenSp.h) (fun _ _ _ _ _ _ us hl=>match us,hl with | [_,_],_=>rfl) (fun f cdv A outer s H vs Q E hr h=>?_);unfold dJ at h;walk_at "el";refine ⟨_,(af (cu PassesOwn.never rfl (rq K rfl rfl T.iQ (qv 1)) (tupE K rfl rfl (n:=2) (ar (ak (i:=2) cN.nd rfl lc) (ar (ak (i:=3) cN.nd rfl lc) bn))) (af (au (i:=4) cN.nd rfl lc Aa)
   (ai (bU (aF iZ (qv 4) gO) (ai (aC (aA (aa (qv 2) (aa (qv 4) ad))))) aO))))
   (ai (aC gO))),?_⟩
 rename_i c dm;obtain ⟨e,q⟩:=h;walk_at "rd";refine ⟨⟨_,SqL.of e⟩,tG (xs:=[]) (fun i σ H'=>σ = [some c,some (.ref dm),none,none,none]/\H'=H) ⟨rfl,rfl⟩ (fun i σ H' _ z=>by rw [z.2]; exact SqL.of e) (fun i x σ H' T hx=>by simp at hx) ?_⟩;rintro σ H' ⟨rfl,rfl⟩;walk_at "rd";exact q
noncomputable abbrev clsT (K:Frag):Addr:=xA K "Turner"
noncomputable abbrev tFs (p q dm ul g1 g2 J bl:Addr):List (Str × V):=putF "blocks" (.ref bl) (putF "judged" (.ref J) (putF "other_gates" (.ref g2) (putF "one_gates" (.ref g1) (putF "unlike" (.ref ul) (putF "demands" (.ref dm) (putF "other" (.ref q) (putF "one" (.ref p) [])))))))
def GatesAt (G:Hp) (g:Addr) (S:List Way):Prop:=∃ ob kvs,G g=some (.frz ob (.dT kvs))/\kvs.length<=100/\KeysOk kvs S
structure TurnAt (K:Frag) (G:Hp) (t J dx p q dm ul g1 g2 bl:Addr) (N M:Net) (U:List (List Nat)):Prop where
 self:G t=some (.ins (clsT K) dx (tFs p q dm ul g1 g2 J bl))
 one:NetAt G p N
 other:NetAt G q M
 dem:G dm=some (.lst [])
 unl:G ul=some (.lst (U.map tx))
 ga:GatesAt G g1 (spotsOf N.2.1)
 gb:GatesAt G g2 (spotsOf M.2.1)
theorem GatesAt.same {G H:Hp} {g:Addr} {S:List Way} (h:GatesAt G g S) (s:Same G H):GatesAt H g S:=by
 obtain ⟨ob,kvs,e,r⟩:=h;exact ⟨ob,kvs,s _ _ e,r⟩
theorem TurnAt.same {G H:Hp} {t J dx p q dm ul g1 g2 bl:Addr} {N M:Net} {U:List (List Nat)} (h:TurnAt K G t J dx p q dm ul g1 g2 bl N M U) (s:Same G H):TurnAt K H t J dx p q dm ul g1 g2 bl N M U:=
 ⟨s _ _ h.self,h.one.same s,h.other.same s,s _ _ h.dem,s _ _ h.unl,h.ga.same s,h.gb.same s⟩
theorem rZ (hs:List Named):spotsOf hs=(doorsOf hs).flatMap fun x=>x.2.map fun d=>(x.1,d):=by
 unfold spotsOf doorsOf;rw [List.flatMap_map];simp only [List.map_map];rfl
theorem lj (hs:List Named):hs.map (·.1)=(doorsOf hs).map (·.1):=by
 unfold doorsOf;rw [List.map_map];rfl
noncomputable def cH (K:Frag):Sp:=az fun t=>az fun l=>aM fun H Q _=>∃ (J dx p q dm ul g1 g2 bl:Addr) (N M:Net) (U nm:List (List Nat)),TurnAt K H t J dx p q dm ul g1 g2 bl N M U/\NetB N/\NetB M/\Alike N M/\H l=some (.tup (nm.map tx))/\∀ c H',Same H H'->Q (.ref c) H'
theorem jd (T:Top K mg):MCal P w K mg base 4 "Turner" "crowd_of" ["self", "names"] (cH K):=by
 refine T.fj.cal cD (by unfold cH; exact LenSp.h) (fun _ _ _ _ _ _ us hl=>match us,hl with | [_,_],_=>rfl) (fun f cdv A outer s H vs Q E hr h=>?_);unfold cH at h;walk_at "el";refine ⟨_,(af (au (i:=2) cD.nd rfl lc j5)
   (af (cu PassesOwn.never rfl (zm (cG (qv 0) rfl)) (ak (i:=3) cD.nd rfl lc) (ai (jU (iE hr) (qv 2) (qv 3) (eQ (aF (inE K rfl) (aq (ixE K rfl) (qv 3) ae (fun _ _=>rfl)) (qv 1)) (ma (iE hr) (cG (qv 0) rfl) (qv 3) (fun _ _=>rfl)) (ma (iE hr) (cG (qv 0) rfl) (qv 3) (fun _ _=>rfl))))))
   (ai (aC (Ak (dvs:=[V.bl false]) T.c_Crowd (jF T) (.cons rfl .nil) hr.m rfl (aa (aw (rX T) hr.m rfl (aa (cG (qv 0) rfl) (aa (cG (qv 0) rfl) (aa (qv 1) ad)))) (aa (qv 2) ad))))))),?_⟩
 rename_i t l;obtain ⟨J,dx,p,q,dm,ul,g1,g2,bl,N,M,U,nm,A,nb,mb,al,el,k⟩:=h;obtain ⟨o1,kv1,f1,l1,K1⟩:=A.ga;obtain ⟨o2,kv2,f2,l2,K2⟩:=A.gb;walk_at "rd";intro d hd;have s1:=ah hd (.dT []);refine ⟨t,_,dx,_,_,rfl,s1 _ _ A.self,T.c_Turner.c,T.a_Turner_one_gates,rfl,o1,kv1,s1 _ _ f1,?_⟩;refine vM (fun i σ H'=>∃ u kvs,σ = [some (.ref t),some (.ref l),some (.ref d),u]/\Same H H'/\H' d=some (.dT kvs)/\kvs.length<=i) ⟨none,[],rfl,s1,upd_same,Nat.le_refl _⟩ (fun i σ H' _ ⟨_,_,_,z,_⟩=>z _ _ f1) ?_ ?_
 ·rintro i kv σ H1 Tt hkv ⟨u,kvs,rfl,s2,ed,hk⟩ hT;have hi:i < kv1.length:=(List.getElem?_eq_some_iff.mp hkv).1;have hin:valV kv1 kv.1≠none:=fun z=>x5 z (List.mem_map.mpr ⟨kv,List.mem_of_getElem? hkv,rfl⟩)
  obtain ⟨x,hx,ex⟩:=K1.1 _ hin;obtain ⟨a1,b1⟩:=K1.2 x hx;have hx2:x ∈ spotsOf M.2.1:=by
   rw [rZ] at hx ⊢;rw [al.doors];exact hx
  obtain ⟨a2,b2⟩:=K2.2 x hx2;rw [ex] at hT;have hT':H1 Tt=some (.tup [tx x.1,tx x.2]):=hT;walk_at "rd";refine ⟨_,_,.inr (SqT.of hT'),rfl,nm.map tx,.inr (SqT.of (s2 _ _ el)),rfl,jY nm,?_⟩;rw [pZ];have pt:∀ a,∃ H',DPut H1 d (.ref Tt) (.ref a) H'/\∃ u kvs,[some (V.ref t),some (.ref l),some (.ref d),some (.ref Tt)]=[some (.ref t),some (.ref l),some (.ref d),u]/\Same H H'/\H' d=some (.dT kvs)/\kvs.length<=i+1:=fun a=>by
   have lp:=b6 kvs (keyP x) (.ref a);exact ⟨_,DPut.t (k:=keyP x) ed hT (sizeBig (by lia)),_,_,rfl,aE s2 hd,upd_same,by lia⟩
  by_cases g:x.1 ∈ nm
  ·rw [if_pos (decide_eq_true g)];exact ⟨t,_,dx,_,_,rfl,s2 _ _ A.self,T.c_Turner.c,T.a_Turner_other_gates,rfl,.ref a2,.inr ⟨kv2,keyP x,Tt,.inr ⟨o2,s2 _ _ f2⟩,rfl,hT,b2.symm⟩,pt a2⟩
  ·rw [if_neg (by rw [decide_eq_true_eq]; exact g)];exact ⟨t,_,dx,_,_,rfl,s2 _ _ A.self,T.c_Turner.c,T.a_Turner_one_gates,rfl,.ref a1,.inr ⟨kv1,keyP x,Tt,.inr ⟨o1,s2 _ _ f1⟩,rfl,hT,b1.symm⟩,pt a1⟩
 ·rintro σ H1 ⟨u,kvs,rfl,s2,ed,hk⟩;walk_at "rd";have hd1:=al.doors;have hlen:N.2.1.length=M.2.1.length:=by
   have:=congrArg List.length hd1;unfold doorsOf at this;simpa using this.symm
  have hnm:M.2.1.map (·.1)=N.2.1.map (·.1):=by rw [lj,lj,hd1]
  have hmx:=vS hnm nm;have hml:=congrArg List.length hmx;rw [List.length_map,List.length_map] at hml;have h4:=nb.h4;have h6:=nb.l6;refine ⟨t,_,dx,_,_,rfl,s2 _ _ A.self,T.c_Turner.c,T.a_Turner_one,rfl,t,_,dx,_,_,rfl,s2 _ _ A.self,T.c_Turner.c,T.a_Turner_other,rfl,N,M,nm,A.one.same s2,A.other.same s2,nb,mb,hlen,s2 _ _ el,fun tt H2 s3 hM ca dc hca hdc hne=>?_⟩;have s4:Same H2 (upd (upd H2 dc (.own ca)) ca (.ins (clsC K) dc [])):=(ah hdc _).trans (ah (by rw [ao (Ne.symm hne)]; exact hca) _);exact ⟨H2,dc,mixN N M nm,s4,hca,upd_same,hM,by lia,by rw [hmx]; exact nb.nd,Nat.le_trans h6 (by decide),fun H3 s5=>⟨rfl,k _ _ (s2.trans (s3.trans s5))⟩⟩
noncomputable def nmK (nm:List (List Nat)):List Key:=nm.map fun x=>.inr (st x)
theorem Ac (nm:List (List Nat)):(nmK nm).map kV=nm.map tx:=by
 unfold nmK;rw [List.map_map];rfl
noncomputable def cx (K:Frag):Sp:=az fun t=>az fun l=>aM fun H Q _=>∃ (J dx p q dm ul g1 g2 bl:Addr) (N M:Net) (U nm:List (List Nat)) (kvs:List (List Key × V)),TurnAt K (hole J H) t J dx p q dm ul g1 g2 bl N M U/\NetB N/\NetB M/\Alike N M/\H l=some (.tup (nm.map tx))/\H J=some (.dT kvs)/\kvs.length<=1000/\valV kvs (nmK nm)=none/\∀ H',Same (hole J H) H'->H' J=some (.dT (putK kvs (nmK nm) .non))->Q .non H'
theorem iN (T:Top K mg):MCal P w K mg base 5 "Turner" "broken_by" ["self", "names"] (cx K):=by
 refine T.dQ.cal iL (by unfold cx; exact LenSp.h) (fun _ _ _ _ _ _ us hl=>match us,hl with | [_,_],_=>rfl) (fun f cdv A outer s H vs Q E hr h=>?_);unfold cx at h;walk_at "el";refine ⟨_,(cX (bU (vq (iE hr) (qv 1) (cG (qv 0) rfl)) (ai (jU (iE hr) (cG (qv 0) rfl) (qv 1) (aw (lQ T) hr.m rfl (aa (lZ T.c_Turner (jd T) hr.m (qv 0) (aa (qv 1) ad)) (aa (cG (qv 0) rfl) ad))))) aO)
   (ai (aC (ma (iE hr) (cG (qv 0) rfl) (qv 1) (fun _ _=>rfl))))),?_⟩
 rename_i t l;obtain ⟨J,dx,p,q,dm,ul,g1,g2,bl,N,M,U,nm,kvs,A,nb,mb,al,el,eJ,hk,hv,k⟩:=h;have A0:=A.same aJ;have el':H l=some (.tup ((nmK nm).map kV)):=by rw [Ac]; exact el
 have nJ:J≠l:=fun z=>by rw [<- z,eJ] at el; cases el
 walk_at "rd";have el2:hole J H l=some (.tup ((nmK nm).map kV)):=by rw [bf (Ne.symm nJ)]; exact el'
 refine ⟨fun σ' H'=>σ'=[some (.ref t),some (.ref l)]/\Same (hole J H) H'/\H' J=some (.dT (putK kvs (nmK nm) .non)),⟨t,_,dx,_,_,rfl,A0.self,T.c_Turner.c,T.a_Turner_judged,rfl,_,DGet.t (k:=nmK nm) eJ el',?_⟩,?_⟩
 ·rw [hv,if_pos (show (none:Option V).isSome=false from rfl)];refine ⟨t,dx,_,rfl,A0.self,rfl,J,dx,p,q,dm,ul,g1,g2,bl,N,M,U,nm,A0,nb,mb,al,el,fun c H1 s1=>?_⟩;exact ⟨t,_,dx,_,_,rfl,s1 _ _ A0.self,T.c_Turner.c,T.a_Turner_demands,rfl,s1 _ _ A0.dem,t,_,dx,_,_,rfl,s1 _ _ A0.self,T.c_Turner.c,T.a_Turner_judged,rfl,_,DPut.t (k:=nmK nm) (s1 _ _ eJ) (s1 _ _ el') (sizeBig (by lia)),rfl,aE (aJ.trans s1) bo,upd_same⟩
 ·rintro σ' H' ⟨rfl,s1,e1⟩;have d1:=DGet.t (k:=nmK nm) e1 (s1 _ _ el2);rw [jQ,if_pos rfl] at d1;exact ⟨t,_,dx,_,_,rfl,s1 _ _ A.self,T.c_Turner.c,T.a_Turner_judged,rfl,.non,d1,k H' s1 e1⟩
theorem oZ (l:List (List Nat)):(srt l).Nodup:=List.Pairwise.imp (S:=fun a b=>a≠b) (fun {a b} (h:a < b) (e:a=b)=>ug b (e ▸ h)) (gz l)
theorem w8 {l:List (List Nat)} (nd:l.Nodup):(srt l).Perm l:=(List.perm_ext_iff_of_nodup (oZ l) nd).mpr fun x=>fB
theorem uj {l:List (List Nat)} (nd:l.Nodup):(srt l).length=l.length:=(w8 nd).length_eq
theorem wJ {l m:List (List Nat)} (h:∀ x,x ∈ l ↔ x ∈ m):srt l=srt m:=iG _ _ (gz l) (gz m) fun x=>by rw [fB,fB]; exact h x
theorem rQ {U:List (List Nat)} {k:Nat} (h:k < U.length):U.take (k+1)=U.take k++[U[k]]:=by
 rw [List.take_add_one,List.getElem?_eq_getElem h];rfl
theorem uP {U:List (List Nat)} (nd:U.Nodup) (k:Nat):(U.flatMap fun x=>if x ∈ srt (U.take k) then [] else [tx x])=(U.drop k).map tx:=by
 have e:∀ (A B:List (List Nat)),(A++B).Nodup->((A++B).flatMap fun x=>if x ∈ srt A then [] else [tx x])=B.map tx:=by
  intro A B h;obtain ⟨_,_,h3⟩:=List.nodup_append.mp h;rw [List.flatMap_append];have h1:(A.flatMap fun x=>if x ∈ srt A then [] else [tx x])=[]:=List.flatMap_eq_nil_iff.mpr fun x hx=>if_pos (fB.mpr hx)
  have h2:∀ (C:List (List Nat)),(∀ x ∈ C,x ∉ A)->(C.flatMap fun x=>if x ∈ srt A then [] else [tx x])=C.map tx:=by
   intro C
   induction C with
   | nil=>intro _; rfl
   | cons x C ih=>
    intro hC;rw [List.flatMap_cons,if_neg (fun z=>hC x List.mem_cons_self (fB.mp z)),ih fun y hy=>hC y (List.mem_cons_of_mem _ hy)];rfl
  rw [h1,h2 B fun x hx hA=>h3 x hA x hx rfl];rfl
 have:=e (U.take k) (U.drop k) (by rw [List.take_append_drop]; exact nd)
 rwa [List.take_append_drop] at this
theorem yn {H:Hp} {a b:Addr} {xs ys:List V} {Q:VK} (h1:H a=some (.tup xs)) (h2:H b=some (.tup ys)) (hy:ys≠[]) (hl:xs.length+ys.length<=1000) (k:∀ r H',Same H H'->H' r=some (.tup (xs++ys))->Q (.ref r) H'):kCatU K (.ref a) (.ref b) H Q:=
 ⟨xs,ys,SqT.of h1,SqT.of h2,hy,hl,fun e=>k b H (Same.refl _) (by rw [e,List.nil_append]; exact h2),fun _ p hp=>k p _ (ah hp _) upd_same⟩
noncomputable def gi (K:Frag) (m:Nat):Sp:=az fun t=>az fun l=>aM fun H Q _=>∃ (J dx p q dm ul g1 g2 bl:Addr) (N M:Net) (U:List (List Nat)) (k:Nat) (kvs:List (List Key × V)),TurnAt K (hole J H) t J dx p q dm ul g1 g2 bl N M U/\NetB N/\NetB M/\Alike N M/\U.Nodup/\U.length<=10/\k<=U.length/\U.length < k+m/\H l=some (.tup ((srt (U.take k)).map tx))/\H J=some (.dT kvs)/\kvs.length<=k/\(∀ y,valV kvs y≠none->y.length<=k)/\∀ r H',Same (hole J H) H'->H' r=some (.lst ((U.drop k).map tx))->Q (.ref r) H'
theorem vO (T:Top K mg):∀ m:Nat,MCal P w K mg base (m+6) "Turner" "order_behind" ["self", "names"] (gi K m):=by
 intro m
 induction m with
 | zero=>
  refine T.cf.cal aI (by unfold gi; exact LenSp.h) (fun _ _ _ _ _ _ us hl=>match us,hl with | [_,_],_=>rfl) (fun f cdv A outer s H vs Q E hr h=>?_);unfold gi at h;walk_at "el";obtain ⟨J,dx,p,q,dm,ul,g1,g2,bl,N,M,U,k,kvs,_,_,_,_,_,_,h1,h2,_⟩:=h;exact absurd h2 (by lia)
 | succ m ih=>
  refine T.cf.cal aI (by unfold gi; exact LenSp.h) (fun _ _ _ _ _ _ us hl=>match us,hl with | [_,_],_=>rfl) (fun f cdv A outer s H vs Q E hr h=>?_);unfold gi at h;walk_at "el";refine ⟨_,(af (bU (aF dM (aB (lenE K rfl) rfl T.bZ bD (aa (qv 1) ad)) (aB (lenE K rfl) rfl T.bZ bD (aa (cG (qv 0) rfl) ad))) (ai (aC (aL ad))) aO)
   (af (cu PassesOwn.never rfl (iterE K rfl (aQ (nt:=1) (fi:=[1]) (N':=["its", "names"]) rfl (cscope rfl (by decide +kernel)) (cnames (N:=["self", "names", "name", "after", "is_new", "broken", "order"]) (sc:=defScope aK) rfl rfl (by decide +kernel)) (aT (by decide)) (iterE K rfl (cG (qv 0) rfl)) (fun _ _ _ _ _=>(ak (i:=0) (by show (["its", "names"]:List Str).Nodup; decide +kernel) rfl lc)) (fun _ _ _ _ _=>(d4 (aF (notinE K rfl) (qv 0) (qv 1)))) (fun _ _ _ _ _=>(qv 0)))) (ak (i:=2) aI.nd rfl lc) (af (au (i:=3) aI.nd rfl lc (i4 (vP K rfl) rfl T.qO rn (aa (aB (gD K rfl) rfl T.iU iX (aa (am (yJ K rfl) (qv 1) (aA (aa (qv 2) ad))) ad)) ad)))
   (af (au (i:=4) aI.nd rfl lc (vG (iE hr) (qv 3) (cG (qv 0) rfl)))
   (af (au (i:=5) aI.nd rfl lc (lZ T.c_Turner (iN T) hr.m (qv 0) (aa (qv 3) ad)))
   (ai (bU (aF iZ (qv 5) gO) (ai (bj (ba (cG (qv 0) rfl) (am aj (aA (aa (i4 (nN K rfl rfl) rfl T.kZ lY (aa (qv 1) ad)) (aa (qv 2) ad))) (qv 5))))) (ai (bU (im (qv 4)) (af (au (i:=6) aI.nd rfl lc (lZ T.c_Turner ih hr.m (qv 0) (aa (qv 3) ad)))
   (ai (bU (aF iZ (qv 6) gO) (ai (aC (am aj (aL (aa (qv 2) ad)) (qv 6)))) aO))) aO))))))))
   (ai (aC gO)))),?_⟩
  rename_i t l;obtain ⟨J,dx,p,q,dm,ul,g1,g2,bl,N,M,U,k,kvs,A,nb,mb,al,nd,h10,hk,hm,el,eJ,hkl,hky,qq⟩:=h;have A0:=A.same aJ;walk_at "rd";have ndk:(U.take k).Nodup:=nd.sublist (List.take_sublist _ _);have lk:(srt (U.take k)).length=k:=by rw [uj ndk,List.length_take]; lia
  refine ⟨_,.inr (SqT.of el),t,_,dx,_,_,rfl,A0.self,T.c_Turner.c,T.a_Turner_unlike,rfl,?_⟩;walk_at "rd";refine ⟨_,.inl (SqL.of A0.unl),?_⟩;walk_at "rd";rw [List.length_map,List.length_map,lk];refine ite2 (fun g=>⟨by decide,fun p hp=>qq p _ (aJ.trans (ah hp _)) ?_⟩) fun g=>?_
  ·rw [List.drop_of_length_le (by lia)];exact upd_same
  have hlt:k < U.length:=by lia
  refine ⟨t,_,dx,_,_,rfl,A0.self,T.c_Turner.c,T.a_Turner_unlike,rfl,.inl ⟨⟨_,SqL.of A0.unl⟩,fun D hD=>?_⟩⟩;refine bv (item:=tx) (xs:=U) (h:=fun x=>if x ∈ srt (U.take k) then [] else [tx x]) hD (SqL.of A0.unl) (by lia) (fun x=>by split <;> simp) ?_ ?_
  ·intro x H6 out non hx s6 ho hno;walk_at "rd";refine ⟨_,.inr (SqT.of (s6 _ _ el)),rfl,jY _,?_⟩;rw [pZ];by_cases g:x ∈ srt (U.take k)
   ·rw [decide_eq_true g,if_neg (by decide)];exact hno _ (if_pos g) (Same.refl _)
   ·rw [decide_eq_false g,if_pos rfl];exact ho _ _ (if_neg g) (Same.refl _)
  intro H1 s1 e1;rw [uP nd] at e1;walk_at "rd";refine .inl ⟨⟨_,SqL.of e1⟩,?_⟩;refine cC (xs:=(U.drop k).map tx) (fun i σ H'=>i=0/\σ = [some (.ref t),some (.ref l),none,none,none,none,none]/\H'=H1) ⟨rfl,rfl,rfl⟩ (fun i σ H' _ z=>by rw [z.2.2]; exact SqL.of e1) ?_ ?_
  ·rintro i x σ H' hx ⟨rfl,rfl,rfl⟩;obtain rfl:x=tx U[k]:=by
    rw [List.getElem?_map,List.getElem?_drop,Nat.add_zero,List.getElem?_eq_getElem hlt] at hx;exact (Option.some.inj hx).symm
   walk_at "rd";have nin:U[k] ∉ U.take k:=fun z=>by
    have:=rQ hlt ▸ (nd.sublist (List.take_sublist (k+1) U));exact (List.nodup_append.mp this).2.2 _ z _ (by simp) rfl
   have es:srt (srt (U.take k)++[U[k]])=srt (U.take (k+1)):=wJ fun x=>by rw [rQ hlt,List.mem_append,List.mem_append,fB]
   have nd1:(U.take (k+1)).Nodup:=nd.sublist (List.take_sublist _ _);have l1:(srt (U.take (k+1))).length=k+1:=by rw [uj nd1,List.length_take]; lia
   refine ⟨by decide,fun p1 hp1=>?_⟩;refine cy H' _ hp1 fun H2 s2 e2=>yn (s2 _ _ (s1 _ _ el)) e2 (by simp) (by simp; lia) fun r H3 s3 e3=>?_
   walk_at "rd";refine ⟨srt (U.take k)++[U[k]],.inr (SqT.of (by rw [List.map_append]; exact e3)),by simp; lia,uk (oZ _) (fun z=>nin (fB.mp z)),fun q1 hq1=>?_⟩;rw [es];refine cy H3 _ hq1 fun H4 s4 e4=>?_
   walk_at "rd";refine ⟨_,SqL.of e4,fun l2 hl2=>?_⟩;refine cy H4 _ hl2 fun H5 s5 e5=>?_
   have s05:Same H H5:=s1.trans (s2.trans (s3.trans (s4.trans s5)));have e5':H5 l2=some (.tup ((nmK (srt (U.take (k+1)))).map kV)):=by rw [Ac]; exact e5
   have eJ5:=s05 _ _ eJ;have lK:(nmK (srt (U.take (k+1)))).length=k+1:=by unfold nmK; rw [List.length_map,l1]
   have hv:valV kvs (nmK (srt (U.take (k+1))))=none:=Classical.byContradiction fun z=>by
    have:=hky _ z
    lia
   have nJ:l2≠J:=fun z=>by rw [z,eJ5] at e5; cases e5
   have A5:=A.same (aG (g:=J) s05);refine ⟨t,_,dx,_,_,rfl,s05 _ _ A0.self,T.c_Turner.c,T.a_Turner_judged,rfl,_,DGet.t (k:=nmK (srt (U.take (k+1)))) eJ5 e5',t,dx,_,rfl,s05 _ _ A0.self,rfl,J,dx,p,q,dm,ul,g1,g2,bl,N,M,U,srt (U.take (k+1)),kvs,A5,nb,mb,al,e5,eJ5,by lia,hv,fun H6 s6 e6=>?_⟩;rw [hv];refine Eq.mpr (if_pos rfl) ?_;rw [if_pos (show (none:Option V).isSome=false from rfl)];have e56:H6 l2=some (.tup ((srt (U.take (k+1))).map tx)):=s6 _ _ (by rw [bf nJ]; exact e5);have lp:=b6 kvs (nmK (srt (U.take (k+1)))) .non;refine ⟨t,dx,_,rfl,s6 _ _ A5.self,rfl,J,dx,p,q,dm,ul,g1,g2,bl,N,M,U,k+1,putK kvs (nmK (srt (U.take (k+1)))) .non,A5.same (br s6 bo),nb,mb,al,nd,h10,hlt,by lia,e56,e6,by lia,fun y hy=>?_,fun r H7 s7 e7=>?_⟩
   ·rw [jQ] at hy;by_cases z:y=nmK (srt (U.take (k+1)))
    ·rw [z,lK];exact Nat.le_refl _
    ·rw [if_neg z] at hy;exact Nat.le_succ_of_le (hky y hy)
   refine Eq.mpr (if_neg (fun z=>nomatch z)) ⟨by decide,fun p2 hp2=>?_⟩;refine cy H7 _ hp2 fun H8 s8 e8=>⟨_,_,e8,s8 _ _ e7,Nat.le_of_lt (sizeBig (by simp; lia)),fun p3 hp3=>qq p3 _ ?_ ?_⟩
   ·exact (aG s05).trans ((br s6 bo).trans (s7.trans (s8.trans (ah hp3 _))))
   ·rw [upd_same,List.drop_eq_getElem_cons hlt];rfl
  ·rintro σ H' ⟨h,_⟩;rw [List.length_map,List.length_drop] at h
   lia
theorem gn (T:Top K mg):MCal P w K mg base 14 "Turner" "order_behind" ["self", "names"] (gi K 8):=vO T 8
noncomputable def apart (p:Named × Named):Bool:=!eqD (namedD p.1) (namedD p.2)
noncomputable def unlikeL (N M:Net):List (List Nat):=((N.2.1.zip M.2.1).filter apart).map (·.1.1)
theorem vA {α:Type} {f:α -> V} {l:List α} {vs:List V} (h:Paired (fun x v=>v=f x) l vs):vs=l.map f:=by
 induction h with
 | nil=>rfl
 | cons r _ ih=>rw [r,ih]; rfl
theorem jE (N M:Net):(unlikeL N M).Sublist (N.2.1.map (·.1)):=by
 unfold unlikeL;refine ((List.filter_sublist).map (fun p:Named × Named=>p.1.1)).trans ?_;generalize N.2.1=l;generalize M.2.1=m
 induction l generalizing m with
 | nil=>simp
 | cons x l ih=>
  cases m with
  | nil=>simp
  | cons y m=>exact (ih m).cons₂ _
theorem lC {N M:Net} {vs:List V} (h:Paired (fun (p:Named × Named) v=>v=tx p.1.1) ((N.2.1.zip M.2.1).filter apart) vs):vs=(unlikeL N M).map tx:=by
 rw [vA h];unfold unlikeL;rw [List.map_map];rfl
theorem r6 {H:Hp} {x y:Named} {u v:V} {Q:VK} (h1:NamedAt H x u) (h2:NamedAt H y v) (k:Q (.bl (apart (x,y))) H):kEqD K true u v H Q:=by
 obtain ⟨t,q,rfl,e,r⟩:=id h1;obtain ⟨t',q',rfl,e',r'⟩:=id h2;exact ⟨6,_,_,by decide,lz h1,lz h2,by rw [Bool.true_xor]; exact k⟩
theorem NamedAt.same' {H H':Hp} {x:Named} {v:V} (h:NamedAt H x v) (s:Same H H'):NamedAt H' x v:=by
 obtain ⟨t,q,e,et,r⟩:=h;exact ⟨t,q,e,s _ _ et,r.same s⟩
theorem sI {H:Hp} {a b:Addr} {o:HO} (h:H a=none) (k:H b=some o):a≠b:=fun z=>by rw [z,k] at h; cases h
noncomputable def cE (K:Frag):Sp:=az fun ta=>az fun p=>az fun q=>az fun d0=>aM fun H Q E=>∃ (G:Hp) (dx c TT:Addr) (N M:Net),Same G H/\G ta=none/\H ta=some (.ins (clsT K) dx [])/\NetAt G p N/\NetAt G q M/\NetB N/\NetB M/\NetG N/\NetG M/\Alike N M/\G d0=some (.lst [])/\PySem.W.tabIn K "longest_first" = some (c,TT)/\G TT=some (.tbl #[]) /\
   ∀ H' J dm ul g1 g2 bl,Same G (hole J H')->TurnAt K (hole J H') ta J dx p q dm ul g1 g2 bl N M (unlikeL N M)->H' J=some (.dT [])->Q .non H'
theorem jf (T:Top K mg):KCalX P w K mg base 24 "Turner" ["self", "one", "other", "demands"] (cE K):=by
 refine T.fk.calX jb (by unfold cE; exact LenSp.h) (fun _ _ _ _ _ _ us hl=>match us,hl with | [_,_,_,_],_=>rfl) (fun f cdv A outer s H vs Q E hr h=>?_);unfold cE at h;walk_at "el";refine ⟨_,(af (b7 (qv 0) (qv 1) rfl)
   (af (b7 (qv 0) (qv 2) rfl)
   (af (b7 (qv 0) (aQ (nt:=1) (fi:=[]) (N':=["demand"]) rfl (cscope rfl (by decide +kernel)) (cnames (N:=["self", "one", "other", "demands"]) (sc:=defScope aP) rfl rfl (by decide +kernel)) (aT (by decide)) (iterE K rfl (qv 3)) (fun _ _ _ _ _=>(ak (i:=0) (by show (["demand"]:List Str).Nodup; decide +kernel) rfl lc)) (fun _ _ _ _ _=>aU) (fun _ _ _ _ _=>Aa)) rfl)
   (af (b7 (qv 0) (aQ (nt:=2) (fi:=[]) (N':=["mine", "its"]) rfl (cscope rfl (by decide +kernel)) (cnames (N:=["self", "one", "other", "demands"]) (sc:=defScope aP) rfl rfl (by decide +kernel)) (dS (by decide) (by decide)) (zipE K rfl rfl T.uH (aq (ixE K rfl) (qv 1) ae (fun _ _=>rfl)) (aq (ixE K rfl) (qv 2) ae (fun _ _=>rfl))) (fun _ _ _ _ _=>(tupE K rfl rfl (n:=2) (ar (ak (i:=0) (by show (["mine", "its"]:List Str).Nodup; decide +kernel) rfl lc) (ar (ak (i:=1) (by show (["mine", "its"]:List Str).Nodup; decide +kernel) rfl lc) bn)))) (fun _ _ _ _ _=>(d4 (aF (neDE K rfl hr) (qv 0) (qv 1)))) (fun _ _ _ _ _=>(aq (ixE K rfl) (qv 0) ae (fun _ _=>rfl)))) rfl)
   (af (b7 (qv 0) (nz (j6 T) hr.m dg rfl (aa (qv 1) ad)) rfl)
   (af (b7 (qv 0) (nz (j6 T) hr.m dg rfl (aa (qv 2) ad)) rfl)
   (af (b7 (qv 0) j5 rfl)
   (ai (b7 (qv 0) (aL ad) rfl))))))))),?_⟩
 rename_i ta p q d0;obtain ⟨G,dx,c,TT,N,M,sG,hta,et,hN,hM,nb,mb,ng,mg,al,e0,ht,hT,k⟩:=h;walk_at "rd";refine ⟨ta,_,dx,[],rfl,et,T.c_Turner.c,T.a_Turner_one,by decide,?_⟩;refine cb H _ sG hta fun H1 s1 e1=>⟨ta,_,dx,_,rfl,e1,T.c_Turner.c,T.a_Turner_other,by show 1 < 1000; decide,?_⟩
 refine cb H1 _ s1 hta fun H2 s2 e2=>?_
 refine .inl ⟨⟨_,SqL.of (s2 _ _ e0)⟩,fun dm hdm=>?_⟩;refine bv (item:=fun x:V=>x) (xs:=[]) (h:=fun _=>[]) hdm (SqL.of (s2 _ _ e0)) (by simp) (fun _=>by simp) (fun x H6 out non hx=>by cases hx) fun H3 s3 e3=>?_
 have e3t:=s3 _ _ e2;refine ⟨ta,_,dx,_,rfl,e3t,T.c_Turner.c,T.a_Turner_demands,by show 2 < 1000; decide,?_⟩;have n3:dm≠ta:=sI hdm e2;have g3:Same G (hole ta H3):=br (s2.trans s3) hta;have d3:hole ta H3 dm=some (.lst []):=by rw [bf n3]; exact e3
 refine cb (G:=hole ta H3) H3 _ aJ bo fun H4 s4 e4=>?_
 have s04:=g3.trans s4;obtain ⟨la,ha,ca,eN,_,⟨hv,eh,ph⟩,_⟩:=hN.same s04;obtain ⟨la',ha',ca',eM,_,⟨hv',eh',ph'⟩,_⟩:=hM.same s04;have hhl:=ph.length;have hhl':=ph'.length;have h4:=nb.h4;refine ⟨_,V.ref ha,.inr (SqT.of eN),rfl,_,V.ref ha',.inr (SqT.of eM),rfl,⟨⟨_,SqL.of eh⟩,⟨_,SqL.of eh'⟩,fun ul hul=>?_⟩⟩;refine iF (N.2.1.zip M.2.1) apart (fun p v _=>v=tx p.1.1) hul (by rw [List.length_zip]; lia) ?_ ?_ ?_ (fun _ _ _ _ _ _ _ h=>h) ?_ fun H5 vs s5 e5 p5=>?_
 ·intro i H1 hi s1;rw [List.length_zip] at hi;exact ⟨⟨hv,hv[i]'(by lia),SqL.of (s1 _ _ eh),List.getElem?_eq_getElem _⟩,⟨hv',hv'[i]'(by lia),SqL.of (s1 _ _ eh'),List.getElem?_eq_getElem _⟩⟩
 ·intro H1 s1;rw [List.length_zip];by_cases z:N.2.1.length<=M.2.1.length
  ·exact .inl ⟨hv,SqL.of (s1 _ _ eh),by lia⟩
  ·exact .inr ⟨⟨hv,hv[min N.2.1.length M.2.1.length]'(by lia),SqL.of (s1 _ _ eh),List.getElem?_eq_getElem _⟩,⟨hv',SqL.of (s1 _ _ eh'),by lia⟩⟩
 ·rintro i H1 v H2 _ ⟨Tt,x,y,rfl,hTt,rfl,_⟩;exact ah hTt _
 ·rintro i x v H1 H2 out non hx s5 ⟨Tt,u,w,rfl,hTt,rfl,a1,a2⟩ ho hno;obtain ⟨m1,m2⟩:=List.getElem?_zip_eq_some.mp hx;obtain ⟨u',hu',r1⟩:=aH ph m1;obtain ⟨w',hw',r2⟩:=aH ph' m2;have b1:=a1 hv (SqL.of (s5 _ _ eh));have b2:=a2 hv' (SqL.of (s5 _ _ eh'));rw [hu'] at b1;rw [hw'] at b2;cases b1;cases b2;have sT:=s5.trans (ah hTt (.tup [u,w]));refine ⟨Tt,[_,_],rfl,SqT.of upd_same,rfl,_,[_],rfl,_,[],rfl,rfl,?_⟩;walk_at "rd";refine r6 (r1.same' sT) (r2.same' sT) ?_;by_cases g:apart x=true
  ·obtain ⟨t1,q1,rfl,et1,_⟩:=r1;refine Eq.mpr (if_pos g) ?_;exact ⟨_,_,.inr (SqT.of (sT _ _ et1)),rfl,ho _ _ g (Same.refl _) rfl⟩
  ·refine Eq.mpr (if_neg g) (hno _ (by simpa using g) (Same.refl _))
 obtain rfl:=lC p5;have n5:ul≠ta:=sI hul e4;have g5:Same (hole ta H3) (hole ta H5):=br (s4.trans s5) bo;have d5:hole ta H5 ul=some (.lst ((unlikeL N M).map tx)):=by rw [bf n5]; exact e5
 refine ⟨ta,_,dx,_,rfl,s5 _ _ e4,T.c_Turner.c,T.a_Turner_unlike,by show 3 < 1000; decide,?_⟩;refine cb (G:=hole ta H5) H5 _ aJ bo fun H6 s6 e6=>?_
 have s06:=(g3.trans g5).trans s6;refine ⟨N,c,TT,hN.same s06,nb,ng,ht,s06 _ _ hT,fun ga o1 kv1 H7 s7 e7 l7 k7=>?_⟩;refine ⟨ta,_,dx,_,rfl,s7 _ _ e6,T.c_Turner.c,T.a_Turner_one_gates,by show 4 < 1000; decide,?_⟩;have e7t:=s7 _ _ e6;have n7:ga≠ta:=fun z=>by rw [z,e7t] at e7; cases e7
 have g7:Same (hole ta H5) (hole ta H7):=br (s6.trans s7) bo;have d7:GatesAt (hole ta H7) ga (spotsOf N.2.1):=⟨o1,kv1,by rw [bf n7]; exact e7,l7,k7⟩;refine cb (G:=hole ta H7) H7 _ aJ bo fun H8 s8 e8=>?_
 have s08:=((g3.trans g5).trans g7).trans s8;refine ⟨M,c,TT,hM.same s08,mb,mg,ht,s08 _ _ hT,fun gb o2 kv2 H9 s9 e9 l9 k9=>?_⟩;have e9t:=s9 _ _ e8;have n9:gb≠ta:=fun z=>by rw [z,e9t] at e9; cases e9
 have g9:Same (hole ta H7) (hole ta H9):=br (s8.trans s9) bo;have d9:GatesAt (hole ta H9) gb (spotsOf M.2.1):=⟨o2,kv2,by rw [bf n9]; exact e9,l9,k9⟩;refine ⟨ta,_,dx,_,rfl,e9t,T.c_Turner.c,T.a_Turner_other_gates,by show 5 < 1000; decide,?_⟩;refine cb (G:=hole ta H9) H9 _ aJ bo fun H10 s10 e10 J hJ=>?_
 refine cy H10 _ hJ fun H11 s11 e11=>⟨ta,_,dx,_,rfl,s11 _ _ e10,T.c_Turner.c,T.a_Turner_judged,by show 6 < 1000; decide,?_⟩
 have nJ:J≠ta:=sI hJ e10;refine cb (G:=hole ta H11) H11 _ aJ bo fun H12 s12 e12=>⟨by decide,fun bl hbl=>?_⟩
 refine cy H12 _ hbl fun H13 s13 e13=>⟨ta,_,dx,_,rfl,s13 _ _ e12,T.c_Turner.c,T.a_Turner_blocks,by show 7 < 1000; decide,?_⟩
 have g11:Same (hole ta H9) (hole ta H11):=br (s10.trans s11) bo;have g13:Same (hole ta H11) (hole ta H13):=br (s12.trans s13) bo;refine cb (G:=hole ta H13) H13 _ aJ bo fun H14 s14 e14=>?_
 have sF:Same (hole ta H9) H14:=g11.trans (g13.trans s14);have fJ:hole ta H9 J=none:=s10.free hJ;have sJ:Same (hole ta H9) (hole J H14):=br sF fJ;have g79:=g7.trans g9;refine k H14 J dm ul ga gb bl ((g3.trans (g5.trans g79)).trans sJ) ⟨?_,hN.same ((g3.trans (g5.trans g79)).trans sJ),hM.same ((g3.trans (g5.trans g79)).trans sJ),sJ _ _ (g79 _ _ (g5 _ _ d3)),sJ _ _ (g79 _ _ d5),(d7.same g9).same sJ,d9.same sJ⟩ (s14 _ _ (g13 _ _ (by rw [bf nJ]; exact e11)));rw [bf (Ne.symm nJ)];exact e14
noncomputable def yesT:List Nat:=[121,101,115]
noncomputable def fY (K:Frag):Sp:=az fun p=>az fun q=>az fun d0=>aM fun H Q E=>∃ (N M:Net),NetAt H p N/\NetAt H q M/\NetL N/\NetL M/\H d0=some (.lst []) /\
   (Like N M->∃ c TT,NetB N/\NetB M/\NetG N/\NetG M/\PySem.W.tabIn K "longest_first" = some (c,TT)/\H TT=some (.tbl #[])/\∀ t r H',Same H H'->H' t=some (.tup [tx yesT,.ref r])->H' r=some (.lst ((unlikeL N M).map tx))->Q (.ref t) H') /\
   (¬ Like N M->∀ H',Same H H'->E (.ref (xA K "Unlike")) none H')
theorem jo (T:Top K mg):CalleeX P w K mg base 26 "turn_order" ["one", "other", "demands"] (fY K):=by
 refine T.j9.calX fN (by unfold fY; exact LenSp.h) (fun _ _ _ _ _ _ us hl=>match us,hl with | [_,_,_],_=>rfl) (fun f cdv A outer s H vs Q E hr h=>?_);unfold fY at h;walk_at "el";refine ⟨_,(af (bj (nz (ja T) hr.m dg rfl (aa (qv 0) (aa (qv 1) ad))))
   (af (au (i:=3) fN.nd rfl lc (xW T.c_Turner (jf T) hr.m dg rfl (aa (qv 0) (aa (qv 1) (aa (qv 2) ad)))))
   (af (au (i:=4) fN.nd rfl lc (lZ T.c_Turner (gn T) hr.m (qv 3) (aa (aA ad) ad)))
   (ai (aC (eQ (aF A8 (qv 4) gO) (aA (aa (qs [110,111]) (aa (cG (qv 3) rfl) ad))) (aA (aa (qs [121,101,115]) (aa (qv 4) ad))))))))),?_⟩
 rename_i p q d0;obtain ⟨N,M,hN,hM,nl,ml,e0,qy,qn⟩:=h;walk_at "rd";refine ⟨N,M,hN,hM,nl,ml,fun lk H1 s1=>?_,qn⟩;obtain ⟨c,TT,nb,mb,ng,mg,ht,hT,k⟩:=qy lk;have al:Alike N M:=⟨lk.1.symm,lk.2.1.symm,lk.2.2.symm⟩;have h4:=nb.h4;walk_at "rd";intro ta dx hta hdx hne;have s2:Same H1 (upd (upd H1 dx (.own ta)) ta (.ins (clsT K) dx [])):=(ah hdx _).trans (ah (by rw [ao (Ne.symm hne)]; exact hta) _);refine ⟨H1,dx,c,TT,N,M,s2,hta,upd_same,hN.same s1,hM.same s1,nb,mb,ng,mg,al,s1 _ _ e0,ht,s1 _ _ hT,fun H3 J dm ul g1 g2 bl s3 A eJ=>⟨rfl,?_⟩⟩;walk_at "rd";refine ⟨ta,dx,_,rfl,aJ _ _ A.self,rfl,by decide,fun l hl=>?_⟩;refine cy H3 _ hl fun H4 s4 e4=>?_
 have sub:=jE N M;have ul4:=sub.length_le;rw [List.length_map] at ul4;have s04:Same H (hole J H4):=s1.trans (s3.trans (aG s4));refine ⟨J,dx,p,q,dm,ul,g1,g2,bl,N,M,unlikeL N M,0,[],A.same (aG s4),nb,mb,al,nb.nd.sublist sub,by lia,Nat.zero_le _,by lia,e4,s4 _ _ eJ,Nat.le_refl _,fun y hy=>absurd rfl hy,fun r H5 s5 e5=>?_⟩;refine Eq.mpr (if_neg (fun z=>nomatch z)) ⟨by decide,fun t ht2=>?_⟩;have s6:=ah ht2 (.tup [tx yesT,.ref r]);exact k t r _ (s04.trans (s5.trans s6)) upd_same (s6 _ _ e5)
theorem rT {N M:Net} (h:Like N M):N.2.1.length=M.2.1.length:=by
 have:=congrArg List.length h.2.2;unfold doorsOf at this
 rwa [List.length_map,List.length_map] at this
noncomputable def strgs:List (List Nat):=[[120],[120,120],[120,120,120],[120,120,120,120],[120,120,120,120,120],[120,120,120,120,120,120]]
theorem mS {α:Type} [DecidableEq α]:∀ {l m:List α},l.Nodup->(∀ x ∈ l,x ∈ m)->l.length<=m.length
 | [],_,_,_=>Nat.zero_le _
 | a::l,m,h,k=>by
  obtain ⟨h1,h2⟩:=List.nodup_cons.mp h;have ha:=k a List.mem_cons_self;have:=mS (m:=m.erase a) h2 fun x hx=>(List.mem_erase_of_ne fun z=>h1 (by rw [<- z]; exact hx)).mpr (k x (List.mem_cons_of_mem _ hx))
  rw [List.length_erase_of_mem ha] at this;have:=List.length_pos_of_mem ha;rw [List.length_cons]
  lia
noncomputable def df (K:Frag):Sp:=az fun l=>aM fun H Q _=>∃ nm:List (List Nat),H l=some (.lst (nm.map tx))/\nm.length<=5/\∀ n H',Same H H'->n ∉ nm->n ∈ strgs->Q (tx n) H'
theorem di (T:Top K mg):Callee P w K mg base 1 "_law_stranger" ["_law_names_here"] (df K):=by
 refine T.ij.cal kU (by unfold df; exact LenSp.h) (fun _ _ _ _ _ _ us hl=>match us,hl with | [_],_=>rfl) (fun f cdv A outer s H vs Q E hr h=>?_);unfold df at h;walk_at "el";refine ⟨_,(ai (aC (aq (ixE K rfl) (aQ (nt:=1) (fi:=[0]) (N':=["_law_name", "_law_names_here"]) rfl (cscope rfl (by decide +kernel)) (cnames (N:=["_law_names_here"]) (sc:=defScope cM) rfl rfl (by decide +kernel)) (aT (by decide)) (iterE K rfl (aA (aa (qs [120]) (aa (qs [120,120]) (aa (qs [120,120,120]) (aa (qs [120,120,120,120]) (aa (qs [120,120,120,120,120]) (aa (qs [120,120,120,120,120,120]) ad)))))))) (fun _ _ _ _ _=>(ak (i:=0) (by show (["_law_name", "_law_names_here"]:List Str).Nodup; decide +kernel) rfl lc)) (fun _ _ _ _ _=>(d4 (aF (notinE K rfl) (qv 0) (qv 1)))) (fun _ _ _ _ _=>(qv 0))) ae (fun _ _=>rfl)))),?_⟩;rename_i l;obtain ⟨nm,el,hl,q'⟩:=h;walk_at "rd";refine ⟨by decide,fun p hp=>.inr ⟨⟨_,SqT.of upd_same⟩,fun D hD=>?_⟩⟩;have s0:=ah hp (.tup (strgs.map tx));refine iF strgs (fun n=>decide (n ∉ nm)) (fun n v _=>v=tx n) hD (by decide) ?_ ?_ ?_ ?_ ?_ ?_
 ·intro i H1 hi s1;exact ⟨strgs.map tx,_,SqT.of (s1 _ _ upd_same),List.getElem?_eq_getElem (by rw [List.length_map]; exact hi)⟩
 ·intro H1 s1;exact ⟨strgs.map tx,SqT.of (s1 _ _ upd_same),by rw [List.length_map]; lia⟩
 ·rintro i H1 v H2 _ ⟨rfl,_⟩;exact Same.refl _
 ·intro x v H1 H2 acc _ _ h;exact h
 ·rintro i x v H1 H2 out non hx s1 ⟨rfl,a1⟩ ho hno;have a2:=a1 (strgs.map tx) (SqT.of (s1 _ _ upd_same));rw [List.getElem?_map,hx] at a2;cases a2;walk_at "rd";refine ⟨nm.map tx,.inl (SqL.of (s1 _ _ (s0 _ _ el))),rfl,jY nm,?_⟩;rw [pZ];by_cases g:x ∈ nm
  ·rw [if_neg (by rw [decide_eq_true g]; decide)];exact hno _ (decide_eq_false fun z=>z g) (Same.refl _)
  ·rw [if_pos (decide_eq_false g)];exact ho _ _ (decide_eq_true g) (Same.refl _) rfl
 ·intro H1 vs s1 e1 p1;obtain ⟨x,l2,e2⟩:∃ x l2,strgs.filter (fun n=>decide (n ∉ nm))=x::l2:=by
   cases e:strgs.filter (fun n=>decide (n ∉ nm)) with
   | cons x l=>exact ⟨x,l,rfl⟩
   | nil=>
    have h1:∀ n ∈ strgs,n ∈ nm:=by
     intro n hn;have:=List.filter_eq_nil_iff.mp e n hn;rw [decide_eq_true_eq] at this;exact Decidable.not_not.mp this
    have:=mS (by decide:strgs.Nodup) h1;rw [show strgs.length=6 from rfl] at this
    lia
  have hx:x ∈ strgs.filter (fun n=>decide (n ∉ nm)):=e2 ▸ List.mem_cons_self;obtain ⟨x1,x2⟩:=List.mem_filter.mp hx;rw [e2] at p1;cases p1 with
  | cons r _=>
   subst r;walk_at "rd";exact ⟨_,_,.inl (SqL.of e1),cw (j:=0) rfl,q' x _ (s0.trans s1) (of_decide_eq_true x2) x1⟩
theorem mU {N M:Net} (h:Like N M):N.2.1.map (·.1)=M.2.1.map (·.1):=by
 have:=congrArg (List.map Prod.fst) h.2.2;unfold doorsOf at this;rw [List.map_map,List.map_map] at this;exact this
theorem wT {α β:Type} {f:α -> β} {l:List α} (nd:(l.map f).Nodup) (h2:2<=l.length):l≠l.reverse:=by
 intro e;have h0:(l.map f)[0]? = (l.map f)[l.length - 1]?:=by
  conv=>lhs; rw [e]
  rw [List.getElem?_map,List.getElem?_map,List.getElem?_reverse (by lia)];rfl
 have:=(List.getElem?_inj (by rw [List.length_map]; lia) nd).mp h0
 lia
theorem Ag {α β:Type} {f:α -> β} {x y:α} {l:List α} (nd:((x::y::l).map f).Nodup):(x::y::l).map f≠((y::l)++[x]).map f:=by
 intro e;rw [List.map_cons,List.cons_append,List.map_cons] at e;injection e with e1 _
 rw [List.map_cons,List.map_cons] at nd;exact (List.nodup_cons.mp nd).1 (e1 ▸ List.mem_cons_self)
theorem mO {α:Type} {s:α}:∀ {a:α} {l:List α},a::l=l++[s]->a=s
 | a,[],h=>by injection h
 | a,b::l,h=>by
  rw [List.cons_append] at h;injection h with h1 h2
  rw [h1];exact mO h2
theorem zk {N:Net} (nb:NetB N):¬ Like N (N.1.reverse,N.2):=fun h=>wT nb.lay.nd nb.lay.two h.1
theorem wG {N M:Net} {n:List Nat} (h1:n ∉ N.2.1.map (·.1)) (h2:n ∈ M.2.1.map (·.1)):¬ Like N M:=fun h=>h1 (mU h ▸ h2)
theorem pH {N M:Net} {pre:List Named} {x y:Named} (e1:N.2.1=pre++[x]) (e2:M.2.1=pre++[y]) (ne:x.2.1.map (·.1)≠y.2.1.map (·.1)):¬ Like N M:=fun h=>by
 have h3:=h.2.2;unfold doorsOf at h3;rw [e1,e2,List.map_append,List.map_append] at h3;have h4:=List.append_cancel_left h3;injection h4 with h5 _
 injection h5 with _ h6
 exact ne h6
theorem vV {N M:Net} (h:N.2.2≠M.2.2):¬ Like N M:=fun k=>h k.2.1
theorem vJ {N M:Net} (h:N.2.1.length≠M.2.1.length):¬ Like N M:=fun k=>h (rT k)
theorem xY {N:Net} (nb:NetB N) {x:Line} {l:List Line} (e:N.2.2=x::l) {M:Net} (e2:M.2.2=l++[(x.2,x.1)]):¬ Like N M:=fun k=>by
 have h:=k.2.1;rw [e,e2] at h;have:=mO h;exact nb.ends x (e ▸ List.mem_cons_self) (congrArg Prod.fst this)
theorem zf {N M:Net} (nb:NetB N) {x y:Named} {l:List Named} (e:N.2.1=x::y::l) (e2:M.2.1=(y::l)++[x]):¬ Like N M:=fun k=>by
 have h:=mU k;have nd:=nb.nd;rw [e] at h nd;rw [e2] at h;exact Ag nd h
theorem xL {n:Nat} (h:1<=n):HT.sIx n n (some (-1))=n - 1:=by
 show (if (-1:Int) < 0 then ((-1:Int)+(n:Int)).toNat else min (-1:Int).toNat n)=n - 1;rw [if_pos (by decide)]
 lia
theorem kP {xs:List V} {v:V}:cutV (xs++[v]) none (some (-1))=xs:=by
 unfold cutV;rw [xL (by rw [List.length_append]; exact Nat.le_add_left _ _)];show ((xs++[v]).drop 0).take ((xs++[v]).length - 1 - 0)=xs;rw [List.drop_zero,List.length_append];exact List.take_left
theorem lD {α β:Type} {F:α -> β -> Prop} {x:α}:∀ {l:List α} {vs:List β},Paired F (l++[x]) vs->∃ us v,vs=us++[v]/\Paired F l us/\F x v
 | [],_,h=>by
  cases h with
  | cons r h=>
   cases h;exact ⟨[],_,rfl,.nil,r⟩
 | a::l,_,h=>by
  cases h with
  | cons r h=>
   obtain ⟨us,v,e,p,k⟩:=lD h;exact ⟨_::us,v,by rw [e]; rfl,.cons r p,k⟩
theorem oh {α β:Type} {f:α -> β} {l:List α} {vs:List β} (h:Paired (fun x v=>v=f x) l vs):vs=l.map f:=by
 induction h with
 | nil=>rfl
 | cons r _ ih=>rw [r,ih]; rfl
theorem lE {α:Type} (f:α -> List Nat) {H:Hp} {xs:List α} {vs:List V} {p D:Addr} {Q:VK} (e:H p=some (.lst vs)) (hp:Paired (fun x v=>∃ t u,v=.ref t/\H t=some (.tup [tx (f x),u])) xs vs) (hl:xs.length<=100) (hD:H D=none)
  (hq:∀ H',Same H H'->H' D=some (.lst ((xs.map f).map tx))->Q (.ref D) H'):compW (Itl K p) (gName 0) tYes (tOp (kIx K) (cVar 0) (tC (V.int 0))) [none] D Q H:=by
 have hpl:=hp.length;obtain ⟨_,z2⟩:=bi hp;refine kX (xs.zip vs) (fun x v _=>v=tx (f x.1)) hD (by rw [List.length_zip]; lia) (fun i H1 hi s1=>⟨vs,vs[i]'(by rw [List.length_zip] at hi; lia),SqL.of (s1 _ _ e),List.getElem?_eq_getElem _⟩) (fun H1 s1=>⟨vs,SqL.of (s1 _ _ e),by rw [List.length_zip]; lia⟩) ?_ ?_ ?_ ?_
 ·rintro i H1 v H2 _ ⟨rfl,_⟩;exact Same.refl _
 ·intro x v H1 H2 acc _ _ h;exact h
 ·rintro i x v H1 H2 out non hx s1 nD ⟨rfl,a1⟩ ho;obtain ⟨y1,y2⟩:=List.getElem?_zip_eq_some.mp hx;have y3:=a1 vs (SqL.of (s1 _ _ e));rw [y2] at y3;have y4:=Option.some.inj y3;obtain ⟨t,u,ex,e1⟩:=z2 x (List.mem_of_getElem? hx);rw [<- y4,ex];walk_at "rd";exact ⟨_,_,.inr (SqT.of (s1 _ _ e1)),rfl,ho _ _ (Same.refl _) rfl⟩
 ·intro H1 ws s1 e1 p1;refine hq H1 s1 ?_;rw [e1,oh p1]
  conv=>rhs; rw [<- dt (l:=xs) (m:=vs) hpl]
  rw [List.map_map,List.map_map];rfl
def FarAt (N:Net) (H:Hp) (v:V):Prop:=∃ t M,v=.ref t/\NetAt H t M/\NetL M/\¬ Like N M
theorem FarAt.same {N:Net} {H H':Hp} {v:V} (h:FarAt N H v) (s:Same H H'):FarAt N H' v:=by
 obtain ⟨t,M,e,n,l,k⟩:=h;exact ⟨t,M,e,n.same s,l,k⟩
structure FarS (G:Hp) (N:Net) (S:Addr) (H:Hp) (vs:List V):Prop where
 at_:H S=some (.lst vs)
 old:Same G (hole S H)
 far:∀ v ∈ vs,FarAt N (hole S H) v
theorem FarS.step {G:Hp} {N:Net} {S:Addr} {H H':Hp} {vs:List V} {t:Addr} {M:Net} (h:FarS G N S H vs) (s:Same H H') (ht:NetAt (hole S H') t M) (l:NetL M) (k:¬ Like N M):FarS G N S (upd H' S (.lst (vs++[.ref t]))) (vs++[.ref t]):=by
 refine ⟨upd_same,?_,?_⟩
 ·rw [dC];exact h.old.trans (aG s)
 ·rw [dC];intro v hv;rcases List.mem_append.mp hv with hv | hv
  ·exact (h.far v hv).same (aG s)
  ·cases List.mem_singleton.mp hv;exact ⟨t,M,rfl,ht,l,k⟩
structure FarB (K:Frag) (G:Hp) (N:Net) (a la ha ca q0 g0 w0 D1 D2:Addr) (pre:List Named) (x:Named) (us gv:List V) (v:V) (ns:List Int):Prop where
 hS:SqL K G a (ns.map V.int)
 nb:NetB N
 eN:N.2.1=pre++[x]
 lay:Lay G la N.1
 eh:G ha=some (.lst (us++[v]))
 pp:Paired (NamedAt G) pre us
 pv:NamedAt G x v
 lines:Lines G ca N.2.2
 e1:G q0=some (.tup [.ref g0,.ref w0])
 eg:G g0=some (.lst gv)
 pg:Paired (GateAt G) x.2.1 gv
 ways:Ways G w0 x.2.2
 d1:G D1=some (.lst ((N.2.1.map (·.1)).map tx))
 d2:G D2=some (.lst ((x.2.1.map (·.1)).map tx))
theorem FarS.same {G:Hp} {N:Net} {S:Addr} {H H':Hp} {vs:List V} (h:FarS G N S H vs) (s:Same H H'):FarS G N S H' vs:=⟨s _ _ h.at_,h.old.trans (aG s),fun v hv=>(h.far v hv).same (aG s)⟩
theorem bF {G:Hp} {N:Net} {S:Addr} {H:Hp} {vs:List V} (h:FarS G N S H vs):Same G H:=h.old.trans aJ
theorem FarB.houses {G:Hp} {N:Net} {a la ha ca q0 g0 w0 D1 D2:Addr} {pre:List Named} {x:Named} {us gv:List V} {v:V} {ns:List Int} (h:FarB K G N a la ha ca q0 g0 w0 D1 D2 pre x us gv v ns):Houses G ha N.2.1:=⟨_,h.eh,by rw [h.eN]; exact aD h.pp h.pv⟩
theorem kQ {v:V} {vs:List V}:cutV (v::vs) (some 1) none=vs:=by
 show ((v::vs).drop (HT.sIx (vs.length+1) 0 (some ((1:Nat):Int)))).take ((vs.length+1) - HT.sIx (vs.length+1) 0 (some ((1:Nat):Int)))=vs;rw [HT.sIx_nat,Nat.min_eq_left (Nat.le_add_left _ _)];exact List.take_length
theorem vp {v:V} {vs:List V}:cutV (v::vs) none (some 1)=[v]:=by
 show ((v::vs).drop 0).take (HT.sIx (vs.length+1) (vs.length+1) (some ((1:Nat):Int)) - 0)=[v];rw [HT.sIx_nat,Nat.min_eq_left (Nat.le_add_left _ _)];rfl
theorem A3 {G:Hp} {N:Net} {S:Addr} {H:Hp} {vs:List V} (h:FarS G N S H vs) {p:Addr} (hp:H p=none):p≠S:=fun z=>by
 rw [z,h.at_] at hp;cases hp
theorem FarS.new {G:Hp} {N:Net} {S:Addr} {H:Hp} {vs:List V} (h:FarS G N S H vs) {p:Addr} (hp:H p=none) (o:HO):FarS G N S (upd H p o) vs/\Same H (upd H p o)/\hole S (upd H p o) p=some o/\Same (hole S H) (hole S (upd H p o)):=
 ⟨h.same (ah hp o),ah hp o,by rw [bf (A3 h hp)]; exact upd_same,aG (ah hp o)⟩
def FarT (G:Hp) (N:Net) (S L:Addr) (ll:List Line) (n:Nat) (H:Hp):Prop:=∃ vs,FarS G N S H vs/\1<=vs.length/\vs.length<=n/\Lines (hole S H) L ll
theorem FarT.le {G:Hp} {N:Net} {S L:Addr} {ll:List Line} {n m:Nat} {H:Hp} (h:FarT G N S L ll n H) (k:n<=m):FarT G N S L ll m H:=by
 obtain ⟨vs,a,b,c,d⟩:=h;exact ⟨vs,a,b,Nat.le_trans c k,d⟩
theorem FarS.put {G:Hp} {N:Net} {S L:Addr} {ll:List Line} {H H':Hp} {n:Nat} {vs:List V} {t:Addr} {M:Net} (h:FarS G N S H vs) (hn:vs.length<=n) (s:Same H H') (hl:Lines (hole S H) L ll) (ht:NetAt (hole S H') t M) (l:NetL M) (k:¬ Like N M):FarT G N S L ll (n+1) (upd H' S (.lst (vs++[.ref t]))):=
 ⟨_,h.step s ht l k,by rw [List.length_append]; exact Nat.le_add_left _ _,by rw [List.length_append]; exact Nat.add_le_add_right hn 1,by rw [dC]; exact hl.same (aG s)⟩
noncomputable def mFar (K:Frag) (n:Nat):TS:=fun E σ H=>∀ C:TS,(∀ (G:Hp) (N:Net) (a q la ha ca q0 g0 w0 D1 D2 S L:Addr) (pre:List Named) (x:Named) (us gv:List V) (v:V) (ns:List Int) (ll:List Line),FarB K G N a la ha ca q0 g0 w0 D1 D2 pre x us gv v ns->FarT G N S L ll n H ->
  (∀ u H',Same G H'->FarAt N H' u->E.rt u H')->C E [some (.ref a),some (.ref q),some (.ref la),some (.ref ha),some (.ref ca),some (tx x.1),some (.ref q0),some (.ref D1),some (.ref D2),some (.ref L),some (.ref S)] H)->C E σ H
theorem hU {X:Cx} {l:List Stmt} {t u:TS} (h:PSs X l t) (k:∀ D σ H,u D σ H->t D σ H):PSs X l u:=fun p s σ H D I q=>h p s σ H D I (k _ _ _ q)
theorem yB (T:Top K mg) {f:Addr} {cdv:Value} {A:Around} {outer:List Env} {s:Shared} {H₀:Hp} {E:XK} (hr:Room 1 (A.deeper (PyProof.Rows.envOfC "_law_turned" (defScope ap) s.heap.objs.size f cdv))):
  PSs (cxOf CX0 P w K mg base ["_law_script", "_law_net_here", "_law_layout_here", "_law_houses", "_law_lines_here", "_law_name", "_law_house_here", "_law_own", "_law_doors", "_law_left", "_law_some"] "_law_turned" (defScope ap) f cdv A outer s H₀ E).nox ((defBody ap).drop 12) (mFar K 8):=by
 refine hU (ai (aC (aq (ixE K rfl) (qv 10) (aw (av T) hr.m rfl (aa (qv 0) (aa ae (aa (aB (lenE K rfl) rfl T.bZ bD (aa (qv 10) ad)) ad)))) (fun _ _=>rfl)))) fun E1 σ H h0=>h0 _ fun G N a q la ha ca q0 g0 w0 D1 D2 S L pre x us gv v ns ll fb ⟨vs,fs,n1,n8,hL⟩ q'=>?_
 have sG:Same G H:=bF fs;walk_at "rd";refine ⟨vs,.inl (SqL.of fs.at_),bO (Same.seq sG fb.hS) (by decide) (by decide) (by lia) (by lia) fun r hr=>?_⟩;walk_at "rd";exact ⟨vs,vs[r]'(by lia),.inl (SqL.of fs.at_),cw (List.getElem?_eq_getElem _),q' _ _ sG ((fs.far _ (List.getElem_mem _)).same aJ)⟩
theorem zC (T:Top K mg) {f:Addr} {cdv:Value} {A:Around} {outer:List Env} {s:Shared} {H₀:Hp} {E:XK} (hr:Room 1 (A.deeper (PyProof.Rows.envOfC "_law_turned" (defScope ap) s.heap.objs.size f cdv))):
  PSs (cxOf CX0 P w K mg base ["_law_script", "_law_net_here", "_law_layout_here", "_law_houses", "_law_lines_here", "_law_name", "_law_house_here", "_law_own", "_law_doors", "_law_left", "_law_some"] "_law_turned" (defScope ap) f cdv A outer s H₀ E).nox ((defBody ap).drop 11) (mFar K 6):=by
 refine hU (cX (bU (aF (neNilE K rfl (hu1 hr)) (qv 4) (aL ad)) (af (bj (ba (qv 10) (aA (aa (qv 2) (aa (qv 3) (aa (aZ (slE K rfl) (qv 4) (bw ae) bG) ad))))))
   (ai (bj (ba (qv 10) (aA (aa (qv 2) (aa (qv 3) (aa (am aj (aZ (slE K rfl) (qv 4) (bw ae) bG) (aL (aa (aA (aa (aq (ixE K rfl) (aq (ixE K rfl) (qv 4) ae (fun _ _=>rfl)) ae (fun _ _=>rfl)) (aa (aq (ixE K rfl) (aq (ixE K rfl) (qv 4) ae (fun _ _=>rfl)) ae (fun _ _=>rfl)) ad))) ad))) ad)))))))) aO)
   (yB T hr)) fun E1 σ H h0=>h0 _ fun G N a q la ha ca q0 g0 w0 D1 D2 S L pre x us gv v ns ll fb ⟨vs,fs,n1,n8,hL⟩ q'=>?_
 have sG:Same G H:=bF fs;obtain ⟨cv,ec,pc⟩:=id fb.lines;walk_at "rd";refine ⟨fun σ' H'=>σ'=[some (.ref a),some (.ref q),some (.ref la),some (.ref ha),some (.ref ca),some (tx x.1),some (.ref q0),some (.ref D1),some (.ref D2),some (.ref L),some (.ref S)]/\FarT G N S L ll 8 H',⟨by decide,fun p hp=>⟨cv,SqL.of (ah hp _ _ _ (sG _ _ ec)),SqL.of upd_same,?_⟩⟩,?_⟩
 ·have s1:=ah hp (.lst []);have fs1:=fs.same s1;have hL1:=hL.same (aG (g:=S) s1);by_cases g:cv=[]
  ·rw [if_pos g];exact ⟨rfl,vs,fs1,n1,by lia,hL1⟩
  rw [if_neg g];obtain ⟨cv0,cv1,rfl⟩:=List.exists_cons_of_ne_nil g;generalize upd H p (.lst [])=H1 at s1 fs1 hL1 ⊢;have o1:=bF fs1;have nl:=fb.nb.l;obtain ⟨l0,l1,eL⟩:∃ l0 l1,N.2.2=l0::l1:=by
   cases hc:N.2.2 with
   | nil=>rw [hc] at pc; cases pc
   | cons l0 l1=>exact ⟨l0,l1,rfl⟩
  rw [eL] at pc;cases pc with
  | cons r0 pc1=>
  obtain ⟨t0,u1,u2,rfl,et0,w1,w2⟩:=r0;refine ⟨⟨_,fs1.at_⟩,_,SqL.of (o1 _ _ ec),fun q1 hq1=>⟨by decide,fun p1 hp1=>?_⟩⟩;rw [kQ] at hp1 ⊢;obtain ⟨fs2,s2,e2,m2⟩:=fs1.new hq1 (.lst cv1);obtain ⟨fs3,s3,e3,m3⟩:=fs2.new hp1 (.tup [.ref la,.ref ha,.ref q1]);have o3:=fs3.old;have fT:=fs1.put n8 (s2.trans s3) hL1 (t:=p1) (M:=(N.1,N.2.1,l1)) ⟨la,ha,q1,e3,fb.lay.same o3,fb.houses.same o3,⟨cv1,m3 _ _ e2,L2.Paired.mapP pc1 fun _ _ z=>gq (fun _ _=>o3 _ _) z⟩⟩ nl (vV (by rw [eL]; exact fun z=>absurd (congrArg List.length z) (Nat.succ_ne_self _)));refine ⟨vs,fs3.at_,sizeBig (by lia),⟨_,upd_same⟩,?_⟩;obtain ⟨ws,fw,k1,k2,hL4⟩:=fT;have ew:=fw.at_;rw [upd_same] at ew;cases ew;generalize upd (upd (upd H1 q1 (.lst cv1)) p1 (.tup [.ref la,.ref ha,.ref q1])) S (.lst (vs++[.ref p1]))=H4 at fw hL4 ⊢;generalize vs++[V.ref p1]=ws at fw k1 k2;clear fs3 o3 fs2 fs1 e3 e2 m2 m3 s3 s2 hp1 hq1 s1 o1;have o4:=bF fw;refine ⟨_,SqL.of (o4 _ _ ec),fun q2 hq2=>?_⟩;rw [kQ];obtain ⟨fs5,s5,e5,m5⟩:=fw.new hq2 (.lst cv1);have o5:=bF fs5;refine ⟨_,V.ref t0,.inl (SqL.of (o5 _ _ ec)),cw (j:=0) rfl,?_⟩;walk_at "rd";refine ⟨_,_,.inr (SqT.of (o5 _ _ et0)),rfl,_,V.ref t0,.inl (SqL.of (o5 _ _ ec)),cw (j:=0) rfl,?_⟩;walk_at "rd";refine ⟨_,_,.inr (SqT.of (o5 _ _ et0)),rfl,by decide,fun p2 hp2=>⟨by decide,fun p3 hp3=>?_⟩⟩;obtain ⟨fs6,s6,e6,m6⟩:=fs5.new hp2 (.tup [u2,u1]);obtain ⟨fs7,s7,e7,m7⟩:=fs6.new hp3 (.lst [.ref p2]);refine ⟨_,_,aJ _ _ (m7 _ _ (m6 _ _ e5)),upd_same,?_,fun p4 hp4=>⟨by decide,fun p5 hp5=>?_⟩⟩
  ·exact Nat.le_of_lt (sizeBig (by have h6:=fb.nb.l6; have:=pc1.length; rw [eL] at h6; simp only [List.length_cons,List.length_nil] at h6 ⊢; lia))
  obtain ⟨fs8,s8,e8,m8⟩:=fs7.new hp4 (.lst (cv1++[.ref p2]));obtain ⟨fs9,s9,e9,m9⟩:=fs8.new hp5 (.tup [.ref la,.ref ha,.ref p4]);have o9:=fs9.old;have m69:=m7.trans (m8.trans m9);refine ⟨_,fs9.at_,sizeBig (by lia),?_⟩;show FarT G N S L ll 8 _;refine (fw.put k2 (s5.trans (s6.trans (s7.trans (s8.trans s9)))) hL4 (t:=p5) (M:=(N.1,N.2.1,l1++[(l0.2,l0.1)])) ⟨la,ha,p4,e9,fb.lay.same o9,fb.houses.same o9,⟨_,m9 _ _ e8,aD (L2.Paired.mapP pc1 fun _ _ z=>gq (fun _ _=>o9 _ _) z) ⟨p2,u2,u1,rfl,m69 _ _ e6,?_,?_⟩⟩⟩ nl (xY fb.nb eL rfl)).le (by decide)
  ·obtain ⟨b1,b2,b3⟩:=w2;exact ⟨b1,b2,o9 _ _ b3⟩
  ·obtain ⟨b1,b2,b3⟩:=w1;exact ⟨b1,b2,o9 _ _ b3⟩
 ·rintro σ' H' ⟨rfl,hT⟩;exact fun C hC=>hC G N a q la ha ca q0 g0 w0 D1 D2 S L pre x us gv v ns ll fb hT q'
theorem c8 {G H:Hp} (s:Same G H) {l:List Named} {vs:List V} (h:Paired (NamedAt G) l vs):Paired (NamedAt H) l vs:=L2.Paired.mapP h fun _ _ ⟨t,q,e,et,hh⟩=>⟨t,q,e,s _ _ et,hh.same s⟩
theorem i3 {G H:Hp} (s:Same G H) {l:List Gate} {vs:List V} (h:Paired (GateAt G) l vs):Paired (GateAt H) l vs:=L2.Paired.mapP h fun _ _ ⟨t,r,e,et,hh⟩=>⟨t,r,e,s _ _ et,hh.same s⟩
theorem mT {α β:Type} {F:α -> β -> Prop} {l:List α} {vs:List β} (h:Paired F l vs):Paired F l.reverse vs.reverse:=by
 induction h with
 | nil=>exact .nil
 | cons r _ ih=>rw [List.reverse_cons,List.reverse_cons]; exact aD ih r
theorem FarB.house {G:Hp} {N:Net} {a la ha ca q0 g0 w0 D1 D2:Addr} {pre:List Named} {x:Named} {us gv:List V} {v:V} {ns:List Int} (h:FarB K G N a la ha ca q0 g0 w0 D1 D2 pre x us gv v ns):HouseAt G q0 x.2:=⟨g0,w0,h.e1,⟨gv,h.eg,h.pg⟩,h.ways⟩
theorem FarB.l {G:Hp} {N:Net} {a la ha ca q0 g0 w0 D1 D2:Addr} {pre:List Named} {x:Named} {us gv:List V} {v:V} {ns:List Int} (h:FarB K G N a la ha ca q0 g0 w0 D1 D2 pre x us gv v ns) {y:Named} (hy:y.2.1.length<=100) {ly:List Fld} {ls:List Line}:NetL (ly,pre++[y],ls):=by
 have l:=h.nb.l;have l1:=l.1;have l2:=l.2;rw [h.eN] at l1 l2;refine ⟨by rw [List.length_append] at l1 ⊢; exact l1,fun z hz=>?_⟩;rcases List.mem_append.mp hz with hz | hz
 ·exact l2 z (List.mem_append_left _ hz)
 ·rw [List.mem_singleton.mp hz]; exact hy
theorem yA (T:Top K mg) {f:Addr} {cdv:Value} {A:Around} {outer:List Env} {s:Shared} {H₀:Hp} {E:XK} (hr:Room 1 (A.deeper (PyProof.Rows.envOfC "_law_turned" (defScope ap) s.heap.objs.size f cdv))):
  PSs (cxOf CX0 P w K mg base ["_law_script", "_law_net_here", "_law_layout_here", "_law_houses", "_law_lines_here", "_law_name", "_law_house_here", "_law_own", "_law_doors", "_law_left", "_law_some"] "_law_turned" (defScope ap) f cdv A outer s H₀ E).nox ((defBody ap).drop 10) (mFar K 5):=by
 refine hU (cX (bU (aF qN (aB (lenE K rfl) rfl T.bZ bD (aa (qv 8) ad)) ae) (ai (bj (ba (qv 10) (aA (aa (qv 2) (aa (am aj (aZ (slE K rfl) (qv 3) bG (bw (pX ae))) (aL (aa (aA (aa (qv 5) (aa (aA (aa (mr (K:=K) rfl rfl rfl T.kZ rfl T.jL (aq (ixE K rfl) (qv 6) ae (fun _ _=>rfl))) (aa (aq (ixE K rfl) (qv 6) ae (fun _ _=>rfl)) ad))) ad))) ad))) (aa (qv 4) ad))))))) aO)
   (zC T hr)) fun E1 σ H h0=>h0 _ fun G N a q la ha ca q0 g0 w0 D1 D2 S L pre x us gv v ns ll fb ⟨vs,fs,n1,n8,hL⟩ q'=>?_
 have sG:Same G H:=bF fs;have h4:=fb.nb.h4;have hul:=fb.pp.length;have hpl:N.2.1.length=pre.length+1:=by rw [fb.eN,List.length_append]; rfl
 have hx:=fb.nb.house x (by rw [fb.eN]; exact List.mem_append_right _ List.mem_cons_self);have g3:=hx.g3;have hgl:=fb.pg.length;walk_at "rd";refine ⟨fun σ' H'=>σ'=[some (.ref a),some (.ref q),some (.ref la),some (.ref ha),some (.ref ca),some (tx x.1),some (.ref q0),some (.ref D1),some (.ref D2),some (.ref L),some (.ref S)]/\FarT G N S L ll 6 H',⟨_,.inl (SqL.of (sG _ _ fb.d2)),?_⟩,?_⟩
 ·by_cases g:1 < (((x.2.1.map (·.1)).map tx).length:Int)
  ·rw [if_pos g];rw [List.length_map,List.length_map] at g;refine ⟨⟨_,fs.at_⟩,_,SqL.of (sG _ _ fb.eh),fun q1 hq1=>?_⟩;rw [kP];obtain ⟨fs1,s1,e1,m1⟩:=fs.new hq1 (.lst us);refine ⟨_,V.ref g0,.inr (SqT.of (bF fs1 _ _ fb.e1)),rfl,gv,SqL.of (bF fs1 _ _ fb.eg),fun p2 hp2=>?_⟩;obtain ⟨fs2,s2,e2,m2⟩:=fs1.new hp2 (.lst gv.reverse);refine ⟨_,V.ref w0,.inr (SqT.of (bF fs2 _ _ fb.e1)),rfl,by decide,fun p3 hp3=>⟨by decide,fun p4 hp4=>⟨by decide,fun p5 hp5=>?_⟩⟩⟩;obtain ⟨fs3,s3,e3,m3⟩:=fs2.new hp3 (.tup [.ref p2,.ref w0]);obtain ⟨fs4,s4,e4,m4⟩:=fs3.new hp4 (.tup [tx x.1,.ref p3]);obtain ⟨fs5,s5,e5,m5⟩:=fs4.new hp5 (.lst [.ref p4]);refine ⟨_,_,s5 _ _ (s4 _ _ (s3 _ _ (s2 _ _ upd_same))),upd_same,Nat.le_of_lt (sizeBig (by simp only [List.length_cons,List.length_nil]; lia)),fun p6 hp6=>⟨by decide,fun p7 hp7=>?_⟩⟩;obtain ⟨fs6,s6,e6,m6⟩:=fs5.new hp6 (.lst (us++[.ref p4]));obtain ⟨fs7,s7,e7,m7⟩:=fs6.new hp7 (.tup [.ref la,.ref p6,.ref ca]);have o7:=fs7.old;refine ⟨_,fs7.at_,sizeBig (by lia),rfl,?_⟩;show FarT G N S L ll 6 _;refine fs.put n8 (s1.trans (s2.trans (s3.trans (s4.trans (s5.trans (s6.trans s7)))))) hL (t:=p7) (M:=(N.1,pre++[(x.1,(x.2.1.reverse,x.2.2))],N.2.2)) ⟨la,p6,ca,e7,fb.lay.same o7,⟨_,m7 _ _ e6,aD (c8 o7 fb.pp) ⟨p4,p3,rfl,m7 _ _ (m6 _ _ (m5 _ _ e4)),⟨p2,w0,m7 _ _ (m6 _ _ (m5 _ _ (m4 _ _ e3))),⟨_,m7 _ _ (m6 _ _ (m5 _ _ (m4 _ _ (m3 _ _ e2)))),mT (i3 o7 fb.pg)⟩,fb.ways.same o7⟩⟩⟩,fb.lines.same o7⟩ (fb.l (by show x.2.1.reverse.length<=100; rw [List.length_reverse]; lia)) (pH fb.eN rfl ?_);show x.2.1.map (·.1)≠x.2.1.reverse.map (·.1);rw [List.map_reverse];exact wT (f:=id) (by rw [List.map_id]; exact hx.nd) (by rw [List.length_map]; lia)
  ·rw [if_neg g];exact ⟨rfl,vs,fs,n1,by lia,hL⟩
 ·rintro σ' H' ⟨rfl,hT⟩;exact fun C hC=>hC G N a q la ha ca q0 g0 w0 D1 D2 S L pre x us gv v ns ll fb hT q'
theorem Ao (T:Top K mg) {f:Addr} {cdv:Value} {A:Around} {outer:List Env} {s:Shared} {H₀:Hp} {E:XK} (hr:Room 1 (A.deeper (PyProof.Rows.envOfC "_law_turned" (defScope ap) s.heap.objs.size f cdv))):
  PSs (cxOf CX0 P w K mg base ["_law_script", "_law_net_here", "_law_layout_here", "_law_houses", "_law_lines_here", "_law_name", "_law_house_here", "_law_own", "_law_doors", "_law_left", "_law_some"] "_law_turned" (defScope ap) f cdv A outer s H₀ E).nox ((defBody ap).drop 9) (mFar K 4):=by
 refine hU (cX (bU (aF qN (aB (lenE K rfl) rfl T.bZ bD (aa (qv 3) ad)) ae) (ai (bj (ba (qv 10) (aA (aa (qv 2) (aa (am aj (aZ (slE K rfl) (qv 3) (bw ae) bG) (aZ (slE K rfl) (qv 3) bG (bw ae))) (aa (qv 4) ad))))))) aO)
   (yA T hr)) fun E1 σ H h0=>h0 _ fun G N a q la ha ca q0 g0 w0 D1 D2 S L pre x us gv v ns ll fb ⟨vs,fs,n1,n8,hL⟩ q'=>?_
 have sG:Same G H:=bF fs;have h4:=fb.nb.h4;have hul:=fb.pp.length;have hpl:N.2.1.length=pre.length+1:=by rw [fb.eN,List.length_append]; rfl
 have hx:=fb.nb.house x (by rw [fb.eN]; exact List.mem_append_right _ List.mem_cons_self);have g3:=hx.g3;have hgl:=fb.pg.length;walk_at "rd";refine ⟨fun σ' H'=>σ'=[some (.ref a),some (.ref q),some (.ref la),some (.ref ha),some (.ref ca),some (tx x.1),some (.ref q0),some (.ref D1),some (.ref D2),some (.ref L),some (.ref S)]/\FarT G N S L ll 5 H',⟨us++[v],.inl (SqL.of (sG _ _ fb.eh)),?_⟩,?_⟩
 ·by_cases g:1 < ((us++[v]).length:Int)
  ·rw [if_pos g];have ph:=aD fb.pp fb.pv;rw [<- fb.eN] at ph;have eh:=fb.eh;have hln:=ph.length;generalize us++[v]=hv at ph eh g hln;obtain ⟨n0,n1',l2,eL⟩:∃ n0 n1 l2,N.2.1=n0::n1::l2:=by
    match hN:N.2.1,(by lia:2<=N.2.1.length) with
    | n0::n1::l2,_=>exact ⟨n0,n1,l2,rfl⟩
   rw [eL] at ph;cases ph with
   | @cons _ u0 _ u1 r0 p1=>
   refine ⟨⟨_,fs.at_⟩,_,SqL.of (sG _ _ eh),fun q1 hq1=>⟨_,SqL.of (ah hq1 _ _ _ (sG _ _ eh)),fun q2 hq2=>?_⟩⟩;rw [kQ] at hq2 ⊢;rw [vp];obtain ⟨fs1,s1,e1,m1⟩:=fs.new hq1 (.lst u1);obtain ⟨fs2,s2,e2,m2⟩:=fs1.new hq2 (.lst [u0]);refine ⟨_,_,s2 _ _ upd_same,upd_same,Nat.le_of_lt (sizeBig (by simp only [List.length_cons,List.length_nil] at hln ⊢; lia)),fun p3 hp3=>⟨by decide,fun p4 hp4=>?_⟩⟩;obtain ⟨fs3,s3,e3,m3⟩:=fs2.new hp3 (.lst (u1++[u0]));obtain ⟨fs4,s4,e4,m4⟩:=fs3.new hp4 (.tup [.ref la,.ref p3,.ref ca]);have o4:=fs4.old;refine ⟨_,fs4.at_,sizeBig (by lia),rfl,?_⟩;show FarT G N S L ll 5 _;refine fs.put n8 (s1.trans (s2.trans (s3.trans s4))) hL (t:=p4) (M:=(N.1,(n1'::l2)++[n0],N.2.2)) ⟨la,p3,ca,e4,fb.lay.same o4,⟨_,m4 _ _ e3,c8 o4 (aD p1 r0)⟩,fb.lines.same o4⟩ ?_ (zf fb.nb eL rfl);have l:=fb.nb.l;have l1:=l.1;have l2':=l.2;rw [eL] at l1 l2';refine ⟨by simp only [List.length_append,List.length_cons,List.length_nil] at l1 ⊢; lia,fun z hz=>l2' z ?_⟩;rcases List.mem_append.mp hz with hz | hz
   ·exact List.mem_cons_of_mem _ hz
   ·rw [List.mem_singleton.mp hz]; exact List.mem_cons_self
  ·rw [if_neg g];exact ⟨rfl,vs,fs,n1,by lia,hL⟩
 ·rintro σ' H' ⟨rfl,hT⟩;exact fun C hC=>hC G N a q la ha ca q0 g0 w0 D1 D2 S L pre x us gv v ns ll fb hT q'
theorem Bw (T:Top K mg) {f:Addr} {cdv:Value} {A:Around} {outer:List Env} {s:Shared} {H₀:Hp} {E:XK} (hr:Room 1 (A.deeper (PyProof.Rows.envOfC "_law_turned" (defScope ap) s.heap.objs.size f cdv))):
  PSs (cxOf CX0 P w K mg base ["_law_script", "_law_net_here", "_law_layout_here", "_law_houses", "_law_lines_here", "_law_name", "_law_house_here", "_law_own", "_law_doors", "_law_left", "_law_some"] "_law_turned" (defScope ap) f cdv A outer s H₀ E).nox ((defBody ap).drop 8) (mFar K 3):=by
 refine hU (af (bj (ba (qv 10) (aA (aa (qv 2) (aa (am aj (qv 3) (aL (aa (aA (aa (aw (di T) hr.m rfl (aa (qv 7) ad)) (aa (aA (aa (aL (aa (aA (aa (qs [120]) (aa (aL ad) ad))) ad)) (aa (aL ad) ad))) ad))) ad))) (aa (qv 4) ad))))))
   (Ao T hr)) fun E1 σ H h0=>h0 _ fun G N a q la ha ca q0 g0 w0 D1 D2 S L pre x us gv v ns ll fb ⟨vs,fs,n1,n8,hL⟩ q'=>?_
 have sG:Same G H:=bF fs;have h4:=fb.nb.h4;have hul:=fb.pp.length;have hpl:N.2.1.length=pre.length+1:=by rw [fb.eN,List.length_append]; rfl
 have hx:=fb.nb.house x (by rw [fb.eN]; exact List.mem_append_right _ List.mem_cons_self);have g3:=hx.g3;have hgl:=fb.pg.length;walk_at "rd";refine ⟨⟨_,fs.at_⟩,N.2.1.map (·.1),sG _ _ fb.d1,by rw [List.length_map]; lia,fun n H2 s2 hn _=>⟨by decide,fun p0 hp0=>⟨by decide,fun p1 hp1=>⟨by decide,fun p2 hp2=>⟨by decide,fun p3 hp3=>⟨by decide,fun p4 hp4=>⟨by decide,fun p5 hp5=>⟨by decide,fun p6 hp6=>?_⟩⟩⟩⟩⟩⟩⟩⟩;have fs2:=fs.same s2;obtain ⟨f0,s0,e0,m0⟩:=fs2.new hp0 (.lst []);obtain ⟨f1,s1,e1,m1⟩:=f0.new hp1 (.tup [tx [120],.ref p0]);obtain ⟨f2,s2',e2,m2⟩:=f1.new hp2 (.lst [.ref p1]);obtain ⟨f3,s3,e3,m3⟩:=f2.new hp3 (.lst []);obtain ⟨f4,s4,e4,m4⟩:=f3.new hp4 (.tup [.ref p2,.ref p3]);obtain ⟨f5,s5,e5,m5⟩:=f4.new hp5 (.tup [tx n,.ref p4]);obtain ⟨f6,s6,e6,m6⟩:=f5.new hp6 (.lst [.ref p5]);refine ⟨_,_,bF f6 _ _ fb.eh,upd_same,Nat.le_of_lt (sizeBig (by simp only [List.length_append,List.length_cons,List.length_nil]; lia)),fun p7 hp7=>⟨by decide,fun p8 hp8=>?_⟩⟩;obtain ⟨f7,s7,e7,m7⟩:=f6.new hp7 (.lst ((us++[v])++[.ref p5]));obtain ⟨f8,s8,e8,m8⟩:=f7.new hp8 (.tup [.ref la,.ref p7,.ref ca]);have o8:=f8.old;have m68:=m6.trans (m7.trans m8);have m48:=m4.trans (m5.trans m68);refine ⟨_,f8.at_,sizeBig (by lia),fun C hC=>hC G N a q la ha ca q0 g0 w0 D1 D2 S L pre x us gv v ns ll fb (fs.put n8 (s2.trans (s0.trans (s1.trans (s2'.trans (s3.trans (s4.trans (s5.trans (s6.trans (s7.trans s8))))))))) hL (t:=p8) (M:=(N.1,N.2.1++[(n,([([120],[])],[]))],N.2.2)) ⟨la,p7,ca,e8,fb.lay.same o8,⟨_,m8 _ _ e7,aD ?_ ⟨p5,p4,rfl,m68 _ _ e5,⟨p2,p3,(m5.trans m68) _ _ e4,⟨_,(m3.trans m48) _ _ e2,.cons ⟨p1,p0,rfl,(m2.trans (m3.trans m48)) _ _ e1,⟨[],(m1.trans (m2.trans (m3.trans m48))) _ _ e0,.nil⟩⟩ .nil⟩,⟨[],m48 _ _ e3,.nil⟩⟩⟩⟩,fb.lines.same o8⟩ ?_ (vJ ?_)) q'⟩
 ·rw [fb.eN];exact c8 o8 (aD fb.pp fb.pv)
 ·refine ⟨by show (N.2.1++_).length<=100; rw [List.length_append]; simp only [List.length_cons,List.length_nil]; lia,fun z hz=>?_⟩;rcases List.mem_append.mp hz with hz | hz
  ·exact fb.nb.l.2 z hz
  ·rw [List.mem_singleton.mp hz]; exact (by decide:1<=100)
 ·show N.2.1.length≠(N.2.1++_).length;rw [List.length_append];simp only [List.length_cons,List.length_nil]
  lia
theorem At (T:Top K mg) {f:Addr} {cdv:Value} {A:Around} {outer:List Env} {s:Shared} {H₀:Hp} {E:XK} (hr:Room 1 (A.deeper (PyProof.Rows.envOfC "_law_turned" (defScope ap) s.heap.objs.size f cdv))):
  PSs (cxOf CX0 P w K mg base ["_law_script", "_law_net_here", "_law_layout_here", "_law_houses", "_law_lines_here", "_law_name", "_law_house_here", "_law_own", "_law_doors", "_law_left", "_law_some"] "_law_turned" (defScope ap) f cdv A outer s H₀ E).nox ((defBody ap).drop 7) (mFar K 2):=by
 refine hU (af (bj (ba (qv 10) (aA (aa (qv 2) (aa (am aj (aZ (slE K rfl) (qv 3) bG (bw (pX ae))) (aL (aa (aA (aa (qv 5) (aa (aA (aa (am aj (aq (ixE K rfl) (qv 6) ae (fun _ _=>rfl)) (aL (aa (aA (aa (aw (di T) hr.m rfl (aa (qv 8) ad)) (aa (aL ad) ad))) ad))) (aa (aq (ixE K rfl) (qv 6) ae (fun _ _=>rfl)) ad))) ad))) ad))) (aa (qv 4) ad))))))
   (Bw T hr)) fun E1 σ H h0=>h0 _ fun G N a q la ha ca q0 g0 w0 D1 D2 S L pre x us gv v ns ll fb ⟨vs,fs,n1,n8,hL⟩ q'=>?_
 have sG:Same G H:=bF fs;have h4:=fb.nb.h4;have hul:=fb.pp.length;have hpl:N.2.1.length=pre.length+1:=by rw [fb.eN,List.length_append]; rfl
 have hx:=fb.nb.house x (by rw [fb.eN]; exact List.mem_append_right _ List.mem_cons_self);have g3:=hx.g3;have hgl:=fb.pg.length;walk_at "rd";refine ⟨⟨_,fs.at_⟩,_,SqL.of (sG _ _ fb.eh),fun q1 hq1=>?_⟩;rw [kP];obtain ⟨f0,s0,e0,m0⟩:=fs.new hq1 (.lst us);refine ⟨_,V.ref g0,.inr (SqT.of (bF f0 _ _ fb.e1)),rfl,x.2.1.map (·.1),bF f0 _ _ fb.d2,by rw [List.length_map]; lia,fun n H2 s1 hn _=>⟨by decide,fun p1 hp1=>⟨by decide,fun p2 hp2=>⟨by decide,fun p3 hp3=>?_⟩⟩⟩⟩;have f1:=f0.same s1;have m1:=aG (g:=S) s1;obtain ⟨f2,s2,e2,m2⟩:=f1.new hp1 (.lst []);obtain ⟨f3,s3,e3,m3⟩:=f2.new hp2 (.tup [tx n,.ref p1]);obtain ⟨f4,s4,e4,m4⟩:=f3.new hp3 (.lst [.ref p2]);walk_at "rd";refine ⟨_,_,bF f4 _ _ fb.eg,upd_same,Nat.le_of_lt (sizeBig (by simp only [List.length_cons,List.length_nil]; lia)),fun p4 hp4=>?_⟩;obtain ⟨f5,s5,e5,m5⟩:=f4.new hp4 (.lst (gv++[.ref p2]));refine ⟨_,V.ref w0,.inr (SqT.of (bF f5 _ _ fb.e1)),rfl,by decide,fun p5 hp5=>⟨by decide,fun p6 hp6=>⟨by decide,fun p7 hp7=>?_⟩⟩⟩;obtain ⟨f6,s6,e6,m6⟩:=f5.new hp5 (.tup [.ref p4,.ref w0]);obtain ⟨f7,s7,e7,m7⟩:=f6.new hp6 (.tup [tx x.1,.ref p5]);obtain ⟨f8,s8,e8,m8⟩:=f7.new hp7 (.lst [.ref p6]);refine ⟨_,_,(s1.trans (s2.trans (s3.trans (s4.trans (s5.trans (s6.trans (s7.trans s8))))))) _ _ upd_same,upd_same,Nat.le_of_lt (sizeBig (by simp only [List.length_cons,List.length_nil]; lia)),fun p8 hp8=>⟨by decide,fun p9 hp9=>?_⟩⟩;obtain ⟨f9,s9,e9,m9⟩:=f8.new hp8 (.lst (us++[.ref p6]));obtain ⟨f10,s10,e10,m10⟩:=f9.new hp9 (.tup [.ref la,.ref p8,.ref ca]);have o10:=f10.old;have k8:=m8.trans (m9.trans m10);have k6:=m6.trans (m7.trans k8);have k4:=m4.trans (m5.trans k6);refine ⟨_,f10.at_,sizeBig (by lia),fun C hC=>hC G N a q la ha ca q0 g0 w0 D1 D2 S L pre x us gv v ns ll fb (fs.put n8 (s0.trans (s1.trans (s2.trans (s3.trans (s4.trans (s5.trans (s6.trans (s7.trans (s8.trans (s9.trans s10)))))))))) hL (t:=p9) (M:=(N.1,pre++[(x.1,(x.2.1++[(n,[])],x.2.2))],N.2.2)) ⟨la,p8,ca,e10,fb.lay.same o10,⟨_,m10 _ _ e9,aD (c8 o10 fb.pp) ⟨p6,p5,rfl,k8 _ _ e7,⟨p4,w0,(m7.trans k8) _ _ e6,⟨_,k6 _ _ e5,aD (i3 o10 fb.pg) ⟨p2,p1,rfl,k4 _ _ e3,⟨[],(m3.trans k4) _ _ e2,.nil⟩⟩⟩,fb.ways.same o10⟩⟩⟩,fb.lines.same o10⟩ (fb.l ?_) (pH fb.eN rfl ?_)) q'⟩
 ·show (x.2.1++_).length<=100;rw [List.length_append];simp only [List.length_cons,List.length_nil]
  lia
 ·intro z;have:=congrArg List.length z;simp only [List.length_map,List.length_append,List.length_cons,List.length_nil] at this
  lia
theorem A4 (T:Top K mg) {f:Addr} {cdv:Value} {A:Around} {outer:List Env} {s:Shared} {H₀:Hp} {E:XK} (hr:Room 1 (A.deeper (PyProof.Rows.envOfC "_law_turned" (defScope ap) s.heap.objs.size f cdv))):
  PSs (cxOf CX0 P w K mg base ["_law_script", "_law_net_here", "_law_layout_here", "_law_houses", "_law_lines_here", "_law_name", "_law_house_here", "_law_own", "_law_doors", "_law_left", "_law_some"] "_law_turned" (defScope ap) f cdv A outer s H₀ E).nox ((defBody ap).drop 6) (mFar K 1):=by
 refine hU (af (bj (ba (qv 10) (aA (aa (qv 2) (aa (am aj (aZ (slE K rfl) (qv 3) bG (bw (pX ae))) (aL (aa (aA (aa (aw (di T) hr.m rfl (aa (qv 7) ad)) (aa (qv 6) ad))) ad))) (aa (qv 9) ad))))))
   (At T hr)) fun E1 σ H h0=>h0 _ fun G N a q la ha ca q0 g0 w0 D1 D2 S L pre x us gv v ns ll fb ⟨vs,fs,n1,n8,hL⟩ q'=>?_
 have sG:Same G H:=bF fs;have h4:=fb.nb.h4;have hul:=fb.pp.length;have hpl:N.2.1.length=pre.length+1:=by rw [fb.eN,List.length_append]; rfl
 have hx:=fb.nb.house x (by rw [fb.eN]; exact List.mem_append_right _ List.mem_cons_self);have g3:=hx.g3;have hgl:=fb.pg.length;walk_at "rd";refine ⟨⟨_,fs.at_⟩,_,SqL.of (sG _ _ fb.eh),fun q1 hq1=>?_⟩;rw [kP];obtain ⟨fs1,s1,e1,m1⟩:=fs.new hq1 (.lst us);refine ⟨N.2.1.map (·.1),bF fs1 _ _ fb.d1,by rw [List.length_map]; lia,fun n H2 s2 hn _=>⟨by decide,fun p2 hp2=>⟨by decide,fun p3 hp3=>?_⟩⟩⟩;have fs2:=fs1.same s2;obtain ⟨fs3,s3,e3,m3⟩:=fs2.new hp2 (.tup [tx n,.ref q0]);obtain ⟨fs4,s4,e4,m4⟩:=fs3.new hp3 (.lst [.ref p2]);refine ⟨_,_,s4 _ _ (s3 _ _ (s2 _ _ upd_same)),upd_same,Nat.le_of_lt (sizeBig (by simp only [List.length_cons,List.length_nil]; lia)),fun p5 hp5=>⟨by decide,fun p6 hp6=>?_⟩⟩;obtain ⟨fs5,s5,e5,m5⟩:=fs4.new hp5 (.lst (us++[.ref p2]));obtain ⟨fs6,s6,e6,m6⟩:=fs5.new hp6 (.tup [.ref la,.ref p5,.ref L]);have o6:=fs6.old;have ss:=s1.trans (s2.trans (s3.trans (s4.trans (s5.trans s6))));exact ⟨_,fs6.at_,sizeBig (by lia),fun C hC=>hC G N a q la ha ca q0 g0 w0 D1 D2 S L pre x us gv v ns ll fb (fs.put n8 ss hL (t:=p6) (M:=(N.1,pre++[(n,x.2)],ll)) ⟨la,p5,L,e6,fb.lay.same o6,⟨_,m6 _ _ e5,aD (c8 o6 fb.pp) ⟨p2,q0,rfl,m6 _ _ (m5 _ _ (m4 _ _ e3)),fb.house.same o6⟩⟩,hL.same (aG ss)⟩ (fb.l (by show x.2.1.length<=100; lia)) (wG hn (by show n ∈ (pre++[(n,x.2)]).map (·.1); rw [List.map_append]; exact List.mem_append_right _ List.mem_cons_self))) q'⟩
noncomputable def fe (K:Frag):Sp:=az fun a=>az fun q=>aM fun H Q _=>∃ (ns:List Int) (N:Net),SqL K H a (ns.map V.int)/\NetAt H q N/\NetB N/\∀ v H',Same H H'->FarAt N H' v->Q v H'
theorem nj (T:Top K mg):Callee P w K mg base 2 "_law_turned" ["_law_script", "_law_net_here"] (fe K):=by
 refine T.jp.cal aV (by unfold fe; exact LenSp.h) (fun _ _ _ _ _ _ us hl=>match us,hl with | [_,_],_=>rfl) (fun f cdv A outer s H vs Q E hr h=>?_);unfold fe at h;walk_at "el";refine ⟨_,(af (qo (qv 1) (seqE K rfl rfl (n:=3) (ar (ak (i:=2) aV.nd rfl lc) (ar (ak (i:=3) aV.nd rfl lc) (ar (ak (i:=4) aV.nd rfl lc) bn)))))
   (af (qo (aq (ixE K rfl) (qv 3) (pX ae) (fun _ _=>rfl)) (seqE K rfl rfl (n:=2) (ar (ak (i:=5) aV.nd rfl lc) (ar (ak (i:=6) aV.nd rfl lc) bn))))
   (af (fE (i:=7) (nt:=1) (fi:=[]) (N':=["_law_pair"]) aV.nd rfl lc rfl (cscope rfl (by decide +kernel)) (cnames (N:=["_law_script", "_law_net_here", "_law_layout_here", "_law_houses", "_law_lines_here", "_law_name", "_law_house_here", "_law_own", "_law_doors", "_law_left", "_law_some"]) (sc:=defScope ap) rfl rfl (by decide +kernel)) (aT (by decide)) (iterE K rfl (qv 3)) (fun _ _ _ _ _=>(ak (i:=0) (by show (["_law_pair"]:List Str).Nodup; decide +kernel) rfl lc)) (fun _ _ _ _ _=>aU) (fun _ _ _ _ _=>(aq (ixE K rfl) (qv 0) ae (fun _ _=>rfl))))
   (af (fE (i:=8) (nt:=1) (fi:=[]) (N':=["_law_gate"]) aV.nd rfl lc rfl (cscope rfl (by decide +kernel)) (cnames (N:=["_law_script", "_law_net_here", "_law_layout_here", "_law_houses", "_law_lines_here", "_law_name", "_law_house_here", "_law_own", "_law_doors", "_law_left", "_law_some"]) (sc:=defScope ap) rfl rfl (by decide +kernel)) (aT (by decide)) (iterE K rfl (aq (ixE K rfl) (qv 6) ae (fun _ _=>rfl))) (fun _ _ _ _ _=>(ak (i:=0) (by show (["_law_gate"]:List Str).Nodup; decide +kernel) rfl lc)) (fun _ _ _ _ _=>aU) (fun _ _ _ _ _=>(aq (ixE K rfl) (qv 0) ae (fun _ _=>rfl))))
   (af (fE (i:=9) (nt:=1) (fi:=[5]) (N':=["_law_line", "_law_name"]) aV.nd rfl lc rfl (cscope rfl (by decide +kernel)) (cnames (N:=["_law_script", "_law_net_here", "_law_layout_here", "_law_houses", "_law_lines_here", "_law_name", "_law_house_here", "_law_own", "_law_doors", "_law_left", "_law_some"]) (sc:=defScope ap) rfl rfl (by decide +kernel)) (aT (by decide)) (iterE K rfl (qv 4)) (fun _ _ _ _ _=>(ak (i:=0) (by show (["_law_line", "_law_name"]:List Str).Nodup; decide +kernel) rfl lc)) (fun _ _ _ _ _=>(d4 (PW.pt (sY (aF iz (qv 1) (aq (ixE K rfl) (aq (ixE K rfl) (qv 0) ae (fun _ _=>rfl)) ae (fun _ _=>rfl))) (ux (aF iz (qv 1) (aq (ixE K rfl) (aq (ixE K rfl) (qv 0) ae (fun _ _=>rfl)) ae (fun _ _=>rfl)))))))) (fun _ _ _ _ _=>(qv 0)))
   (af (au (i:=10) aV.nd rfl lc (aL (aa (aA (aa (mr (K:=K) rfl rfl rfl T.kZ rfl T.jL (qv 2)) (aa (qv 3) (aa (qv 4) ad)))) ad)))
   (A4 T hr))))))),?_⟩
 rename_i a q;obtain ⟨ns,N,hS,hN,nb,q'⟩:=h;obtain ⟨la,ha,ca,et,hL,⟨hv,eh,ph⟩,hC⟩:=id hN;obtain ⟨cv,ec,pc⟩:=id hC;obtain ⟨lv,el,pl⟩:=id hL;have hne:N.2.1≠[]:=fun e=>by
  have:=nb.h1;rw [e] at this;cases this
 obtain ⟨pre,x,eN⟩:∃ pre x,N.2.1=pre++[x]:=⟨_,_,(List.dropLast_concat_getLast hne).symm⟩;have hh:=nb.house x (by rw [eN]; exact List.mem_append_right _ List.mem_cons_self);have ph0:=ph;rw [eN] at ph;obtain ⟨us,v,rfl,pp,⟨t0,q0,rfl,e0,⟨g0,w0,e1,⟨gv,eg,pg⟩,hw⟩⟩⟩:=lD ph;have n4:pre.length+1<=4:=by
  have:=nb.h4;rw [eN,List.length_append] at this;exact this
 have ul:=pp.length;have gl:=pg.length;have g3:=hh.g3;walk_at "rd";refine ⟨_,.inr (SqT.of et),rfl,?_⟩;walk_at "rd";refine ⟨_,_,.inl (SqL.of eh),wt _ _,[_,_],.inr (SqT.of e0),rfl,_,[_],rfl,_,[],rfl,rfl,?_⟩;walk_at "rd";refine .inl ⟨⟨_,SqL.of eh⟩,fun D1 hD1=>lE (·.1) eh (L2.Paired.mapP ph0 fun _ _ ⟨t,q,e,et,_⟩=>⟨t,_,e,et⟩) (Nat.le_trans nb.h4 (by decide)) hD1 fun H1 s1 eD1=>?_⟩;walk_at "rd";refine ⟨_,V.ref g0,.inr (SqT.of (s1 _ _ e1)),rfl,.inl ⟨⟨_,SqL.of (s1 _ _ eg)⟩,fun D2 hD2=>lE (·.1) (s1 _ _ eg) (L2.Paired.mapP pg fun _ _ ⟨t,r,e,et,_⟩=>⟨t,_,e,s1 _ _ et⟩) (by lia) hD2 fun H2 s2 eD2=>?_⟩⟩;have s12:=s1.trans s2;walk_at "rd";have ec5:=s12 _ _ ec;have hcl:=pc.length;have l6:=nb.l6;obtain ⟨_,z2⟩:=bi pc;refine .inl ⟨⟨_,SqL.of ec5⟩,fun D hD=>?_⟩;refine iF (N.2.2.zip cv) (fun z=>decide (x.1≠z.1.1.1) && decide (x.1≠z.1.2.1)) (fun z v _=>v=z.2) hD (by rw [List.length_zip]; lia) (fun i H1 hi s1=>⟨cv,cv[i]'(by rw [List.length_zip] at hi; lia),SqL.of (s1 _ _ ec5),List.getElem?_eq_getElem _⟩) (fun H1 s1=>⟨cv,SqL.of (s1 _ _ ec5),by rw [List.length_zip]; lia⟩) ?_ ?_ ?_ ?_
 ·rintro i H1 v H2 _ ⟨rfl,_⟩;exact Same.refl _
 ·intro z v H1 H2 acc _ _ h;exact h
 ·rintro i z v H6 H7 out non hz s6 ⟨rfl,a1⟩ ho hno;obtain ⟨y1,y2⟩:=List.getElem?_zip_eq_some.mp hz;have y3:=a1 cv (SqL.of (s6 _ _ ec5));rw [y2] at y3;have y4:=Option.some.inj y3;obtain ⟨t,u1,u2,ez,ezt,⟨b1,eb1,eb2⟩,⟨c1,ec1,ec2⟩⟩:=z2 z (List.mem_of_getElem? hz);have s7:=s12.trans s6;rw [<- y4,ez];walk_at "rd";refine ⟨_,u1,.inr (SqT.of (s7 _ _ ezt)),rfl,?_⟩;rw [eb1];walk_at "rd";refine ⟨_,_,.inr (SqT.of (s7 _ _ eb2)),rfl,?_⟩;walk_at "rd";by_cases k1:x.1=z.1.1.1
  ·rw [if_pos k1];exact hno _ (by rw [decide_eq_false (fun w=>w k1)]; rfl) (Same.refl _)
  rw [if_neg k1];refine ⟨_,u2,.inr (SqT.of (s7 _ _ ezt)),rfl,?_⟩;rw [ec1];walk_at "rd";refine ⟨_,_,.inr (SqT.of (s7 _ _ ec2)),rfl,?_⟩;walk_at "rd";by_cases k2:x.1=z.1.2.1
  ·rw [if_pos k2];exact hno _ (by rw [decide_eq_false (p:=x.1≠z.1.2.1) (fun w=>w k2),Bool.and_false]) (Same.refl _)
  rw [if_neg k2];exact ho _ _ (by rw [decide_eq_true k1,decide_eq_true k2]; rfl) (Same.refl _) ez.symm
 intro H3 ws s3 e3 p6;have s13:=s12.trans s3;have hL3:Lines H3 D (((N.2.2.zip cv).filter (fun z=>decide (x.1≠z.1.1.1) && decide (x.1≠z.1.2.1))).map Prod.fst):=by
  refine ⟨ws,e3,?_⟩;have hall:∀ z ∈ (N.2.2.zip cv).filter (fun z=>decide (x.1≠z.1.1.1) && decide (x.1≠z.1.2.1)),LineAt H3 z.1 z.2:=fun z hz=>gq (fun _ _=>s13 _ _) (z2 z (List.mem_filter.mp hz).1)
  have p7:Paired (fun (z:Line × V) v=>LineAt H3 z.1 v) ((N.2.2.zip cv).filter (fun z=>decide (x.1≠z.1.1.1) && decide (x.1≠z.1.2.1))) ws:=by
   generalize (N.2.2.zip cv).filter (fun z=>decide (x.1≠z.1.1.1) && decide (x.1≠z.1.2.1))=zs at p6 hall;clear e3
   induction p6 with
   | nil=>exact .nil
   | cons r _ ih=>
    refine .cons ?_ (ih fun z hz=>hall z (List.mem_cons_of_mem _ hz));rw [r];exact hall _ List.mem_cons_self
  exact cS p7
 generalize ((N.2.2.zip cv).filter (fun z=>decide (x.1≠z.1.1.1) && decide (x.1≠z.1.2.1))).map Prod.fst=ll at hL3;clear p6 e3;walk_at "rd";refine ⟨lv,SqL.of (s13 _ _ el),fun p1 hp1=>⟨by decide,fun p2 hp2=>⟨by decide,fun S hS0=>?_⟩⟩⟩;have fb:FarB K H3 N a la ha ca q0 g0 w0 D1 D2 pre x us gv (.ref t0) ns:=⟨s13.seq hS,nb,eN,hL.same s13,s13 _ _ eh,c8 s13 pp,⟨t0,q0,rfl,s13 _ _ e0,⟨g0,w0,s13 _ _ e1,⟨gv,s13 _ _ eg,i3 s13 pg⟩,hw.same s13⟩⟩,hC.same s13,s13 _ _ e1,s13 _ _ eg,i3 s13 pg,hw.same s13,s3 _ _ (s2 _ _ eD1),s3 _ _ eD2⟩;have s5:=ah hp1 (.lst lv.reverse);have s6:=ah hp2 (.tup [.ref p1,.ref ha,.ref ca]);have s56:=s5.trans s6;have nt:NetAt (upd (upd H3 p1 (.lst lv.reverse)) p2 (.tup [.ref p1,.ref ha,.ref ca])) p2 (N.1.reverse,N.2):=⟨p1,ha,ca,upd_same,⟨_,s6 _ _ upd_same,mT (c6 (fun _ _=>(s13.trans s56) _ _) pl)⟩,fb.houses.same s56,fb.lines.same s56⟩;have fs:FarS H3 N S (upd (upd (upd H3 p1 (.lst lv.reverse)) p2 (.tup [.ref p1,.ref ha,.ref ca])) S (.lst [.ref p2])) [.ref p2]:=by
  refine ⟨upd_same,?_,?_⟩
  ·rw [dC];exact br s56 (s56.free hS0)
  ·intro v hv;cases List.mem_singleton.mp hv;rw [dC];exact ⟨p2,_,rfl,nt.same (br (Same.refl _) hS0),nb.l,zk nb⟩
 exact fun C hC=>hC H3 N a q la ha ca q0 g0 w0 D1 D2 S D pre x us gv (.ref t0) ns ll fb ⟨[.ref p2],fs,Nat.le_refl _,Nat.le_refl _,hL3.same fs.old⟩ (fun u H' s h=>q' u H' (s13.trans s) h)
noncomputable def dN (K:Frag):Sp:=az fun p=>az fun q=>aM fun H Q _=>∃ N M:Net,NetAt H p N/\NetAt H q M/\NetL N/\NetL M/\¬ Like N M/\∀ H',Same H H'->Q (.bl true) H'
theorem dE (T:Top K mg):Callee P w K mg base 27 "_law_refused" ["_law_one", "_law_other"] (dN K):=by
 refine T.iO.cal ck (by unfold dN; exact LenSp.h) (fun _ _ _ _ _ _ us hl=>match us,hl with | [_,_],_=>rfl) (fun f cdv A outer s H vs Q E hr h=>?_);unfold dN at h;walk_at "el";refine ⟨_,(af (au (i:=2) ck.nd rfl lc gO)
   (cX (xH (D:=xA K "ThrongError") (i:=3) (fun _ _=>(ai (bj (Ai (jo T) hr.m passesT rfl (aa (qv 0) (aa (qv 1) (aa (aL ad) ad))))))) (fun _=>(ai (au (i:=2) ck.nd rfl lc (qv 3)))) rfl rfl rfl T.gf.1 T.gf.2 ck.nd rfl rfl)
   (af (bU (PW.pt (uz (qi (im (cY K rfl rfl rfl T.aN (qv 2) (gc T.cL rfl)))) (w4 (qi (im (cY K rfl rfl rfl T.aN (qv 2) (Ad rfl T.ki oK))))))) (ai (aC uy)) aO)
   (af (au (i:=4) ck.nd rfl lc (aL (aa (cY K rfl rfl rfl T.aN (qv 2) (gc T.nY rfl)) (aa (cY K rfl rfl rfl T.aN (qv 2) (gc T.qR rfl)) (aa (cY K rfl rfl rfl T.aN (qv 2) (gc T.gy rfl)) ad)))))
   (af (bj (kR (qv 4) (aL (aa (cY K rfl rfl rfl T.aN (qv 2) (gc T.nR rfl)) (aa (cY K rfl rfl rfl T.aN (qv 2) (gc T.qQ rfl)) (aa (cY K rfl rfl rfl T.aN (qv 2) (gc T.iR rfl)) ad))))))
   (af (bj (kR (qv 4) (aL (aa (cY K rfl rfl rfl T.aN (qv 2) (gc T.lf rfl)) (aa (cY K rfl rfl rfl T.aN (qv 2) (gc T.nX rfl)) (aa (cY K rfl rfl rfl T.aN (qv 2) (gc T.lb rfl)) ad))))))
   (ai (aC (sD (notinE K rfl) uy (qv 4)))))))))),?_⟩
 rename_i p q;obtain ⟨N,M,hN,hM,nl,ml,no,k⟩:=h;walk_at "rd";refine ⟨fun σ' H'=>∃ ea,σ'=[some (.ref p),some (.ref q),some (.ref ea),none,none]/\Same H H'/\H' ea=some (XO (xA K "Unlike") ea),⟨by decide,fun d0 hd0=>?_⟩,?_⟩
 ·refine cy H _ hd0 fun H1 s1 e1=>⟨N,M,hN.same s1,hM.same s1,nl,ml,e1,fun z=>absurd z no,fun _ H2 s2=>⟨_,rfl,T.bd.caught,fun ea hea=>⟨ea,rfl,(s1.trans s2).trans (ah hea _),upd_same⟩⟩⟩
 ·rintro σ' H1 ⟨ea,rfl,s1,x1⟩;have xc:=T.cL.2;walk_at "rd";refine ⟨_,true,x1,xc,Xn.kit T.bT T.cL,?_⟩;walk_at "rd";refine ⟨_,true,x1,xc,Xv.kit T.gu,?_⟩;walk_at "rd";refine ⟨_,_,x1,xc,Xn.kit T.bP T.nY,_,_,x1,xc,Xn.kit T.bY T.qR,_,_,x1,xc,Xn.kit T.bK T.gy,by decide,fun p1 hp1=>?_⟩;refine cy H1 _ hp1 fun H2 s2 e2=>?_
  have x2:=s2 _ _ x1;walk_at "rd";refine ⟨⟨_,e2⟩,_,_,x2,xc,Xn.kit T.bR T.nR,_,_,x2,xc,Xn.kit T.bX T.qQ,_,_,x2,xc,Xn.kit T.bQ T.iR,by decide,fun p2 hp2=>?_⟩;refine cy H2 _ hp2 fun H3 s3 e3=>⟨_,_,s3 _ _ e2,e3,Nat.le_of_lt (sizeBig (by simp)),?_⟩
  have g1:H p1=none:=s1.free hp1;have s13:=s1.trans (s2.trans s3);have n1:ea≠p1:=fun z=>by have:=s3 _ _ e2; rw [<- z,s3 _ _ x2] at this; cases this
  have x3:hole p1 H3 ea=some (XO (xA K "Unlike") ea):=by rw [bf n1]; exact s3 _ _ x2
  have g3:Same H (hole p1 H3):=br s13 g1;refine cb (G:=hole p1 H3) H3 _ aJ bo fun H4 s4 e4=>?_
  have x4:=s4 _ _ x3;refine ⟨⟨_,e4⟩,_,_,x4,xc,Xn.kit T.bL T.lf,_,_,x4,xc,Xn.kit T.bS T.nX,_,_,x4,xc,Xn.kit T.bJ T.lb,by decide,fun p3 hp3=>?_⟩;refine cy H4 _ hp3 fun H5 s5 e5=>⟨_,_,s5 _ _ e4,e5,Nat.le_of_lt (sizeBig (by simp)),?_⟩
  refine cb (G:=hole p1 H3) H5 _ (s4.trans s5) bo fun H6 s6 e6=>?_
  walk_at "rd";refine ⟨_,.inl (SqL.of e6),rfl,rfl,?_⟩;exact k H6 (g3.trans s6)
noncomputable def eE (K:Frag):Sp:=az fun p=>az fun q=>aM fun H Q _=>∃ N M:Net,NetAt H p N/\NetAt H q M/\NetB N/\N.2.1.length=M.2.1.length/\∀ D H',Same H H'->H' D=some (.lst ((unlikeL N M).map tx))->Q (.ref D) H'
theorem nI (T:Top K mg):Callee P w K mg base 1 "_law_unlike" ["_law_one", "_law_other"] (eE K):=by
 refine T.jv.cal mC (by unfold eE; exact LenSp.h) (fun _ _ _ _ _ _ us hl=>match us,hl with | [_,_],_=>rfl) (fun f cdv A outer s H vs Q E hr h=>?_);unfold eE at h;walk_at "el";refine ⟨_,(ai (aC (aQ (nt:=1) (fi:=[0,1]) (N':=["_law_k", "_law_one", "_law_other"]) rfl (cscope rfl (by decide +kernel)) (cnames (N:=["_law_one", "_law_other"]) (sc:=defScope dw) rfl rfl (by decide +kernel)) (aT (by decide)) (bC rfl T.ci (aB (lenE K rfl) rfl T.bZ bD (aa (aq (ixE K rfl) (qv 0) ae (fun _ _=>rfl)) ad))) (fun _ _ _ _ _=>(ak (i:=0) (by show (["_law_k", "_law_one", "_law_other"]:List Str).Nodup; decide +kernel) rfl lc)) (fun _ _ _ _ _=>(d4 (aF (neDE K rfl hr) (aq (ixE K rfl) (aq (ixE K rfl) (qv 1) ae (fun _ _=>rfl)) (qv 0) (fun _ _=>rfl)) (aq (ixE K rfl) (aq (ixE K rfl) (qv 2) ae (fun _ _=>rfl)) (qv 0) (fun _ _=>rfl))))) (fun _ _ _ _ _=>(aq (ixE K rfl) (aq (ixE K rfl) (aq (ixE K rfl) (qv 1) ae (fun _ _=>rfl)) (qv 0) (fun _ _=>rfl)) ae (fun _ _=>rfl)))))),?_⟩;rename_i p q;obtain ⟨N,M,hN,hM,nb,hl,k⟩:=h;obtain ⟨la,ha,ca,eN,_,⟨hv,eh,ph⟩,_⟩:=hN;obtain ⟨la',ha',ca',eM,_,⟨hv',eh',ph'⟩,_⟩:=hM;have hhl:=ph.length;have hhl':=ph'.length;have h4:=nb.h4;walk_at "rd";refine ⟨_,V.ref ha,.inr (SqT.of eN),rfl,hv,.inl (SqL.of eh),by lia,by lia,fun D hD=>?_⟩;rw [Int.toNat_natCast];refine iF (N.2.1.zip M.2.1) apart (fun p v _=>v=tx p.1.1) hD (by rw [List.length_zip]; lia) (fun i H1 hi _=>by rw [List.length_zip] at hi; show i < hv.length; lia) (fun H1 _=>by rw [List.length_zip]; show hv.length<=_; lia) ?_ (fun _ _ _ _ _ _ _ h=>h) ?_ fun H5 vs s5 e5 p5=>?_
 ·rintro i H1 v H2 _ ⟨rfl,rfl⟩;exact Same.refl _
 ·rintro i x v H1 H2 out non hx s5 ⟨rfl,rfl⟩ ho hno;obtain ⟨m1,m2⟩:=List.getElem?_zip_eq_some.mp hx;obtain ⟨u,hu,r1⟩:=aH ph m1;obtain ⟨w,hw,r2⟩:=aH ph' m2;walk_at "rd";have i1:=cw hu;have i2:=cw hw;refine ⟨_,V.ref ha,.inr (SqT.of (s5 _ _ eN)),rfl,hv,u,.inl (SqL.of (s5 _ _ eh)),i1,_,V.ref ha',.inr (SqT.of (s5 _ _ eM)),rfl,hv',w,.inl (SqL.of (s5 _ _ eh')),i2,?_⟩;refine r6 (r1.same' s5) (r2.same' s5) ?_;by_cases g:apart x=true
  ·refine Eq.mpr (if_pos g) ⟨_,V.ref ha,.inr (SqT.of (s5 _ _ eN)),rfl,hv,u,.inl (SqL.of (s5 _ _ eh)),i1,?_⟩;obtain ⟨t1,q1,rfl,et1,_⟩:=r1;exact ⟨_,_,.inr (SqT.of (s5 _ _ et1)),rfl,ho _ _ g (Same.refl _) rfl⟩
  ·exact Eq.mpr (if_neg g) (hno _ (by simpa using g) (Same.refl _))
 ·obtain rfl:=lC p5;exact k D H5 s5 e5
theorem Like.symm' {N M:Net} (h:Like N M):Like M N:=⟨h.1.symm,h.2.1.symm,h.2.2.symm⟩
theorem Like.trans' {N M L:Net} (h:Like N M) (k:Like M L):Like N L:=⟨h.1.trans k.1,h.2.1.trans k.2.1,h.2.2.trans k.2.2⟩
theorem yZ {N M:Net} (h:Alike N M):Like N M:=⟨h.lay.symm,h.lines.symm,h.doors.symm⟩
theorem wF (l:List (List Nat)):eqD (.l (l.map fun d=>.f (tx d))) (.l (l.map fun d=>.f (tx d)))=true:=
 (jZ _ _ (by rw [gdD]; exact gN _ fun x _=>by rw [gdD]) (by rw [gdD]; exact gN _ fun x _=>by rw [gdD])).mpr rfl
noncomputable def kL (K:Frag):Sp:=az fun a=>aM fun H Q _=>∃ ns:List Int,SqL K H a (ns.map V.int)/\ns.length<=63/\(∃ c TT,PySem.W.tabIn K "longest_first" = some (c,TT)/\H TT=some (.tbl #[]))/\∀ H',Q (.bl true) H'
theorem AC (T:Top K mg) {f:Addr} {fd:FuncData} (F:Fun K "law" "law" uf f fd):FnOk P w K mg base CX0 28 f fd ["_law_script"] (kL K):=by
 refine F.ok kN (by unfold kL; exact LenSp.h) (fun cdv A outer s H vs Q E hr h=>?_);unfold kL at h;walk_at "el";refine ⟨_,(af (qo (aw (oy T) hr.m rfl (aa (qv 0) (aa ae (aa ae ad)))) (seqE K rfl rfl (n:=3) (ar (ak (i:=1) kN.nd rfl lc) (ar (ak (i:=2) kN.nd rfl lc) (ar (ak (i:=3) kN.nd rfl lc) bn)))))
   (af (au (i:=4) kN.nd rfl lc (aw (jo T).calm hr.m rfl (aa (qv 1) (aa (qv 2) (aa (aL ad) ad)))))
   (af (bU (PW.pt (uz (qi (im (oU .tuple rfl T.aN (qv 4) rfl T.qO rn))) (uz (aF iz (aB (lenE K rfl) rfl T.bZ bD (aa (qv 4) ad)) ae) (uz (aF iz (aq (ixE K rfl) (qv 4) ae (fun _ _=>rfl)) (qs [121,101,115])) (w4 (qi (im (oU .list rfl T.aN (aq (ixE K rfl) (qv 4) ae (fun _ _=>rfl)) rfl T.kZ lY)))))))) (ai (aC uy)) aO)
   (af (bU (aF (neDE K rfl hr) (aB (gD K rfl) rfl T.iU iX (aa (aq (ixE K rfl) (qv 4) ae (fun _ _=>rfl)) ad)) (aB (gD K rfl) rfl T.iU iX (aa (aw (nI T) hr.m rfl (aa (qv 1) (aa (qv 2) ad))) ad))) (ai (aC uy)) aO)
   (af (au (i:=5) kN.nd rfl lc (aw (nj T) hr.m rfl (aa (qv 0) (aa (qv 1) ad))))
   (ai (aC (wm (aw (dE T) hr.m rfl (aa (qv 5) (aa (qv 2) ad))) (wm (aw (dE T) hr.m rfl (aa (qv 2) (aa (qv 5) ad))) (AK (aw (dE T) hr.m rfl (aa (qv 1) (aa (qv 5) ad))))))))))))),?_⟩
 rename_i a;obtain ⟨ns,hS,_,⟨c,TT,ht,hT⟩,k⟩:=h;walk_at "rd";refine ⟨ns,hS,by decide,by decide,rfl,fun t0 q1 q2 v H1 N M s1 e1 hN hM nb mb al ng mg=>?_⟩;have lk:=yZ al;have hnd:=nb.nd.sublist (jE N M);have hul:(unlikeL N M).length<=4:=by
  have:=(jE N M).length_le;rw [List.length_map] at this;have:=nb.h4
  lia
 walk_at "rd";refine ⟨_,.inr (SqT.of e1),rfl,?_⟩;walk_at "rd";refine ⟨by decide,fun d0 hd0=>?_⟩;refine cy H1 _ hd0 fun H2 s2 e2=>?_
 refine ⟨N,M,hN.same s2,hM.same s2,nb.l,mb.l,e2,fun _=>⟨c,TT,nb,mb,ng,mg,ht,s2 _ _ (s1 _ _ hT),fun t r H3 s3 e3 er=>?_⟩,fun z=>absurd lk z⟩;have s13:=s2.trans s3;walk_at "rd";refine .inr ⟨⟨_,e3⟩,_,.inr (SqT.of e3),?_⟩;refine Eq.mpr (if_pos rfl) ⟨_,_,.inr (SqT.of e3),rfl,?_⟩;walk_at "rd";refine Eq.mpr (if_pos rfl) ⟨_,V.ref r,.inr (SqT.of e3),rfl,?_⟩;refine .inl ⟨⟨_,er⟩,_,V.ref r,.inr (SqT.of e3),rfl,?_⟩;walk_at "rd";refine ⟨unlikeL N M,.inl (SqL.of er),by lia,hnd,fun p1 hp1=>?_⟩;refine cy H3 _ hp1 fun H4 s4 e4=>?_
 have s14:=s13.trans s4;refine ⟨N,M,hN.same s14,hM.same s14,nb,(rT lk),fun D H5 s5 e5=>?_⟩;walk_at "rd";refine ⟨unlikeL N M,.inl (SqL.of e5),by lia,hnd,fun p2 hp2=>?_⟩;refine cy H5 _ hp2 fun H6 s6 e6=>?_
 have s16:=s14.trans (s5.trans s6);refine ⟨1,_,_,by decide,iK 0 (s6 _ _ (s5 _ _ e4)),iK 0 e6,?_⟩;rw [wF];walk_at "rd";have s06:=s1.trans s16;refine ⟨ns,N,s06.seq hS,hN.same s16,nb,fun v2 H7 s7 ⟨t2,L,e7,hF,fl,nF⟩=>?_⟩;subst e7;have s17:=s16.trans s7;have n1:¬ Like L M:=fun z=>nF (lk.trans' z.symm')
 refine ⟨L,M,hF,hM.same s17,fl,mb.l,n1,fun H8 s8=>?_⟩;walk_at "rd";refine ⟨M,L,hM.same (s17.trans s8),hF.same s8,mb.l,fl,fun z=>n1 z.symm',fun H9 s9=>?_⟩;walk_at "rd";exact ⟨N,L,hN.same (s17.trans (s8.trans s9)),hF.same (s8.trans s9),nb.l,fl,nF,fun H10 _=>k H10⟩
end
def DefI (K:Frag) (x:Str) (t:Stmt):Prop:=∃ (f:Addr) (od an:Option Addr) (sl:Array (Option Value)) (oc kV dc pm cd ct:Value),nsIn K mainGlobals x=some (some (.ref f))/\K.lookup f=some ⟨oc,od,.func (fnOf x x (defArgs t) (defBody t) (defScope t) .none kV dc pm an cd ct),sl⟩/\codeIn K cd x=true/\keepIn K (.ref f)=true
theorem DefI.of {K:Frag} {x:Str} {t:Stmt} {f:Addr} {od an:Option Addr} {sl:Array (Option Value)} {oc kV dc pm cd ct:Value} (a:nsIn K mainGlobals x=some (some (.ref f))) (l:K.lookup f=some ⟨oc,od,.func (fnOf x x (defArgs t) (defBody t) (defScope t) .none kV dc pm an cd ct),sl⟩) (c:codeIn K cd x=true) (k:keepIn K (.ref f)=true):DefI K x t:=⟨f,od,an,sl,oc,kV,dc,pm,cd,ct,a,l,c,k⟩
theorem DefI.fn {K:Frag} {h:Heap} {mg:Str->Option Value} {x:Str} {t:Stmt} (d:DefI K x t) (X:K.In h) (G:h.Ns mainGlobals mg):Fn K mg x t:=by
 obtain ⟨f,od,an,sl,oc,kV,dc,pm,cd,ct,a,l,c,k⟩:=d;exact ⟨_,_,kT (st:=t) l c k,mg_of X G a⟩
theorem DefI.cut {K:Frag} {x:Str} {t:Stmt} (d:DefI K x t):DefI (L2.cut K) x t:=by
 obtain ⟨f,od,an,sl,oc,kV,dc,pm,cd,ct,a,l,c,k⟩:=d;have e:=L2.cut_lookup l (by unfold L2.isTab; cases oc <;> rfl);exact ⟨f,od,an,sl,oc,kV,dc,pm,cd,ct,L2.cut_ns a,e,L2.cut_code c,L2.cut_keep e⟩
def ExcI (K:Frag) (x:Str) (C:Addr):Prop:=nsIn K mainGlobals x=some (some (.ref C))/\PySem.W.excIn K C bmV "ValueError.__new__" = true/\PySem.W.typeIn K (.ref C)=some (.type "type")/\PySem.W.mroIn K C (.type "BaseException")=some true/\findIn K (.ref C) "__getattribute__" = some (some (.builtin "BaseException.__getattribute__"))/\findIn K (.ref C) "__getattr__" = some none/\findIn K (.ref C) "__class__" = some (some (.builtin "object.__class__"))/\PySem.W.mroIn K C (.type "object")=some true
theorem ExcI.xn {K:Frag} {h:Heap} {mg:Str->Option Value} {x:Str} {C:Addr} (e:ExcI K x C) (X:K.In h) (G:h.Ns mainGlobals mg) (sgt:PySem.W.specialIn K (.builtin "object.__class__") "__get__" = some (some (.builtin "getset_descriptor.__get__"))) (stk:PySem.W.takesIn K (.builtin "object.__class__")=some true):Xn K mg x:=
 BH X G e.1 e.2.1 e.2.2.1 e.2.2.2.1 e.2.2.2.2.1 e.2.2.2.2.2.1 e.2.2.2.2.2.2.1 e.2.2.2.2.2.2.2 sgt stk
def MI (K:Frag) (C D:Addr):Prop:=PySem.W.mroIn K C (.ref D)=some false/\C≠D
theorem MI.of {K:Frag} {C D:Addr} (m:PySem.W.mroIn K C (.ref D)=some false) (d:C≠D):MI K C D:=⟨m,d⟩
theorem MI.xm {K:Frag} {C D:Addr} {x y:Str} (e:MI K C D) (n:nsIn K mainGlobals x=some (some (.ref C))) (n':nsIn K mainGlobals y=some (some (.ref D))):Xm K x y false:=wC n n' e.1 fun _=>e.2
theorem all_mk {K:Frag} {h:Heap} {mg:Str->Option Value} (X:K.In h) (G:h.Ns mainGlobals mg)
  {dO:Addr} (iS:nsIn K mainGlobals "Gate" = some (some (.ref dO))) (pg_Gate:PySem.W.plainGet K dO Str.empty=true) (hd_Gate:PySem.W.hasDictIn K dO=true) (po_Gate:PySem.W.plainOver K dO=true) (sa_Gate:findIn K (.ref dO) "__setattr__" = some (some (.builtin "object.__setattr__"))) (mk_Gate:PySem.W.makesIn K dO=true) (kc_Gate:keepIn K (.ref dO)=true)
  (at_Gate_rules:findIn K (.ref dO) "rules" = some none)
  (at_Gate_ways:findIn K (.ref dO) "ways" = some none)
  (at_Gate_rules_fork:findIn K (.ref dO) "rules_fork" = some none)
  (at_Gate_ways_fork:findIn K (.ref dO) "ways_fork" = some none)
  {cg:Addr} (cZ:nsIn K mainGlobals "Crowd" = some (some (.ref cg))) (pg_Crowd:PySem.W.plainGet K cg Str.empty=true) (hd_Crowd:PySem.W.hasDictIn K cg=true) (po_Crowd:PySem.W.plainOver K cg=true) (sa_Crowd:findIn K (.ref cg) "__setattr__" = some (some (.builtin "object.__setattr__"))) (mk_Crowd:PySem.W.makesIn K cg=true) (kc_Crowd:keepIn K (.ref cg)=true)
  (at_Crowd_layout:findIn K (.ref cg) "layout" = some none)
  (at_Crowd_houses:findIn K (.ref cg) "houses" = some none)
  (at_Crowd_ends:findIn K (.ref cg) "ends" = some none)
  (at_Crowd_gates:findIn K (.ref cg) "gates" = some none)
  (at_Crowd_by_rules:findIn K (.ref cg) "by_rules" = some none)
  (at_Crowd_shares:findIn K (.ref cg) "shares" = some none)
  (at_Crowd_known:findIn K (.ref cg) "known" = some none)
  {bp:Addr} (bN:nsIn K mainGlobals "Turner" = some (some (.ref bp))) (pg_Turner:PySem.W.plainGet K bp Str.empty=true) (hd_Turner:PySem.W.hasDictIn K bp=true) (po_Turner:PySem.W.plainOver K bp=true) (sa_Turner:findIn K (.ref bp) "__setattr__" = some (some (.builtin "object.__setattr__"))) (mk_Turner:PySem.W.makesIn K bp=true) (kc_Turner:keepIn K (.ref bp)=true)
  (at_Turner_one:findIn K (.ref bp) "one" = some none)
  (at_Turner_other:findIn K (.ref bp) "other" = some none)
  (at_Turner_demands:findIn K (.ref bp) "demands" = some none)
  (at_Turner_unlike:findIn K (.ref bp) "unlike" = some none)
  (at_Turner_one_gates:findIn K (.ref bp) "one_gates" = some none)
  (at_Turner_other_gates:findIn K (.ref bp) "other_gates" = some none)
  (at_Turner_judged:findIn K (.ref bp) "judged" = some none)
  (at_Turner_blocks:findIn K (.ref bp) "blocks" = some none)
  {TD:Addr} {ocT:Value} {odT:Option Addr} {nT:Nat} {slT:Array (Option Value)}
  {f41:Addr} {od41 an41:Option Addr} {sl41:Array (Option Value)} {oc41 kV41 dc41 pm41 cd41 ct41:Value}
  {f42:Addr} {od42 an42:Option Addr} {sl42:Array (Option Value)} {oc42 kV42 dc42 pm42 cd42 ct42:Value}
  {f43:Addr} {od43 an43:Option Addr} {sl43:Array (Option Value)} {oc43 kV43 dc43 pm43 cd43 ct43:Value}
  {f44:Addr} {od44 an44:Option Addr} {sl44:Array (Option Value)} {oc44 kV44 dc44 pm44 cd44 ct44:Value}
  {f45:Addr} {od45 an45:Option Addr} {sl45:Array (Option Value)} {oc45 kV45 dc45 pm45 cd45 ct45:Value}
  {f46:Addr} {od46 an46:Option Addr} {sl46:Array (Option Value)} {oc46 kV46 dc46 pm46 cd46 ct46:Value}
  (a0:DefI K "row_meet" jD)
  (a1:DefI K "row_narrowed" cV)
  (a2:DefI K "heap_width" gF)
  (a3:DefI K "heap_places" dz)
  (a4:DefI K "layout_width" cU)
  (a5:DefI K "field_span" g8)
  (a6:DefI K "fork_of" de)
  (a7:DefI K "firsts_of" iw)
  (a8:DefI K "fork_below" gS)
  (a9:DefI K "firsts_side" du)
  (a10:DefI K "longest_first" dI)
  (a11:DefI K "way_row" kD)
  (a12:DefI K "gate_rules" gH)
  (a13:DefI K "to_row" nr)
  (a14:DefI K "line_ends" iJ)
  (a15:DefI K "check_changeable" cR)
  (a16:DefI K "net_doors" fz)
  (a17:DefI K "house_doors" dA)
  (a18:DefI K "mixed_by" gA)
  (a19:DefI K "turn_order" gX)
  (a20:DefI K "net_gates" ir)
  (a21:DefI K "first_broken" eF)
  (a22:DefI K "_law_by" kY)
  (a23:DefI K "_law_names" b9)
  (a24:DefI K "_law_layout" ge)
  (a25:DefI K "_law_row" gK)
  (a26:DefI K "_law_rule" fG)
  (a27:DefI K "_law_signs" ee)
  (a28:DefI K "_law_ways" fI)
  (a29:DefI K "_law_house" cB)
  (a30:DefI K "_law_lines" gJ)
  (a31:DefI K "_law_net" gZ)
  (a32:DefI K "_law_padded" fU)
  (a33:DefI K "_law_wider" dX)
  (a34:DefI K "_law_rule_padded" cP)
  (a35:DefI K "_law_twins" dU)
  (a36:DefI K "_law_stranger" cM)
  (a37:DefI K "_law_unlike" dw)
  (a38:DefI K "_law_refused" eZ)
  (a39:DefI K "_law_turned" ap)
  (a40:DefI K "law" uf)
  (a41:findIn K (.ref dO) "__init__" = some (some (.ref f41))) (l41:K.lookup f41=some ⟨oc41,od41,.func (fnOf "__init__" "Gate.__init__" (defArgs aY) (defBody aY) (defScope aY) .none kV41 dc41 pm41 an41 cd41 ct41),sl41⟩) (c41:codeIn K cd41 "Gate.__init__" = true) (k41:keepIn K (.ref f41)=true) (w41:PySem.W.isFn K (.ref f41)=true)
  (a42:findIn K (.ref cg) "__init__" = some (some (.ref f42))) (l42:K.lookup f42=some ⟨oc42,od42,.func (fnOf "__init__" "Crowd.__init__" (defArgs bz) (defBody bz) (defScope bz) (.ref TD) kV42 dc42 pm42 an42 cd42 ct42),sl42⟩) (c42:codeIn K cd42 "Crowd.__init__" = true) (k42:keepIn K (.ref f42)=true) (w42:PySem.W.isFn K (.ref f42)=true) (lTD:K.lookup TD=some ⟨ocT,odT,.seq [Value.bool false].toArray nT,slT⟩)
  (a43:findIn K (.ref bp) "__init__" = some (some (.ref f43))) (l43:K.lookup f43=some ⟨oc43,od43,.func (fnOf "__init__" "Turner.__init__" (defArgs aP) (defBody aP) (defScope aP) .none kV43 dc43 pm43 an43 cd43 ct43),sl43⟩) (c43:codeIn K cd43 "Turner.__init__" = true) (k43:keepIn K (.ref f43)=true) (w43:PySem.W.isFn K (.ref f43)=true)
  (a44:findIn K (.ref bp) "order_behind" = some (some (.ref f44))) (l44:K.lookup f44=some ⟨oc44,od44,.func (fnOf "order_behind" "Turner.order_behind" (defArgs aK) (defBody aK) (defScope aK) .none kV44 dc44 pm44 an44 cd44 ct44),sl44⟩) (c44:codeIn K cd44 "Turner.order_behind" = true) (k44:keepIn K (.ref f44)=true) (w44:PySem.W.isFn K (.ref f44)=true)
  (a45:findIn K (.ref bp) "broken_by" = some (some (.ref f45))) (l45:K.lookup f45=some ⟨oc45,od45,.func (fnOf "broken_by" "Turner.broken_by" (defArgs bq) (defBody bq) (defScope bq) .none kV45 dc45 pm45 an45 cd45 ct45),sl45⟩) (c45:codeIn K cd45 "Turner.broken_by" = true) (k45:keepIn K (.ref f45)=true) (w45:PySem.W.isFn K (.ref f45)=true)
  (a46:findIn K (.ref bp) "crowd_of" = some (some (.ref f46))) (l46:K.lookup f46=some ⟨oc46,od46,.func (fnOf "crowd_of" "Turner.crowd_of" (defArgs bt) (defBody bt) (defScope bt) .none kV46 dc46 pm46 an46 cd46 ct46),sl46⟩) (c46:codeIn K cd46 "Turner.crowd_of" = true) (k46:keepIn K (.ref f46)=true) (w46:PySem.W.isFn K (.ref f46)=true)
  (ye:nsIn K mainGlobals "zip" = some none)
  (yb:nsIn K mainGlobals "len" = some none)
  (qP:nsIn K mainGlobals "range" = some none)
  (ya:nsIn K mainGlobals "any" = some none)
  (yh:nsIn K mainGlobals "sum" = some none)
  (iW:nsIn K mainGlobals "enumerate" = some none)
  (nZ:nsIn K mainGlobals "sorted" = some none)
  (ue:nsIn K mainGlobals "list" = some none)
  (yc:nsIn K mainGlobals "max" = some none)
  (hX:nsIn K mainGlobals "isinstance" = some none)
  (h9:nsIn K mainGlobals "ValueError" = some none)
  (jK:nsIn K mainGlobals "reversed" = some none)
  (qS:nsIn K mainGlobals "tuple" = some none)
  (ud:nsIn K mainGlobals "dict" = some none)
  {pQ:Addr} (i8:ExcI K "NoField" pQ)
  {sj:Addr} (j8:ExcI K "NoDoor" sj)
  {bV:Addr} (bE:ExcI K "Unlike" bV)
  {js:Addr} (dB:ExcI K "ThrongError" js)
  {se:Addr} (ke:ExcI K "Misfit" se)
  {uG:Addr} (mi:ExcI K "Twice" uG)
  {sf:Addr} (kf:ExcI K "NoRule" sf)
  {uF:Addr} (mj:ExcI K "NoWay" uF)
  {pU:Addr} (i6:ExcI K "NoHouse" pU)
  {sk:Addr} (kx:ExcI K "NoLine" sk)
  {pR:Addr} (i7:ExcI K "BadWord" pR)
  (sgt:PySem.W.specialIn K (.builtin "object.__class__") "__get__" = some (some (.builtin "getset_descriptor.__get__"))) (stk:PySem.W.takesIn K (.builtin "object.__class__")=some true)
  (gu:PySem.W.mroIn K bV (.type "ValueError")=some true)
  (bd:PySem.W.mroIn K bV (.ref js)=some true)
  (bP:MI K bV se)
  (bY:MI K bV uG)
  (bK:MI K bV pQ)
  (bT:PySem.W.mroIn K bV (.ref bV)=some true)
  (bR:MI K bV sf)
  (bX:MI K bV uF)
  (bQ:MI K bV sj)
  (bL:MI K bV pU)
  (bS:MI K bV sk)
  (bJ:MI K bV pR)
  (lam_longest_first:∃ c T,LamFn K mg "longest_first" c T)
  : Top K mg where
 c_Gate:=qI X G iS pg_Gate hd_Gate po_Gate sa_Gate
 a_Gate_rules:=aS iS at_Gate_rules
 a_Gate_ways:=aS iS at_Gate_ways
 a_Gate_rules_fork:=aS iS at_Gate_rules_fork
 a_Gate_ways_fork:=aS iS at_Gate_ways_fork
 c_Crowd:=qI X G cZ pg_Crowd hd_Crowd po_Crowd sa_Crowd
 a_Crowd_layout:=aS cZ at_Crowd_layout
 a_Crowd_houses:=aS cZ at_Crowd_houses
 a_Crowd_ends:=aS cZ at_Crowd_ends
 a_Crowd_gates:=aS cZ at_Crowd_gates
 a_Crowd_by_rules:=aS cZ at_Crowd_by_rules
 a_Crowd_shares:=aS cZ at_Crowd_shares
 a_Crowd_known:=aS cZ at_Crowd_known
 c_Turner:=qI X G bN pg_Turner hd_Turner po_Turner sa_Turner
 a_Turner_one:=aS bN at_Turner_one
 a_Turner_other:=aS bN at_Turner_other
 a_Turner_demands:=aS bN at_Turner_demands
 a_Turner_unlike:=aS bN at_Turner_unlike
 a_Turner_one_gates:=aS bN at_Turner_one_gates
 a_Turner_other_gates:=aS bN at_Turner_other_gates
 a_Turner_judged:=aS bN at_Turner_judged
 a_Turner_blocks:=aS bN at_Turner_blocks
 n6:=a0.fn X G
 iT:=a1.fn X G
 kq:=a2.fn X G
 jw:=a3.fn X G
 iV:=a4.fn X G
 kn:=a5.fn X G
 pV:=a6.fn X G
 lM:=a7.fn X G
 h8:=a8.fn X G
 ju:=a9.fn X G
 ik:=a10.fn X G
 pS:=a11.fn X G
 km:=a12.fn X G
 si:=a13.fn X G
 lL:=a14.fn X G
 fm:=a15.fn X G
 lN:=a16.fn X G
 jq:=a17.fn X G
 nU:=a18.fn X G
 j9:=a19.fn X G
 lH:=a20.fn X G
 iP:=a21.fn X G
 pT:=a22.fn X G
 kj:=a23.fn X G
 jr:=a24.fn X G
 nS:=a25.fn X G
 lI:=a26.fn X G
 kh:=a27.fn X G
 lJ:=a28.fn X G
 ku:=a29.fn X G
 kg:=a30.fn X G
 nW:=a31.fn X G
 jt:=a32.fn X G
 kr:=a33.fn X G
 fq:=a34.fn X G
 j7:=a35.fn X G
 ij:=a36.fn X G
 jv:=a37.fn X G
 iO:=a38.fn X G
 jp:=a39.fn X G
 Ae:=a40.fn X G
 gx:=wb iS mk_Gate kc_Gate a41 w41 (kT (st:=aY) l41 c41 k41)
 fK:=AH cZ mk_Crowd kc_Crowd a42 w42 (ym (st:=bz) l42 c42 k42 lTD)
 fk:=wb bN mk_Turner kc_Turner a43 w43 (kT (st:=aP) l43 c43 k43)
 cf:=nM bN a44 w44 k44 (kT (st:=aK) l44 c44 k44)
 dQ:=nM bN a45 w45 k45 (kT (st:=bq) l45 c45 k45)
 fj:=nM bN a46 w46 k46 (kT (st:=bt) l46 c46 k46)
 uH:=PySem.W.mg_none_of X G ye
 bZ:=PySem.W.mg_none_of X G yb
 ci:=PySem.W.mg_none_of X G qP
 Af:=PySem.W.mg_none_of X G ya
 yg:=PySem.W.mg_none_of X G yh
 iQ:=PySem.W.mg_none_of X G iW
 iU:=PySem.W.mg_none_of X G nZ
 kZ:=PySem.W.mg_none_of X G ue
 yd:=PySem.W.mg_none_of X G yc
 aN:=PySem.W.mg_none_of X G hX
 ki:=PySem.W.mg_none_of X G h9
 jL:=PySem.W.mg_none_of X G jK
 qO:=PySem.W.mg_none_of X G qS
 yf:=PySem.W.mg_none_of X G ud
 lam_longest_first:=lam_longest_first
 gy:=i8.xn X G sgt stk
 iR:=j8.xn X G sgt stk
 cL:=bE.xn X G sgt stk
 gf:=dB.xn X G sgt stk
 nY:=ke.xn X G sgt stk
 qR:=mi.xn X G sgt stk
 nR:=kf.xn X G sgt stk
 qQ:=mj.xn X G sgt stk
 lf:=i6.xn X G sgt stk
 nX:=kx.xn X G sgt stk
 lb:=i7.xn X G sgt stk
 gu:=BJ bE.1 gu
 bd:=wC bE.1 dB.1 bd (fun z=>nomatch z)
 bP:=bP.xm bE.1 ke.1
 bY:=bY.xm bE.1 mi.1
 bK:=bK.xm bE.1 i8.1
 bT:=wC bE.1 bE.1 bT (fun z=>nomatch z)
 bR:=bR.xm bE.1 kf.1
 bX:=bX.xm bE.1 mj.1
 bQ:=bQ.xm bE.1 j8.1
 bL:=bL.xm bE.1 i6.1
 bS:=bS.xm bE.1 kx.1
 bJ:=bJ.xm bE.1 i7.1
theorem law_bind {P:Program} {w:World} {K:Frag} {mg:Str->Option Value} (T:Top K mg):∃ f fd,(∀ base:Heap,FnOk P w K mg base CX0 28 f fd ["_law_script"] (kL K))/\(∀ (s:Shared) (u:Value),BindsTo s fd ⟨[u],[]⟩ [("_law_script",u)])/\mg "law" = some (.ref f):=by
 obtain ⟨f,fd,F,m⟩:=T.Ae;refine ⟨f,fd,fun base=>AC T F,?_,m⟩;obtain ⟨oc,od,kV,doc,pm,an,cdv,ct,osl,rfl,lk,hcd⟩:=F.ex;exact fun s u=>.of_eq rfl
theorem walk {l:PySem.W.OpenLaw} {q:Program} {loose:List Str} {XP:(Str->Option Value)->Heap->Prop} {d:DefRec} {K:Params->Frag} {as:List Addr} {nn tt:Nat} {c T:Addr} (hn:l.most=some 63) (hdf:d.params.defaults=[]) (has:∀ P,as=(K P).map (·.1)) (htt:0 < tt)
  (hT:∀ (w:World),L2.LamOk (K w.params) "longest_first" c T)
  (F:∀ (w:World) (mg:Str->Option Value) (fa:Addr) (h:Heap),L2.LamOk (K w.params) "longest_first" c T->(L2.cut (K w.params)).In h->h.Ns mainGlobals mg->mg d.name=some (.ref fa) ->
   ∃ fd:FuncData,(∀ (s:Shared) (u:Value),BindsTo s fd ⟨[u],[]⟩ [("_law_script",u)])/\∀ base:Heap,(L2.cut (K w.params)).In base->base.Ns mainGlobals mg->FnOk l.prog w (L2.cut (K w.params)) mg base CX0 28 fa fd ["_law_script"] (kL (L2.cut (K w.params)))):
  PySem.W.WalkX q loose XP (PySem.W.X.obsZ as) (PySem.W.X.valZ K nn tt) l.row.toRowW d [] (fun f vs=>PySem.call f vs):=
 L2.walk_ofXT (n:=63) (k:=28) (x := "_law_script") (c:=c) (T:=T) (K:=fun p=>L2.cut (K p)) (CX:=fun _=>CX0) (sp:=fun w=>kL (L2.cut (K w.params))) hn (by decide) hdf ⟨rfl,by decide,by decide,rfl⟩ (fun w s Y=>(hT w).zz Y has htt) (fun w mg fa h=>F w mg fa h (hT w)) (fun w _ a ns hl hH hS=>⟨ns,hS,hl,⟨c,T,L2.cut_tab (hT w).tb,hH⟩,fun _=>rfl⟩) fun _ _ _ _ _ z=>z
end Law
open PySem PySem.W PyProof.Rows
local macro_rules | `(tactic| walk_at "mi")=>`(tactic| (refine' Law.MI.of ?m ?d; (case m=>refine L2.cut_mro ?_; k_is); (case d=>decide)))
local macro_rules | `(tactic| walk_at "df")=>`(tactic| (refine' Law.DefI.of ?a ?l ?c ?k; (case a=>k_is); (case l=>k_is); (case c=>k_is); (case k=>k_is)))
local macro_rules | `(tactic| walk_at "ec")=>`(tactic| (refine' ⟨?n,?q,?t,?b,?g,?h,?a,?o⟩; (case n=>k_is); (case q=>k_exc); (case t=>k_is); (case b=>k_is); (case g=>k_is); (case h=>k_is); (case a=>k_is); (case o=>k_is)))
local macro_rules | `(tactic| walk_at "ecc")=>`(tactic| (refine' ⟨?n,?q,?t,?b,?g,?h,?a,?o⟩; (case n=>refine L2.cut_ns ?_; k_is); (case q=>refine L2.cut_exc ?_; k_exc); (case t=>refine L2.cut_type ?_ (by nofun); k_is); (case b=>refine L2.cut_mro ?_; k_is); (case g=>refine L2.cut_find ?_; k_is); (case h=>refine L2.cut_find ?_; k_is); (case a=>refine L2.cut_find ?_; k_is); (case o=>refine L2.cut_mro ?_; k_is)))
set_option maxRecDepth 100000 in
set_option maxHeartbeats 0 in
theorem PySem.Challenge.cw_throng_k74_turns_refused_holds : PySem.Challenge.rw_throng_k74_turns_refused.Holds := by
 w_on; o_law; z_head; (case hw=>w_witness2)
 k_fill
 refine' Law.walk (l:=PySem.Challenge.rw_throng_k74_turns_refused) (c:=?c) (T:=?T) rfl rfl (fun _=>rfl) (by decide) ?hT ?F
 case hT=>
  intro w;refine' L2.lamok_mk ?a ?l ?hcd ?e1 ?e2 ?e4 ?e5 ?e6 ?e7 ?ne ?b1 ?b2 ?b3 ?b4 ?eT
  (case a=>k_is); (case l=>k_is); (case hcd=>rfl); (case e1=>k_is); (case e2=>rfl); (case e4=>rfl); (case e5=>rfl); (case e6=>rfl); (case e7=>rfl); (case ne=>decide); (case b1=>k_is); (case b4=>k_is); (case b2=>decide); (case b3=>decide); (case eT=>k_is)
 case F=>
  intro w mg fa h LO KX G hmg;have T:Law.Top (L2.KOf KX) mg:=by
   dsimp only [L2.KOf];refine' Law.all_mk KX G ?iS ?pg_Gate ?hd_Gate ?po_Gate ?sa_Gate ?mk_Gate ?kc_Gate ?at_Gate_rules ?at_Gate_ways ?at_Gate_rules_fork ?at_Gate_ways_fork ?cZ ?pg_Crowd ?hd_Crowd ?po_Crowd ?sa_Crowd ?mk_Crowd ?kc_Crowd ?at_Crowd_layout ?at_Crowd_houses ?at_Crowd_ends ?at_Crowd_gates ?at_Crowd_by_rules ?at_Crowd_shares ?at_Crowd_known ?bN ?pg_Turner ?hd_Turner ?po_Turner ?sa_Turner ?mk_Turner ?kc_Turner ?at_Turner_one ?at_Turner_other ?at_Turner_demands ?at_Turner_unlike ?at_Turner_one_gates ?at_Turner_other_gates ?at_Turner_judged ?at_Turner_blocks ?a0 ?a1 ?a2 ?a3 ?a4 ?a5 ?a6 ?a7 ?a8 ?a9 ?a10 ?a11 ?a12 ?a13 ?a14 ?a15 ?a16 ?a17 ?a18 ?a19 ?a20 ?a21 ?a22 ?a23 ?a24 ?a25 ?a26 ?a27 ?a28 ?a29 ?a30 ?a31 ?a32 ?a33 ?a34 ?a35 ?a36 ?a37 ?a38 ?a39 ?a40 ?a41 ?l41 ?c41 ?k41 ?w41 ?a42 ?l42 ?c42 ?k42 ?w42 ?lTD ?a43 ?l43 ?c43 ?k43 ?w43 ?a44 ?l44 ?c44 ?k44 ?w44 ?a45 ?l45 ?c45 ?k45 ?w45 ?a46 ?l46 ?c46 ?k46 ?w46 ?ye ?yb ?qP ?ya ?yh ?iW ?nZ ?ue ?yc ?hX ?h9 ?jK ?qS ?ud ?i8 ?j8 ?bE ?dB ?ke ?mi ?kf ?mj ?i6 ?kx ?i7 ?sgt ?stk ?gu ?bd ?bP ?bY ?bK ?bT ?bR ?bX ?bQ ?bL ?bS ?bJ ⟨_,_,LO.fn KX G⟩
   (case iS=>refine L2.cut_ns ?_; k_is); (case pg_Gate=>refine L2.cut_get ?_; k_is); (case hd_Gate=>refine L2.cut_hasDict ?_; k_is); (case po_Gate=>refine L2.cut_over ?_; k_is); (case sa_Gate=>refine L2.cut_find ?_; k_is); (case mk_Gate=>refine L2.cut_makes ?_; k_is); (case kc_Gate=>refine' L2.cut_keepM ?m ?k; (case m=>k_is); (case k=>k_is))
   (case at_Gate_rules=>refine L2.cut_find ?_; k_is)
   (case at_Gate_ways=>refine L2.cut_find ?_; k_is)
   (case at_Gate_rules_fork=>refine L2.cut_find ?_; k_is)
   (case at_Gate_ways_fork=>refine L2.cut_find ?_; k_is)
   (case cZ=>refine L2.cut_ns ?_; k_is); (case pg_Crowd=>refine L2.cut_get ?_; k_is); (case hd_Crowd=>refine L2.cut_hasDict ?_; k_is); (case po_Crowd=>refine L2.cut_over ?_; k_is); (case sa_Crowd=>refine L2.cut_find ?_; k_is); (case mk_Crowd=>refine L2.cut_makes ?_; k_is); (case kc_Crowd=>refine' L2.cut_keepM ?m ?k; (case m=>k_is); (case k=>k_is))
   (case at_Crowd_layout=>refine L2.cut_find ?_; k_is)
   (case at_Crowd_houses=>refine L2.cut_find ?_; k_is)
   (case at_Crowd_ends=>refine L2.cut_find ?_; k_is)
   (case at_Crowd_gates=>refine L2.cut_find ?_; k_is)
   (case at_Crowd_by_rules=>refine L2.cut_find ?_; k_is)
   (case at_Crowd_shares=>refine L2.cut_find ?_; k_is)
   (case at_Crowd_known=>refine L2.cut_find ?_; k_is)
   (case bN=>refine L2.cut_ns ?_; k_is); (case pg_Turner=>refine L2.cut_get ?_; k_is); (case hd_Turner=>refine L2.cut_hasDict ?_; k_is); (case po_Turner=>refine L2.cut_over ?_; k_is); (case sa_Turner=>refine L2.cut_find ?_; k_is); (case mk_Turner=>refine L2.cut_makes ?_; k_is); (case kc_Turner=>refine' L2.cut_keepM ?m ?k; (case m=>k_is); (case k=>k_is))
   (case at_Turner_one=>refine L2.cut_find ?_; k_is)
   (case at_Turner_other=>refine L2.cut_find ?_; k_is)
   (case at_Turner_demands=>refine L2.cut_find ?_; k_is)
   (case at_Turner_unlike=>refine L2.cut_find ?_; k_is)
   (case at_Turner_one_gates=>refine L2.cut_find ?_; k_is)
   (case at_Turner_other_gates=>refine L2.cut_find ?_; k_is)
   (case at_Turner_judged=>refine L2.cut_find ?_; k_is)
   (case at_Turner_blocks=>refine L2.cut_find ?_; k_is)
   (case a0=>refine Law.DefI.cut ?_; walk_at "df")
   (case a1=>refine Law.DefI.cut ?_; walk_at "df")
   (case a2=>refine Law.DefI.cut ?_; walk_at "df")
   (case a3=>refine Law.DefI.cut ?_; walk_at "df")
   (case a4=>refine Law.DefI.cut ?_; walk_at "df")
   (case a5=>refine Law.DefI.cut ?_; walk_at "df")
   (case a6=>refine Law.DefI.cut ?_; walk_at "df")
   (case a7=>refine Law.DefI.cut ?_; walk_at "df")
   (case a8=>refine Law.DefI.cut ?_; walk_at "df")
   (case a9=>refine Law.DefI.cut ?_; walk_at "df")
   (case a10=>refine Law.DefI.cut ?_; walk_at "df")
   (case a11=>refine Law.DefI.cut ?_; walk_at "df")
   (case a12=>refine Law.DefI.cut ?_; walk_at "df")
   (case a13=>refine Law.DefI.cut ?_; walk_at "df")
   (case a14=>refine Law.DefI.cut ?_; walk_at "df")
   (case a15=>refine Law.DefI.cut ?_; walk_at "df")
   (case a16=>refine Law.DefI.cut ?_; walk_at "df")
   (case a17=>refine Law.DefI.cut ?_; walk_at "df")
   (case a18=>refine Law.DefI.cut ?_; walk_at "df")
   (case a19=>refine Law.DefI.cut ?_; walk_at "df")
   (case a20=>refine Law.DefI.cut ?_; walk_at "df")
   (case a21=>refine Law.DefI.cut ?_; walk_at "df")
   (case a22=>refine Law.DefI.cut ?_; walk_at "df")
   (case a23=>refine Law.DefI.cut ?_; walk_at "df")
   (case a24=>refine Law.DefI.cut ?_; walk_at "df")
   (case a25=>refine Law.DefI.cut ?_; walk_at "df")
   (case a26=>refine Law.DefI.cut ?_; walk_at "df")
   (case a27=>refine Law.DefI.cut ?_; walk_at "df")
   (case a28=>refine Law.DefI.cut ?_; walk_at "df")
   (case a29=>refine Law.DefI.cut ?_; walk_at "df")
   (case a30=>refine Law.DefI.cut ?_; walk_at "df")
   (case a31=>refine Law.DefI.cut ?_; walk_at "df")
   (case a32=>refine Law.DefI.cut ?_; walk_at "df")
   (case a33=>refine Law.DefI.cut ?_; walk_at "df")
   (case a34=>refine Law.DefI.cut ?_; walk_at "df")
   (case a35=>refine Law.DefI.cut ?_; walk_at "df")
   (case a36=>refine Law.DefI.cut ?_; walk_at "df")
   (case a37=>refine Law.DefI.cut ?_; walk_at "df")
   (case a38=>refine Law.DefI.cut ?_; walk_at "df")
   (case a39=>refine Law.DefI.cut ?_; walk_at "df")
   (case a40=>refine Law.DefI.cut ?_; walk_at "df")
   (case a41=>refine L2.cut_find ?_; k_is); (case l41=>refine' L2.cut_lookup ?x ?y; (case x=>k_is); (case y=>rfl)); (case c41=>refine L2.cut_code ?_; k_is); (case k41=>refine L2.cut_keepF ?_; k_is); (case w41=>refine L2.cut_isFn ?_; k_is)
   (case a42=>refine L2.cut_find ?_; k_is); (case l42=>refine' L2.cut_lookup ?x ?y; (case x=>k_is); (case y=>rfl)); (case c42=>refine L2.cut_code ?_; k_is); (case k42=>refine L2.cut_keepF ?_; k_is); (case w42=>refine L2.cut_isFn ?_; k_is)
   (case lTD=>refine' L2.cut_lookup ?x ?y; (case x=>k_is); (case y=>rfl))
   (case a43=>refine L2.cut_find ?_; k_is); (case l43=>refine' L2.cut_lookup ?x ?y; (case x=>k_is); (case y=>rfl)); (case c43=>refine L2.cut_code ?_; k_is); (case k43=>refine L2.cut_keepF ?_; k_is); (case w43=>refine L2.cut_isFn ?_; k_is)
   (case a44=>refine L2.cut_find ?_; k_is); (case l44=>refine' L2.cut_lookup ?x ?y; (case x=>k_is); (case y=>rfl)); (case c44=>refine L2.cut_code ?_; k_is); (case k44=>refine L2.cut_keepF ?_; k_is); (case w44=>refine L2.cut_isFn ?_; k_is)
   (case a45=>refine L2.cut_find ?_; k_is); (case l45=>refine' L2.cut_lookup ?x ?y; (case x=>k_is); (case y=>rfl)); (case c45=>refine L2.cut_code ?_; k_is); (case k45=>refine L2.cut_keepF ?_; k_is); (case w45=>refine L2.cut_isFn ?_; k_is)
   (case a46=>refine L2.cut_find ?_; k_is); (case l46=>refine' L2.cut_lookup ?x ?y; (case x=>k_is); (case y=>rfl)); (case c46=>refine L2.cut_code ?_; k_is); (case k46=>refine L2.cut_keepF ?_; k_is); (case w46=>refine L2.cut_isFn ?_; k_is)
   (case ye=>refine L2.cut_ns ?_; k_is)
   (case yb=>refine L2.cut_ns ?_; k_is)
   (case qP=>refine L2.cut_ns ?_; k_is)
   (case ya=>refine L2.cut_ns ?_; k_is)
   (case yh=>refine L2.cut_ns ?_; k_is)
   (case iW=>refine L2.cut_ns ?_; k_is)
   (case nZ=>refine L2.cut_ns ?_; k_is)
   (case ue=>refine L2.cut_ns ?_; k_is)
   (case yc=>refine L2.cut_ns ?_; k_is)
   (case hX=>refine L2.cut_ns ?_; k_is)
   (case h9=>refine L2.cut_ns ?_; k_is)
   (case jK=>refine L2.cut_ns ?_; k_is)
   (case qS=>refine L2.cut_ns ?_; k_is)
   (case ud=>refine L2.cut_ns ?_; k_is)
   (case i8 | j8 | bE | dB | ke | mi | kf | mj | i6 | kx | i7=>walk_at "ecc")
   (case sgt=>refine L2.cut_special ?_; k_is); (case stk=>refine L2.cut_takes ?_; k_is)
   (case gu=>refine L2.cut_mro ?_; k_is)
   (case bd=>refine L2.cut_mro ?_; k_is)
   (case bP | bY | bK=>walk_at "mi")
   (case bT=>refine L2.cut_mro ?_; k_is)
   (case bR | bX | bQ | bL | bS | bJ=>walk_at "mi")
  obtain ⟨f,fd,F,b,m⟩:=Law.law_bind (P:=PySem.Challenge.pw_throng_k74_turns_refused) (w:=w) T;have e0:=hmg.symm.trans m;cases e0;exact ⟨fd,b,fun base _ _=>F base⟩
#print axioms PySem.Challenge.cw_throng_k74_turns_refused_holds
