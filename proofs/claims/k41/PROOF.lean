import PyProof.Rows.All
import Wide.All
import OpenK.AllK
import Wide.FinOn
import Lean
import PyProof.EqAt
import PyProof.EqKinds
import PyProof.TupleCall
import KE.KLam
import KE.KSortKey
import KE.KSorted
import KE.KTabLook
import PySem.Challenge.RW_throng_k41_no_walk
namespace PySem.W.Fast
def tw9415169288796226417:=0
def tw9145369518733586786:=0
def tw8862651260351431002:=0
def tw8282808474203933743:=0
def tw17665039169130972697:=0
def tw13747934816497690054:=0
def tw9793482145296362928:=0
def tw8320436769515229437:=0
def tw8789319777897578081:=0
def tw6980027462955994361:=0
def tw2590234033667207913:=0
def tw4969370808845124616:=0
def tw3978784879922372154:=0
def tw5648927136201704741:=0
def tw6299997223472224852:=0
def tw13716948362874259626:=0
def tw8895373457605921356:=0
def tw8686577207441737198:=0
def tw15047307965951142497:=0
def tw11769575499401589490:=0
def tw18098441452957538800:=0
def tw17683232390509449068:=0
def tw5822897841272869148:=0
def tw13744765145277044536:=0
def tw8468470813787800627:=0
def tw3336526549318786524:=0
def tw7952033721944127711:=0
def tw5199718708580450078:=0
def tw15765556106733419505:=0
def tw9081729760347697446:=0
def tw558667769727624014:=0
def tw7759945659696574228:=0
def tw17313766067412481637:=0
def tw14458847023394366520:=0
def tw15079819413846902986:=0
def tw17631056570590288647:=0
def tw542900149011861945:=0
def tw2829724496996774107:=0
def tw5938418647169823362:=0
def tw12450696913643427826:=0
def tw12947158795434018287:=0
def tw7410196262699382534:=0
def tw17899663395059790229:=0
def tw12361441203811642341:=0
def tw7335006254060311111:=0
def tw14261857986767637536:=0
def tw12021955698232480032:=0
def tw15195234388137044211:=0
def tw13982933608847765485:=0
def tw4075865528345090318:=0
def tw14781477960844418346:=0
def tw5374447889994564239:=0
def tw14958060799496336251:=0
def tw14192242899115334006:=0
def tw4181463086578336988:=0
def tw3330814627700028938:=0
def tw17063746889775889257:=0
def tw1727093366007539424:=0
def tw1992330099346323572:=0
def tw7719875228004360005:=0
def tw6212170158270998959:=0
def tw18094987134458841029:=0
def tw3571255730209127629:=0
def tw17701001539382162453:=0
def tw17525789387529602516:=0
def tw3491773293399723642:=0
def tw4926492220692051621:=0
def tw10851125121764527597:=0
def tw13828257430515018173:=0
def tw17752300965358920172:=0
def tw11897370888012543308:=0
def tw9614817538870091977:=0
def tw7420788413609732217:=0
def tw12805937341976216152:=0
def tw9166578406525159635:=0
def tw7725551405786379094:=0
def tw7487744625185928874:=0
def tw11244333081356460477:=0
def tw1809628012429790664:=0
def tw17609538165325999649:=0
def tw2071791689596110223:=0
def tw4647687813428560522:=0
def tw3958457837125651263:=0
def tw11139878739990804247:=0
def tw12793907678941892229:=0
def tw13907207093160826845:=0
def tw15775453154096581364:=0
def tw655170433386477637:=0
def tw18254025076487599494:=0
def tw18336622521578741850:=0
def tw3728990155593317547:=0
def tw10961260106744783266:=0
def tw10456128538913843730:=0
def tw11319101151443469914:=0
def tw6356775614839800391:=0
def tw3919137861087724579:=0
def tw8309322148737794061:=0
def tw4701695664652771205:=0
def tw5064587438810961348:=0
def tw10252520629628975312:=0
def tw4892429125776994688:=0
def tw3762479776117786125:=0
def tw2192561230954893772:=0
def tw5702229244092476964:=0
def tw14598093862904606977:=0
def tw12155307822099581250:=0
def tw6945363430885022101:=0
def tw8327855520019746638:=0
def tw14121383205594298857:=0
def tw15979966834365062335:=0
def tw4455380631367929127:=0
def tw8628353176363537136:=0
def tw10216670282753676318:=0
def tw13587989540165673818:=0
def tw13028194718250686338:=0
def tw15957740843409101946:=0
def tw10118694399579287643:=0
def tw15643575332934100913:=0
def tw1962715598626459736:=0
def tw10917713211380584119:=0
def tw11157216755195662319:=0
def tw7750269494511228106:=0
def tw13112273095566796066:=0
def tw10656948886458119601:=0
def tw11474366091467812789:=0
def tw776970635652800856:=0
def tw16885618243845662904:=0
def tw2044315446103271522:=0
def tw14837616848862908492:=0
def tw3500856253600512009:=0
def tw6555598740412950273:=0
def tw1336887330833838117:=0
def tw5383565848515349997:=0
def tw14203427268595014361:=0
def tw17020389807298623525:=0
def tw7395614621452843193:=0
def tw15556107408607006442:=0
def tw10619299958230826757:=0
def tw606942903803273262:=0
def tw11230061262312902766:=0
def tw17938320945410040221:=0
def tw7779478347092637489:=0
def tw14118186553344076157:=0
def tw6641249718642892784:=0
def tw15235622112751756644:=0
def tw7053934929503017754:=0
def tw1161626615428368245:=0
def tw15295035265304416448:=0
def tw12599266037281456171:=0
def tw9163406438225935579:=0
def tw7665354112272827347:=0
def tw15619702124961331881:=0
def tw16653273374724203370:=0
def tw1512004882283846551:=0
def tw6505325866095428685:=0
def tw10961444822953968237:=0
def tw7780135694619466647:=0
def tw2995842981085302142:=0
def tw1858301937444821238:=0
def tw5956746357894395114:=0
def tw8710403795683137558:=0
def tw1254953969825760066:=0
def tw15149178834640380054:=0
def tw3947407900615201563:=0
def tw10096553809713616801:=0
def tw3180614490142259280:=0
def tw10442646364212880279:=0
def tw10921677443856274122:=0
def tw5228164570255215083:=0
def tw12671881563441260081:=0
def tw1933787428115304351:=0
def tw18136439253642433167:=0
def tw11630426805769497409:=0
def tw11964843369594857648:=0
def tw7353917017429633057:=0
def tw13493396853677878473:=0
def tw6244978969863975788:=0
def tw4141928842681834023:=0
def tw11274184517271921946:=0
def tw13665315833306575167:=0
def tw4463467668733391849:=0
def tw15242451710058022805:=0
def tw7479851814056357186:=0
def tw12439321903660494163:=0
def tw15974560350132360024:=0
def tw595256812899219227:=0
def tw7954906716196554690:=0
def tw10062446224471392940:=0
def tw1806052037567351638:=0
def tw11815209689744431558:=0
def tw7853029258103297695:=0
def tw5383540514812411871:=0
def tw8165555844553723746:=0
def tw11006486606461558307:=0
def tw7217149445945972338:=0
def tw13617795381329217170:=0
def tw2425626650158896659:=0
def tw4510409066372970619:=0
def tw2343326735250856440:=0
def tw14206061733184060402:=0
def tw3179277426744648424:=0
def tw3470328927966572833:=0
def tw9903083984217006613:=0
def tw10272074212061077822:=0
def tw2227822901518255935:=0
def tw16113152275726269378:=0
def tw12624514949015425892:=0
def tw6095695681526413737:=0
def tw16444098422260297328:=0
def tw11586765886364689717:=0
def tw4393225135450126041:=0
def tw15019508790617265175:=0
def tw10731547233822564492:=0
def tw11097798452119044556:=0
def tw12551502324760259067:=0
def tw17454946600029825636:=0
def tw6661776807935369359:=0
def tw9739231619956158419:=0
def tw8995157859525629949:=0
def tw4795810445665832530:=0
def tw14959978791883192:=0
def tw16092513843625210136:=0
def tw16946116691044783882:=0
def tw18008273512925354536:=0
def tw12887752029041380383:=0
def tw4376734643505458554:=0
def tw14129755573887912829:=0
def tw2502233342816997722:=0
def tw14692596530190139644:=0
def tw16054771734592880043:=0
def tw924757097278162752:=0
def tw3174003299526908065:=0
def tw4037284587454618712:=0
def tw16240646365728465177:=0
def tw7185652125481668986:=0
def tw15775135782787795713:=0
def tw5164785805971190690:=0
def tw8140923592141455524:=0
def tw2436496259987073188:=0
def tw11405605889555474340:=0
def tw10153291865230198952:=0
def tw2878356360470213230:=0
def tw7110618752234345107:=0
def tw18401194256105504499:=0
def tw5097719978737163924:=0
def tw12614808784419613079:=0
def tw6760349097257835479:=0
def tw7672064006854978681:=0
def tw5778101009067239578:=0
def tw16055373810033824221:=0
def tw3888911819057832128:=0
def tw5773671989308011808:=0
def tw6916949375175906912:=0
def tw6602090007305069536:=0
def tw9475939217693876642:=0
def tw15880208715566490114:=0
def tw6708760852928065699:=0
def tw7043521184628853444:=0
def tw3425512648984377925:=0
def tw17917783957881115269:=0
def tw3957804948539404198:=0
def tw8865681417659991751:=0
def tw14449319705488846631:=0
def tw13817380551983732808:=0
def tw4720286057537076267:=0
def tw353061344415252555:=0
def tw3225157500580255628:=0
def tw6406020517276024493:=0
def tw1810943081031745617:=0
def tw13798286916741390609:=0
def tw11705891823646687601:=0
def tw3465589506679820882:=0
def tw1139878208239047093:=0
def tw10381596297675023285:=0
def tw2173308450654629142:=0
def tw17973448658336424919:=0
def tw15836217636553225562:=0
def tw9304829074289717892:=0
def tw9202691815781015526:=0
def tw13610248644363835311:=0
def tw8240875778059405454:=0
def tw10742751955015929313:=0
def tw112937764519327799:=0
def tw1453266709702911728:=0
def tw9541541709257881161:=0
def tw3713979536584242800:=0
def tw5161455632678970376:=0
def tw11110495229498961340:=0
def tw12231164442219122432:=0
def tw16241730384761716740:=0
def tw13515226552159959471:=0
def tw17150739054119586393:=0
def tw15632936618623088635:=0
def tw11806333654529689342:=0
def tw7254669799433897435:=0
def tw3171836221624728277:=0
def tw5631211030342536492:=0
def tw4280793846961022699:=0
def tw5181345967284183183:=0
def tw16451125648034267514:=0
def tw5009293545188683009:=0
def tw13892203566827231239:=0
def tw5728929988183752263:=0
def tw7434883164700036426:=0
def tw950910748362630158:=0
def tw12692956515678372752:=0
def tw11212038471006864529:=0
def tw2299128522515786739:=0
def tw3394971535274602837:=0
end PySem.W.Fast
open PySem.W (Frag nsIn keepIn fnOf codeIn mg_of findIn)
set_option compiler.extract_closed false
set_option Elab.async false
set_option linter.all false
set_option maxRecDepth 100000
namespace L2
open PySem PySem.Spec PyProof.Rows
noncomputable abbrev Key:=Sum Int Str
noncomputable def keyIs:Key->Value->Bool
 | .inl k,v=>Value.isInt k v
 | .inr x,v=>Value.isStrOf x v
noncomputable def keyH (w:World):Key->Int
 | .inl k=>hashInt k
 | .inr x=>hashStr w x
theorem b3:∀ {k:Key} {v:Value},keyIs k v=true->(∃ i t,k=Sum.inl i/\v=Value.int i t)\/(∃ x t,k=Sum.inr x/\v=Value.str x t)
 | .inl i,v,h=>by
  obtain ⟨t,e⟩:=Value.isInt_shape (k:=i) (v:=v) h;exact .inl ⟨i,t,rfl,e⟩
 | .inr x,v,h=>by
  obtain ⟨t,e⟩:=Value.isStrOf_shape (x:=x) (v:=v) h;exact .inr ⟨x,t,rfl,e⟩
theorem vg (i:Int) (t:Tok):keyIs (.inl i) (.int i t)=true:=by simp [keyIs,Value.isInt]
theorem v8 (x:Str) (t:Tok):keyIs (.inr x) (.str x t)=true:=by simp [keyIs,Value.isStrOf]
theorem Bo (a b:Int):decide ((Sum.inl a:Key)=Sum.inl b)=(a == b):=by
 by_cases e:a=b
 ·subst e; simp
 ·have h:¬ (Sum.inl a:Key)=Sum.inl b:=fun q=>e (Sum.inl.inj q)
  rw [decide_eq_false h];exact (beq_eq_false_iff_ne.mpr e).symm
theorem Bs (a b:Str):decide ((Sum.inr a:Key)=Sum.inr b)=decide (a=b):=by
 by_cases e:a=b
 ·subst e; simp
 ·have h:¬ (Sum.inr a:Key)=Sum.inr b:=fun q=>e (Sum.inr.inj q)
  rw [decide_eq_false h,decide_eq_false e]
theorem AD (a:Int) (b:Str):decide ((Sum.inl a:Key)=Sum.inr b)=false:=decide_eq_false (fun q=>nomatch q)
theorem AK (a:Str) (b:Int):decide ((Sum.inr a:Key)=Sum.inl b)=false:=decide_eq_false (fun q=>nomatch q)
noncomputable def mixKind (prog:Program) (w:World):PySem.KeyKind prog w Key where
 is:=keyIs
 hash:=keyH w
 inj:=fun v a b ha hb=>by
  rcases b3 ha with ⟨i,t,rfl,rfl⟩ | ⟨x,t,rfl,rfl⟩
  ·rcases b3 hb with ⟨j,u,rfl,e⟩ | ⟨y,u,rfl,e⟩
   ·injection e with e1 _; rw [e1]
   ·exact nomatch e
  ·rcases b3 hb with ⟨j,u,rfl,e⟩ | ⟨y,u,rfl,e⟩
   ·exact nomatch e
   ·injection e with e1 _; rw [e1]
 byValue:=fun k v h=>by
  rcases b3 h with ⟨i,t,rfl,rfl⟩ | ⟨x,t,rfl,rfl⟩ <;> rfl
 pyHash:=fun hv h=>by
  rcases b3 hv with ⟨i,t,rfl,rfl⟩ | ⟨x,t,rfl,rfl⟩
  ·exact wpAny_pyHash_int h
  ·exact wpAny_pyHash_str h
 eqBool:=fun hu hv h=>by
  rcases b3 hu with ⟨i,t,rfl,rfl⟩ | ⟨x,t,rfl,rfl⟩
  ·rcases b3 hv with ⟨j,u,rfl,rfl⟩ | ⟨y,u,rfl,rfl⟩
   ·rw [Bo] at h; exact wpAny_eqBool_int h
   ·rw [AD] at h; exact SeqAt.EqAt.int_str i t y u _ _ _ _ h
  ·rcases b3 hv with ⟨j,u,rfl,rfl⟩ | ⟨y,u,rfl,rfl⟩
   ·rw [AK] at h; exact SeqAt.EqAt.str_int x t j u _ _ _ _ h
   ·rw [Bs] at h; exact wpAny_eqBool_str h
 «strs»:=fun k x t v h=>by
  rcases b3 h with ⟨i,u,rfl,e⟩ | ⟨y,u,rfl,e⟩
  ·exact nomatch e
  ·injection e with e1 _
   subst e1;cases v <;> rfl
theorem qZ (prog:Program) (w:World) (i:Int) (t:Tok):(mixKind prog w).is (.inl i) (.int i t)=true:=vg i t
theorem rq (prog:Program) (w:World) (x:Str) (t:Tok):(mixKind prog w).is (.inr x) (.str x t)=true:=v8 x t
inductive V where
 | non | bl (b:Bool) | int (i:Int) | str (x:Str) | byt (b:Array UInt8) | flt (b:UInt64) | ref (a:Addr) | ty (n:String)
 deriving DecidableEq
noncomputable def RelV:V->Value->Prop
 | .non,u=>u=Value.none
 | .bl b,u=>u=Value.bool b
 | .int i,u=>∃ t,u=Value.int i t
 | .str x,u=>∃ t,u=Value.str x t
 | .byt b,u=>∃ t,u=Value.bytes b t
 | .flt b,u=>∃ t,u=Value.float b t
 | .ref a,u=>u=Value.ref a
 | .ty n,u=>u=Value.type n
noncomputable abbrev Vals:List V->List Value->Prop:=Paired RelV
theorem Vals.length {xs:List V} {us:List Value} (r:Vals xs us):xs.length=us.length:=Paired.length r
theorem Vals.get:∀ {xs:List V} {us:List Value} {i:Nat} {x:V},Vals xs us->xs[i]? = some x->∃ u,us[i]? = some u/\RelV x u
 | _,_,_,_,.nil,e=>by simp at e
 | _,_,0,_,.cons r _,e=>by simp at e; subst e; exact ⟨_,rfl,r⟩
 | _,_,i+1,x,.cons _ t,e=>by
  obtain ⟨u,h1,h2⟩:=Vals.get (i:=i) (x:=x) t (by simpa using e);exact ⟨u,by simpa using h1,h2⟩
theorem Vals.set {x:V} {u:Value} (r:RelV x u):∀ {xs:List V} {us:List Value} (i:Nat),Vals xs us->Vals (xs.set i x) (us.set i u)
 | _,_,_,.nil=>.nil
 | _,_,0,.cons _ t=>.cons r t
 | _,_,i+1,.cons q t=>.cons q (Vals.set r i t)
theorem Vals.append:∀ {xs ys:List V} {us ws:List Value},Vals xs us->Vals ys ws->Vals (xs++ys) (us++ws)
 | _,_,_,_,.nil,s=>s
 | _,_,_,_,.cons r t,s=>.cons r (Vals.append t s)
theorem Vals.take:∀ {xs:List V} {us:List Value} (n:Nat),Vals xs us->Vals (xs.take n) (us.take n)
 | _,_,0,_=>.nil
 | _,_,_+1,.nil=>.nil
 | _,_,n+1,.cons r t=>.cons r (Vals.take n t)
theorem Vals.drop:∀ {xs:List V} {us:List Value} (n:Nat),Vals xs us->Vals (xs.drop n) (us.drop n)
 | _,_,0,r=>r
 | _,_,_+1,.nil=>.nil
 | _,_,n+1,.cons _ t=>Vals.drop n t
noncomputable def RelO:Option V->Option Value->Prop
 | some v,some u=>RelV v u
 | none,none=>True
 | _,_=>False
noncomputable def KV {κ:Type}:List (κ × V)->List (κ × Value)->Prop:=Paired fun (p:κ × V) (q:κ × Value)=>p.1=q.1/\RelV p.2 q.2
noncomputable def kV:Key->V
 | .inl i=>.int i
 | .inr x=>.str x
inductive HO where
 | lst (xs:List V)
 | tup (xs:List V)
 | dK (kvs:List (Key × V)) | dT (kvs:List (List Key × V))
 | set (S:Int->Bool) (n:Nat)
 | ins (C dx:Addr) (fs:List (Str × V))
 | own (x:Addr)
 | xd (fs:List (Str × V))
 | met (f x:Addr)
 | rng (lo hi:Int)
 | frz (o:Obj) (u:HO)
 | tbl (ps:Array Value)
 | ext (φ:Heap->Prop)
noncomputable abbrev Hp:=Addr->Option HO
noncomputable def upd (H:Hp) (a:Addr) (o:HO):Hp:=fun b=>if b=a then some o else H b
theorem upd_same {H:Hp} {a:Addr} {o:HO}:upd H a o a=some o:=by unfold upd; rw [if_pos rfl]
theorem av {H:Hp} {a b:Addr} {o:HO} (h:b≠a):upd H a o b=H b:=by unfold upd; rw [if_neg h]
theorem BC {H:Hp} {a b:Addr} {o u:HO} (h:H a=some o) (h':H b=some u) (d:o≠u):a≠b:=by
 intro e; subst e; rw [h] at h'; exact d (Option.some.inj h')
theorem bq {H:Hp} {a b:Addr} {o:HO} (h:H a=some o) (h':H b=none):a≠b:=by
 intro e; subst e; rw [h] at h'; cases h'
section
variable (P:Program) (w:World)
noncomputable def ObjOk (H:Hp) (h:Heap) (a:Addr):HO->Prop
 | .lst xs=>xs.length<=sizeLine/\∃ (its:List Value) (n:Nat),Vals xs its/\h.get? a=some { cls:=.type "list",data:=.seq its.toArray n }
 | .tup xs=>xs.length<=sizeLine/\∃ its:List Value,Vals xs its/\IsTup h a its.toArray
 | .dK kvs=>kvs.length<=sizeLine/\(a == sysModules)=false/\∃ vs,KV kvs vs/\h.DictOf (mixKind P w) a vs
 | .dT kvs=>kvs.length<=sizeLine/\(a == sysModules)=false/\∃ xs:List (List Key × Addr × Value),
   Paired (fun (p:List Key × V) (q:List Key × Addr × Value)=>p.1=q.1/\H q.2.1=some (.tup (p.1.map kV))/\RelV p.2 q.2.2) kvs xs /\
   ∃ o es ep,h.get? a=some o/\o.ExactDict/\o.data=.dict es ep/\es.toList=xs.map (entryOfKey (tupleKind (mixKind P w)))/\(xs.map (·.1)).Nodup
 | .set S n=>h.SetOf (intKind P w) a S n
 | .ins C dx fs=>H dx=some (.own a)/\fs.length<=1000/\dx≠a/\h.get? a=some (PySem.W.instObj C dx) /\
   ∃ mA,h.Ns1 dx mA/\(∀ f,RelO (fs.lookup f) (mA f))/\PySem.Within mA (fs.map (·.1))
 | .own _=>∃ o,h.get? a=some o
 | .xd fs=>∃ mA,h.Ns1 a mA/\∀ f,RelO (fs.lookup f) (mA f)
 | .rng lo hi=>∃ t u v,h.get? a=some { cls:=.type "range",data:=.fields #[.int lo t,.int hi u,.int 1 v] }
 | .frz o u=>h.get? a=some o/\ObjOk H h a u
 | .tbl ps=>h.get? a=some { cls:=.none,data:=.fields ps }
 | .met f x=>h.get? a=some (PySem.W.methodObj (.ref f) (.ref x))
 | .ext φ=>φ h/\(∃ o,h.get? a=some o)/\∀ h1 h2:Heap,φ h1->(∀ o,h1.get? a=some o->h2.get? a=some o)->φ h2
def HOk (H:Hp) (h:Heap):Prop:=∀ a o,H a=some o->ObjOk P w H h a o
end
section
variable {P:Program} {w:World} {H H':Hp} {h h':Heap} {a:Addr} {o:HO}
theorem ObjOk.lt (x:ObjOk P w H h a o):a < h.objs.size:=by
 cases o with
 | lst xs=>obtain ⟨_,_,_,_,e⟩:=x; exact Heap.lt_size e
 | tup xs=>obtain ⟨_,_,_,p⟩:=x; exact p.lt
 | dK kvs=>obtain ⟨_,_,_,_,o,_,_,e,_⟩:=x; exact Heap.lt_size e
 | dT kvs=>obtain ⟨_,_,_,_,o,_,_,e,_⟩:=x; exact Heap.lt_size e
 | set S n=>obtain ⟨o,_,_,_,e,_⟩:=x; exact Heap.lt_size e
 | ins C dx fs=>obtain ⟨_,_,_,e,_⟩:=x; exact Heap.lt_size e
 | own y=>obtain ⟨_,e⟩:=x; exact Heap.lt_size e
 | xd fs=>obtain ⟨_,⟨_,_,_,e,_⟩,_⟩:=x; exact Heap.lt_size e
 | rng lo hi=>obtain ⟨_,_,_,e⟩:=x; exact Heap.lt_size e
 | frz ob u=>obtain ⟨e,_⟩:=x; exact Heap.lt_size e
 | tbl ps=>exact Heap.lt_size (show h.get? a=some _ from x)
 | met f y=>exact Heap.lt_size (show h.get? a=some _ from x)
 | ext φ=>obtain ⟨_,⟨_,e⟩,_⟩:=x; exact Heap.lt_size e
theorem Paired.mapP {α β:Type} {F G:α -> β -> Prop}:∀ {l₁:List α} {l₂:List β},Paired F l₁ l₂ -> (∀ a b,F a b->G a b)->Paired G l₁ l₂
 | _,_,.nil,_=>.nil
 | _,_,.cons r t,f=>.cons (f _ _ r) (Paired.mapP t f)
theorem ObjOk.stay (x:ObjOk P w H h a o) (k:∀ b u,(b=a\/H b=some (.own a))->h.get? b=some u->h'.get? b=some u)
  (ho:∀ b,H b=some (.own a)->H' b=some (.own a)) (ht:∀ b xs,H b=some (.tup xs)->H' b=some (.tup xs)):ObjOk P w H' h' a o:=by
 induction o with
 | lst xs=>obtain ⟨z,its,n,r,e⟩:=x; exact ⟨z,its,n,r,k _ _ (.inl rfl) e⟩
 | tup xs=>obtain ⟨z,its,r,ob,e,c⟩:=x; exact ⟨z,its,r,ob,k _ _ (.inl rfl) e,c⟩
 | dK kvs=>obtain ⟨z,y,vs,r,ob,es,ep,e,c⟩:=x; exact ⟨z,y,vs,r,ob,es,ep,k _ _ (.inl rfl) e,c⟩
 | dT kvs=>
  obtain ⟨z,y,xs,r,ob,es,ep,e,c⟩:=x;exact ⟨z,y,xs,Paired.mapP r fun p q z=>⟨z.1,ht _ _ z.2.1,z.2.2⟩,ob,es,ep,k _ _ (.inl rfl) e,c⟩
 | set S n=>obtain ⟨ob,es,ep,t,e,c⟩:=x; exact ⟨ob,es,ep,t,k _ _ (.inl rfl) e,c⟩
 | ins C dx fs=>
  obtain ⟨d,z,ne,e,mA,⟨od,es,ep,e2,c⟩,r⟩:=x;exact ⟨ho _ d,z,ne,k _ _ (.inl rfl) e,mA,⟨od,es,ep,k _ _ (.inr d) e2,c⟩,r⟩
 | own y=>obtain ⟨ob,e⟩:=x; exact ⟨ob,k _ _ (.inl rfl) e⟩
 | xd fs=>obtain ⟨mA,⟨od,es,ep,e,c⟩,r⟩:=x; exact ⟨mA,⟨od,es,ep,k _ _ (.inl rfl) e,c⟩,r⟩
 | rng lo hi=>obtain ⟨t,u,v,e⟩:=x; exact ⟨t,u,v,k _ _ (.inl rfl) e⟩
 | frz ob u ih=>obtain ⟨e,q⟩:=x; exact ⟨k _ _ (.inl rfl) e,ih q⟩
 | tbl ps=>
  have e:h.get? a=some { cls:=.none,data:=.fields ps }:=x;show h'.get? a=some { cls:=.none,data:=.fields ps };exact k a _ (.inl rfl) e
 | met f y=>
  have e:h.get? a=some (PySem.W.methodObj (.ref f) (.ref y)):=x;show h'.get? a=some (PySem.W.methodObj (.ref f) (.ref y));exact k a _ (.inl rfl) e
 | ext φ=>obtain ⟨p,⟨o,e⟩,st⟩:=x; exact ⟨st _ _ p fun o q=>k _ _ (.inl rfl) q,⟨o,k _ _ (.inl rfl) e⟩,st⟩
theorem HOk.lt (x:HOk P w H h) (e:H a=some o):a < h.objs.size:=(x a o e).lt
theorem HOk.fresh (x:HOk P w H h) (e:h.objs.size<=a):H a=none:=by
 cases q:H a with
 | none=>rfl
 | some u=>exact absurd (Nat.lt_of_lt_of_le (x.lt q) e) (Nat.lt_irrefl _)
theorem HOk.kept (x:HOk P w H h) (k:∀ b u,h.get? b=some u->h'.get? b=some u):HOk P w H h':=fun a o e=>
 (x a o e).stay (fun b u _ q=>k b u q) (fun _ q=>q) fun _ _ q=>q
theorem HOk.laid (x:HOk P w H h) (k:∀ b u,h.get? b=some u->h'.get? b=some u) (hp:h.objs.size<=a) (new:ObjOk P w (upd H a o) h' a o):HOk P w (upd H a o) h':=fun b u e=>by
 have hn:=x.fresh hp;by_cases hb:b=a
 ·subst hb; rw [upd_same] at e; cases e; exact new
 ·rw [av hb] at e;exact (x b u e).stay (fun c v _ q=>k c v q) (fun c q=>by rw [av (bq q hn)]; exact q) fun c xs q=>by rw [av (bq q hn)]; exact q
end
def Rd (H:Hp) (a:Addr) (u:HO):Prop:=H a=some u\/∃ o,H a=some (.frz o u)
theorem Rd.ok {P:Program} {w:World} {H:Hp} {h:Heap} {a:Addr} {u:HO} (r:Rd H a u) (x:HOk P w H h):ObjOk P w H h a u:=by
 rcases r with r | ⟨o,r⟩
 ·exact x a u r
 ·obtain ⟨_,q⟩:=x a _ r;exact q
noncomputable def Mut:Option HO->Prop
 | some (.lst _)=>True
 | some (.dK _)=>True
 | some (.dT _)=>True
 | some (.set _ _)=>True
 | some (.ins _ _ _)=>True
 | some (.ext _)=>True
 | _=>False
section
variable {P:Program} {w:World} {H:Hp} {h h':Heap} {x e:Addr} {o':HO}
theorem HOk.write (ok:HOk P w H h) (mu:Mut (H x)) (he:e=x\/H e=some (.own x)) (k:∀ b u,b≠e->h.get? b=some u->h'.get? b=some u) (heo:∃ u,h'.get? e=some u)
  (new:ObjOk P w (upd H x o') h' x o'):HOk P w (upd H x o') h':=fun b u q=>by
 have nown:∀ c y,H c=some (.own y)->c≠x:=fun c y r z=>by subst z; rw [r] at mu; exact mu
 have ntup:∀ c xs,H c=some (.tup xs)->c≠x:=fun c xs r z=>by subst z; rw [r] at mu; exact mu
 by_cases hb:b=x
 ·subst hb; rw [upd_same] at q; cases q; exact new
 ·rw [av hb] at q;by_cases hbe:b=e
  ·have q':H b=some (.own x):=by
    rcases he with z | z
    ·exact absurd (hbe.trans z) hb
    ·rw [hbe]; exact z
   rw [q] at q'; cases q';obtain ⟨v,hv⟩:=heo;exact ⟨v,by rw [hbe]; exact hv⟩
  ·refine (ok b u q).stay (fun c v hc r=>k c v ?_ r) (fun c r=>by rw [av (nown c b r)]; exact r) fun c xs r=>by rw [av (ntup c xs r)]; exact r
   rcases hc with rfl | hc
   ·exact hbe
   ·rintro rfl;rcases he with z | z
    ·exact nown c b hc z
    ·rw [hc] at z; cases z; exact hb rfl
end
structure Un (fs ex:List Addr) (H H':Hp) (h h':Heap):Prop where
 keep:∀ b o,h.get? b=some o->H b=none->b ∉ fs->b ∉ ex->h'.get? b=some o
 slot:∀ b o,h.get? b=some o->H b=none->b ∈ fs->b ∉ ex->∃ sl,h'.get? b=some { o with slots:=sl }
 free:∀ b o,h.get? b=some o->H b=none->b ∉ ex->H' b=none
 there:∀ b o,h.get? b=some o->b ∉ ex->∃ o',h'.get? b=some o'
 tups:∀ b xs,H b=some (.tup xs)->H' b=some (.tup xs)
 frzs:∀ b o xs,H b=some (.frz o (.lst xs))->H' b=some (.frz o (.lst xs))
 tbls:∀ b ps,H b=some (.tbl ps)->∃ more,H' b=some (.tbl (ps++more))
section
variable {fs fs' ex ex':List Addr} {H H1 H2:Hp} {h h1 h2 h':Heap} {a x e:Addr} {o:HO}
theorem Un.any (u:Un fs ex H H1 h h1) {b:Addr} {ob:Obj} (q:h.get? b=some ob) (n:H b=none) (hx:b ∉ ex):∃ sl,h1.get? b=some { ob with slots:=sl }:=by
 by_cases hb:b ∈ fs
 ·exact u.slot b ob q n hb hx
 ·exact ⟨ob.slots,u.keep b ob q n hb hx⟩
theorem Un.kept (k:∀ b u,h.get? b=some u->h'.get? b=some u):Un fs ex H H h h':=
 ⟨fun b ob q _ _ _=>k b ob q,fun b ob q _ _ _=>⟨ob.slots,k b ob q⟩,fun _ _ _ n _=>n,fun b ob q _=>⟨ob,k b ob q⟩,fun _ _ q=>q,fun _ _ _ q=>q,fun _ ps q=>⟨#[],by rw [q]; simp⟩⟩
theorem Un.refl:Un fs ex H H h h:=Un.kept fun _ _ q=>q
theorem Un.laid (k:∀ b u,h.get? b=some u->h'.get? b=some u) (hp:h.objs.size<=a) (hn:H a=none):Un fs ex H (upd H a o) h h' where
 keep:=fun b u q _ _ _=>k b u q
 slot:=fun b u q _ _ _=>⟨u.slots,k b u q⟩
 free:=fun b u q n _=>by rw [av (Nat.ne_of_lt (Nat.lt_of_lt_of_le (Heap.lt_size q) hp))]; exact n
 there:=fun b u q _=>⟨u,k b u q⟩
 tups:=fun b xs q=>by rw [av (bq q hn)]; exact q
 frzs:=fun b u xs q=>by rw [av (bq q hn)]; exact q
 tbls:=fun b ps q=>⟨#[],by rw [av (bq q hn),q]; simp⟩
theorem Un.write (mu:Mut (H x)) (he:e=x\/H e=some (.own x)) (k:∀ b u,b≠e->h.get? b=some u->h'.get? b=some u) (heo:∃ u,h'.get? e=some u):Un fs ex H (upd H x o) h h':=by
 have hx:∀ b,H b=none->b≠x:=fun b n z=>by subst z; rw [n] at mu; exact mu
 have hb:∀ b,H b=none->b≠e:=fun b n z=>by
  subst z;rcases he with r | r
  ·exact hx b n r
  ·rw [n] at r; cases r
 have hm:∀ b u,H b=some u->¬ Mut (some u)->b≠x:=fun b u q nm z=>by subst z; rw [q] at mu; exact nm mu
 refine ⟨fun b u q n _ _=>k b u (hb b n) q,fun b u q n _ _=>⟨u.slots,k b u (hb b n) q⟩,fun b u q n _=>by rw [av (hx b n)]; exact n,fun b u q _=>?_,
  fun b xs q=>by rw [av (hm b _ q fun z=>z)]; exact q,fun b u xs q=>by rw [av (hm b _ q fun z=>z)]; exact q,fun b ps q=>⟨#[],by rw [av (hm b _ q fun z=>z),q]; simp⟩⟩
 by_cases hbe:b=e
 ·subst hbe; exact heo
 ·exact ⟨u,k b u hbe q⟩
end
noncomputable def trk (h:Heap) (H:Hp):List Addr:=(List.range h.objs.size).filter fun a=>(H a).isSome
noncomputable def hidT (h:Heap) (H:Hp):Heap:=PySem.W.hideAll h (trk h H)
theorem uZ (h:Heap) (H:Hp):(hidT h H).objs.size=h.objs.size:=PySem.W.hideAll_size _ _
theorem xt {h:Heap} {H:Hp} {b:Addr} {o:Obj} (e:h.get? b=some o) (n:H b=none):(hidT h H).get? b=some o:=
 PySem.W.hideAll_get _ e fun hm=>by
  have q:(H b).isSome=true:=(List.mem_filter.mp hm).2;rw [n] at q; simp at q
theorem zW {h:Heap} {H:Hp} {b:Addr} {o:Obj} (e:(hidT h H).get? b=some o):h.get? b=some o/\H b=none:=by
 have e':h.get? b=some o:=PySem.W.of_hideAll (trk h H) e;refine ⟨e',?_⟩;cases q:H b with
 | none=>rfl
 | some x=>
  have hm:b ∈ trk h H:=List.mem_filter.mpr ⟨List.mem_range.mpr (Heap.lt_size e'),by simp [q]⟩;have z:(hidT h H).get? b=none:=PySem.W.hideAll_none (trk h H) hm;rw [z] at e; cases e
noncomputable def allNews (g h:Heap) (L:Addr):List (Addr × Obj):=(List.range h.objs.size).filterMap fun a=>if a=L\/(g.get? a).isSome=true then none else (h.get? a).map fun o=>(a,o)
noncomputable def rest (g h:Heap) (L d:Addr):List (Addr × Obj):=(allNews g h L).filter fun p=>decide (p.1≠d)
structure Mod (K:Frag) (mg:Str->Option Value) (base:Heap):Prop where
 kin:K.In base
 glob:base.Ns mainGlobals mg
 blt:∃ mb,base.Ns builtinsNs mb/\∀ x:Str,x ≠ "__name__" -> mb x=bootBuiltins x
 nolimit:base.NoLimit
structure Cx where
 prog:Program
 w:World
 K:Frag
 mg:Str->Option Value
 base:Heap
 A:Around
 N:List Str
 s₀:Shared
 H₀:Hp
 env:Env
 outer:List Env
 stack:List Env
 ex:List Addr
 fn:Str->Bool
 calm:Bool
 pn:List (Addr × Obj)
 xe:Value->Shared->Prop
noncomputable def frs (l:List Env):List Addr:=l.filterMap (·.frame)
noncomputable abbrev Cx.fs (X:Cx):List Addr:=frs X.outer
def Vis (sc:Scope) (x:Str):Prop:=sc.names.lookup x=some .local\/sc.names.lookup x=some .cell\/sc.names.lookup x=some .free
def Loc (sc:Scope) (x:Str):Prop:=sc.names.lookup x=some .local\/sc.names.lookup x=some .cell
def Look (env:Env) (h:Heap) (m:Str->Option Value) (x:Str) (u:Value):Prop:=
 (env.kindOf x=some .local/\m x=some u)\/((env.kindOf x=some .cell\/env.kindOf x=some .free)/\∃ c,env.cells.lookup x=some c/\h.IsCell c (some u))
structure Cx.Ok (X:Cx):Prop where
 mod:Mod X.K X.mg X.base
 kind:X.env.scope.kind=.function
 glob:X.env.globals=mainGlobals
 blt:X.env.builtins=builtinsNs
 above:X.s₀.heap.objs.size<=X.env.locals
 inj:∀ x y c,X.env.cells.lookup x=some c->X.env.cells.lookup y=some c->x=y
 has:∀ x,(X.env.kindOf x=some .cell\/X.env.kindOf x=some .free)->∃ c,X.env.cells.lookup x=some c
 cab:∀ x c,X.fn x=true->X.env.cells.lookup x=some c->X.s₀.heap.objs.size<=c
 hd:X.calm=true->X.A.handled=none
 frames:X.A.frames=some X.stack
 stk:X.stack=X.outer\/(X.stack=X.env::X.outer/\X.env.frame=some X.env.locals)
 exf:∀ b ∈ X.ex,b≠X.env.locals/\∀ x c,X.env.cells.lookup x=some c->c≠b
 bs:∀ b o,X.base.get? b=some o->X.s₀.heap.get? b=some o/\X.H₀ b=none
 bsz:X.base.objs.size<=X.s₀.heap.objs.size
 noex:∀ b o,X.base.get? b=some o->b ∉ X.ex
 exfs:∀ b ∈ X.ex,b ∉ X.fs
 funs:X.s₀.heap.FunFrames X.base X.outer
 frf:∀ b ∈ X.fs,X.H₀ b=none
structure Inv (X:Cx) (pins:List (Addr × Obj)) (σ:List (Option V)) (H:Hp) (s:Shared):Prop where
 ok:X.Ok
 os:s.os=X.s₀.os
 bare:AllBare s.gens
 base:Un X.fs X.ex X.H₀ H X.s₀.heap s.heap
 loc:∃ m,s.heap.Ns X.env.locals m/\∀ (i:Nat) (x:Str) (v:V),X.N[i]? = some x->σ[i]? = some (some v)->Vis X.env.scope x->∃ u,RelV v u/\Look X.env s.heap m x u
 cell:∀ x c,X.env.cells.lookup x=some c->∃ v,s.heap.IsCell c v
 free:H X.env.locals=none
 freeC:∀ x c,X.env.cells.lookup x=some c->H c=none
 pin:∀ p ∈ X.pn++pins,s.heap.get? p.1=some p.2/\H p.1=none/\p.1≠X.env.locals/\p.1 ∉ X.fs/\∀ v,p.2.data≠.cell v
 hok:HOk X.prog X.w H s.heap
 len:σ.length=X.N.length
 tk:0 < s.toks
section
variable {X:Cx} {pins:List (Addr × Obj)} {σ:List (Option V)} {H H':Hp} {s:Shared} {h':Heap}
theorem Cx.Ok.nofr (ok:X.Ok) {b:Addr} {o:Obj} (e:X.base.get? b=some o):b ∉ X.fs:=fun hb=>by
 have:=(ok.funs.mem hb).1;rw [e] at this; cases this
theorem Inv.bs (I:Inv X pins σ H s):∀ b o,X.base.get? b=some o->s.heap.get? b=some o/\H b=none:=fun b o e=>
 ⟨I.base.keep b o (I.ok.bs b o e).1 (I.ok.bs b o e).2 (I.ok.nofr e) (I.ok.noex b o e),I.base.free b o (I.ok.bs b o e).1 (I.ok.bs b o e).2 (I.ok.noex b o e)⟩
theorem Inv.bk (I:Inv X pins σ H s):∀ b o,X.base.get? b=some o->s.heap.get? b=some o:=fun b o e=>(I.bs b o e).1
theorem Inv.mod (I:Inv X pins σ H s):Mod X.K X.mg X.base:=I.ok.mod
theorem Inv.kIn (I:Inv X pins σ H s):X.K.In s.heap:=I.ok.mod.kin.keeps I.bk
theorem Inv.lt (I:Inv X pins σ H s):X.env.locals < s.heap.objs.size:=let ⟨_,hn,_⟩:=I.loc; hn.lt
theorem Inv.sz (I:Inv X pins σ H s):X.s₀.heap.objs.size<=s.heap.objs.size:=Nat.le_trans I.ok.above (Nat.le_of_lt I.lt)
theorem Inv.nofs (I:Inv X pins σ H s) {a:Addr} (h:s.heap.objs.size<=a):a ∉ X.fs:=fun hb=>by
 obtain ⟨_,o,ho,_⟩:=I.ok.funs.mem hb;exact absurd (Nat.lt_of_lt_of_le (Heap.lt_size ho) (Nat.le_trans I.sz h)) (Nat.lt_irrefl _)
theorem Inv.cne (I:Inv X pins σ H s):∀ x c,X.env.cells.lookup x=some c->c≠X.env.locals:=fun x c e z=>by
 obtain ⟨v,o,ho,hd⟩:=I.cell x c e;obtain ⟨m,⟨o',es,ep,ho',hd',_⟩,_⟩:=I.loc;rw [z,ho'] at ho; cases ho; rw [hd'] at hd; cases hd
theorem Inv.funs (I:Inv X pins σ H s):s.heap.FunFrames X.base X.outer:=by
 have all:∀ (l:List Env),(∀ b ∈ frs l,b ∈ X.fs)->X.s₀.heap.FunFrames X.base l->s.heap.FunFrames X.base l:=by
  intro l
  induction l with
  | nil=>intro _ _; trivial
  | cons env r ih=>
   intro hs hl;obtain ⟨hk,⟨L,o,hf,hn,ho,hd⟩,hr⟩:=hl;have hL:L ∈ X.fs:=hs L (by unfold frs; rw [List.filterMap_cons,hf]; exact List.mem_cons_self);obtain ⟨sl,e⟩:=I.base.slot L o ho (I.ok.frf L hL) hL fun z=>I.ok.exfs L z hL
   exact ⟨hk,⟨L,_,hf,hn,e,hd⟩,ih (fun b hb=>hs b (by unfold frs; rw [List.filterMap_cons,hf]; exact List.mem_cons_of_mem _ hb)) hr⟩
 exact all X.outer (fun _ hb=>hb) I.ok.funs
theorem Inv.stack (I:Inv X pins σ H s):s.heap.FunFrames X.base X.stack:=by
 rcases I.ok.stk with e | ⟨e,hf⟩
 ·rw [e]; exact I.funs
 ·rw [e];obtain ⟨m,hn,_⟩:=I.loc;refine .cons (by rw [I.ok.kind]; decide) hf hn ?_ I.funs;exact Heap.get?_none_of_le (Nat.le_trans I.ok.bsz I.ok.above)
theorem Inv.stkSub (I:Inv X pins σ H s):∀ b ∈ frs X.stack,b ∈ X.env.locals::X.fs:=fun b hb=>by
 rcases I.ok.stk with e | ⟨e,hf⟩
 ·rw [e] at hb; exact List.mem_cons_of_mem _ hb
 ·rw [e] at hb;unfold frs at hb;rw [List.filterMap_cons,hf] at hb;exact hb
theorem Inv.stkFree (I:Inv X pins σ H s):∀ b ∈ frs X.stack,H b=none:=fun b hb=>by
 rcases List.mem_cons.mp (I.stkSub b hb) with e | hb
 ·rw [e]; exact I.free
 ·obtain ⟨_,o,ho,_⟩:=I.ok.funs.mem hb;exact I.base.free b o ho (I.ok.frf b hb) fun z=>I.ok.exfs b z hb
theorem Inv.step {g':Array GenState} {t':Nat} {d':Drawn} {ch:List Addr} (I:Inv X pins σ H s)
  (hch:∀ b ∈ ch,(b ∈ X.ex\/X.s₀.heap.objs.size<=b)/\b≠X.env.locals/\(∀ x c,X.env.cells.lookup x=some c->c≠b)/\∀ p ∈ X.pn++pins,p.1≠b)
  (keep:∀ b o,b≠X.env.locals->b ∉ X.fs->b ∉ ch->s.heap.get? b=some o->H b=none->h'.get? b=some o)
  (slot:∀ b o,b≠X.env.locals->b ∈ X.fs->b ∉ ch->s.heap.get? b=some o->H b=none->∃ sl,h'.get? b=some { o with slots:=sl }) (free:∀ b o,b ∉ ch->s.heap.get? b=some o->H b=none->H' b=none)
  (there:∀ b o,b ∉ ch->s.heap.get? b=some o->∃ o',h'.get? b=some o')
  (tups:∀ b xs,H b=some (.tup xs)->H' b=some (.tup xs)) (frzs:∀ b o xs,H b=some (.frz o (.lst xs))->H' b=some (.frz o (.lst xs))) (tbls:∀ b ps,H b=some (.tbl ps)->∃ more,H' b=some (.tbl (ps++more)))
  (ns:∀ m,s.heap.Ns X.env.locals m->h'.Ns X.env.locals m) (hok:HOk X.prog X.w H' h') (hg:AllBare g') (ht:0 < t':=by first | assumption | exact Nat.succ_pos _ | (apply Inv.tk; assumption) | omega):
  Inv X pins σ H' { s with heap:=h',gens:=g',drawn:=d',toks:=t' }:=by
 have neL:∀ b o,X.s₀.heap.get? b=some o->b≠X.env.locals:=fun b o e=>Nat.ne_of_lt (Nat.lt_of_lt_of_le (Heap.lt_size e) I.ok.above)
 have neC:∀ b o,X.s₀.heap.get? b=some o->b ∉ X.ex->b ∉ ch:=fun b o e hx hb=>by
  rcases (hch b hb).1 with z | z
  ·exact hx z
  ·exact absurd (Nat.lt_of_lt_of_le (Heap.lt_size e) z) (Nat.lt_irrefl _)
 have cellK:∀ x c,X.env.cells.lookup x=some c->∀ v,s.heap.IsCell c v->h'.IsCell c v:=fun x c e v ⟨o,ho,hd⟩=>by
  have nch:c ∉ ch:=fun z=>(hch c z).2.2.1 x c e rfl
  by_cases hc:c ∈ X.fs
  ·obtain ⟨sl,q⟩:=slot c o (I.cne x c e) hc nch ho (I.freeC x c e);exact ⟨_,q,hd⟩
  ·exact ⟨o,keep c o (I.cne x c e) hc nch ho (I.freeC x c e),hd⟩
 refine ⟨I.ok,I.os,hg,⟨fun b o e n hb hx=>?_,fun b o e n hb hx=>?_,fun b o e n hx=>?_,fun b o e hx=>?_,fun b xs e=>tups b xs (I.base.tups b xs e),fun b o xs e=>frzs b o xs (I.base.frzs b o xs e),fun b ps e=>?_⟩,?_,fun x c e=>?_,?_,fun x c e=>?_,fun p hp=>?_,hok,I.len,ht⟩
 ·exact keep b o (neL b o e) hb (neC b o e hx) (I.base.keep b o e n hb hx) (I.base.free b o e n hx)
 ·obtain ⟨sl,e1⟩:=I.base.slot b o e n hb hx;obtain ⟨sl',e2⟩:=slot b _ (neL b o e) hb (neC b o e hx) e1 (I.base.free b o e n hx);exact ⟨sl',e2⟩
 ·obtain ⟨o',e1⟩:=I.base.there b o e hx;exact free b o' (neC b o e hx) e1 (I.base.free b o e n hx)
 ·obtain ⟨o',e1⟩:=I.base.there b o e hx;exact there b o' (neC b o e hx) e1
 ·obtain ⟨m1,e1⟩:=I.base.tbls b ps e;obtain ⟨m2,e2⟩:=tbls b _ e1;exact ⟨m1++m2,by rw [e2,Array.append_assoc]⟩
 ·obtain ⟨m,hn,hl⟩:=I.loc;refine ⟨m,ns m hn,fun i x v e1 e2 e3=>?_⟩;obtain ⟨u,r,l⟩:=hl i x v e1 e2 e3;refine ⟨u,r,?_⟩;rcases l with l | ⟨k,c,e,z⟩
  ·exact .inl l
  ·exact .inr ⟨k,c,e,cellK x c e _ z⟩
 ·obtain ⟨v,z⟩:=I.cell x c e;exact ⟨v,cellK x c e v z⟩
 ·obtain ⟨m,⟨o,_,_,ho,_⟩,_⟩:=I.loc;exact free _ o (fun z=>(hch _ z).2.1 rfl) ho I.free
 ·obtain ⟨v,o,ho,hd⟩:=I.cell x c e;exact free c o (fun z=>(hch c z).2.2.1 x c e rfl) ho (I.freeC x c e)
 ·obtain ⟨e,n,ne,nf,d⟩:=I.pin p hp;have nch:p.1 ∉ ch:=fun z=>(hch p.1 z).2.2.2 p hp rfl
  exact ⟨keep p.1 p.2 ne nf nch e n,free p.1 p.2 nch e n,ne,nf,d⟩
theorem Inv.un {t':Nat} (I:Inv X pins σ H s) (u:Un X.fs [] H H' s.heap h') (hok:HOk X.prog X.w H' h') (ht:0 < t':=by first | assumption | exact Nat.succ_pos _ | (apply Inv.tk; assumption) | omega):Inv X pins σ H' { s with heap:=h',toks:=t' }:=by
 obtain ⟨m,⟨o,es,ep,ho,r⟩,_⟩:=id I.loc;obtain ⟨sl,hL⟩:=u.any ho I.free (by simp);exact I.step (g':=s.gens) (d':=s.drawn) (ch:=[]) (fun _ z=>nomatch z) (fun b o _ hb _ e n=>u.keep b o e n hb (by simp)) (fun b o _ hb _ e n=>u.slot b o e n hb (by simp)) (fun b o _ e n=>u.free b o e n (by simp)) (fun b o _ e=>u.there b o e (by simp)) u.tups u.frzs u.tbls (fun m' hm=>by
  obtain ⟨o',es',ep',ho',r'⟩:=hm;rw [ho] at ho'; cases ho';exact ⟨_,es',ep',hL,r'⟩) hok I.bare ht
theorem Inv.call {g':Array GenState} {t':Nat} {d':Drawn} {ch:List Addr} (I:Inv X pins σ H s) (u:Un (frs X.stack) ch H H' s.heap h') (hok:HOk X.prog X.w H' h') (hg:AllBare g')
  (hch:∀ b ∈ ch,(b ∈ X.ex\/X.s₀.heap.objs.size<=b)/\b≠X.env.locals/\(∀ x c,X.env.cells.lookup x=some c->c≠b)/\∀ p ∈ X.pn++pins,p.1≠b) (ht:0 < t':=by first | assumption | exact Nat.succ_pos _ | (apply Inv.tk; assumption) | omega):
  Inv X pins σ H' { s with heap:=h',gens:=g',drawn:=d',toks:=t' }:=by
 obtain ⟨m,⟨o,es,ep,ho,r⟩,_⟩:=id I.loc;obtain ⟨sl,hL⟩:=u.any ho I.free fun z=>(hch _ z).2.1 rfl
 exact I.step (ch:=ch) hch (fun b o hL hb hc e n=>u.keep b o e n (fun z=>(List.mem_cons.mp (I.stkSub b z)).elim hL hb) hc) (fun b o _ _ hc e n=>u.any e n hc) (fun b o hc e n=>u.free b o e n hc) (fun b o hc e=>u.there b o e hc) u.tups u.frzs u.tbls (fun m' hm=>by
  obtain ⟨o',es',ep',ho',r'⟩:=hm;rw [ho] at ho'; cases ho';exact ⟨_,es',ep',hL,r'⟩) hok hg ht
theorem Inv.turned {t':Nat} {it:Addr} (I:Inv X pins σ H s) (k:∀ b o,b≠it->s.heap.get? b=some o->h'.get? b=some o) (hn:H it=none) (hL:it≠X.env.locals)
  (h1:it ∈ X.ex\/X.s₀.heap.objs.size<=it) (h2:∀ x c,X.env.cells.lookup x=some c->c≠it) (h3:∀ p ∈ X.pn++pins,p.1≠it) (ht:0 < t':=by first | assumption | exact Nat.succ_pos _ | (apply Inv.tk; assumption) | omega):Inv X pins σ H { s with heap:=h',toks:=t' }:=by
 have nit:∀ b u,H b=some u->b≠it:=fun b u e z=>by rw [z,hn] at e; cases e
 refine I.step (g':=s.gens) (d':=s.drawn) (ch:=[it]) (fun b hb=>?_) (fun b o _ _ hc e _=>k b o (fun z=>hc (by simp [z])) e) (fun b o _ _ hc e _=>⟨o.slots,k b o (fun z=>hc (by simp [z])) e⟩) (fun _ _ _ _ n=>n)
  (fun b o hc e=>⟨o,k b o (fun z=>hc (by simp [z])) e⟩) (fun _ _ e=>e) (fun _ _ _ e=>e) (fun b ps e=>⟨#[],by rw [e]; simp⟩) (fun m hm=>?_) (fun b u e=>?_) I.bare
 ·have e:b=it:=by simpa using hb
  subst e;exact ⟨h1,hL,h2,h3⟩
 ·obtain ⟨o,es,ep,ho,r⟩:=hm;exact ⟨o,es,ep,k _ o (Ne.symm hL) ho,r⟩
 ·refine (I.hok b u e).stay (fun c v hc q=>k c v ?_ q) (fun _ q=>q) fun _ _ q=>q
  rcases hc with z | z
  ·rw [z]; exact nit b u e
  ·exact nit c _ z
theorem Inv.tok (I:Inv X pins σ H s) (t:Nat) (ht:0 < t:=by first | assumption | exact Nat.succ_pos _ | (apply Inv.tk; assumption) | omega):Inv X pins σ H { s with toks:=t }:=I.un (h':=s.heap) (t':=t) Un.refl I.hok ht
theorem Inv.kept {t':Nat} (I:Inv X pins σ H s) (k:∀ b u,s.heap.get? b=some u->h'.get? b=some u) (ht:0 < t':=by first | assumption | exact Nat.succ_pos _ | (apply Inv.tk; assumption) | omega):Inv X pins σ H { s with heap:=h',toks:=t' }:=I.un (Un.kept k) (I.hok.kept k) ht
theorem Inv.laid {a:Addr} {o:HO} {t':Nat} (I:Inv X pins σ H s) (k:∀ b u,s.heap.get? b=some u->h'.get? b=some u) (hp:s.heap.objs.size<=a) (new:ObjOk X.prog X.w (upd H a o) h' a o) (ht:0 < t':=by first | assumption | exact Nat.succ_pos _ | (apply Inv.tk; assumption) | omega):
  Inv X pins σ (upd H a o) { s with heap:=h',toks:=t' }:=I.un (Un.laid k hp (I.hok.fresh hp)) (I.hok.laid k hp new) ht
theorem Inv.write {x e:Addr} {o:HO} {t':Nat} (I:Inv X pins σ H s) (mu:Mut (H x)) (he:e=x\/H e=some (.own x)) (k:∀ b u,b≠e->s.heap.get? b=some u->h'.get? b=some u) (heo:∃ u,h'.get? e=some u)
  (new:ObjOk X.prog X.w (upd H x o) h' x o) (ht:0 < t':=by first | assumption | exact Nat.succ_pos _ | (apply Inv.tk; assumption) | omega):Inv X pins σ (upd H x o) { s with heap:=h',toks:=t' }:=I.un (Un.write mu he k heo) (I.hok.write mu he k heo new) ht
theorem Inv.weak {σ':List (Option V)} (I:Inv X pins σ H s) (hl:σ'.length=σ.length) (w:∀ (i:Nat) v,σ'[i]? = some (some v)->σ[i]? = some (some v)):Inv X pins σ' H s:=
 ⟨I.ok,I.os,I.bare,I.base,let ⟨m,hn,hl'⟩:=I.loc; ⟨m,hn,fun i x v e1 e2 e3=>hl' i x v e1 (w i v e2) e3⟩,I.cell,I.free,I.freeC,I.pin,I.hok,hl.trans I.len,I.tk⟩
theorem Inv.pins_of {pins':List (Addr × Obj)} (I:Inv X pins σ H s) (h:∀ p ∈ pins',s.heap.get? p.1=some p.2/\H p.1=none/\p.1≠X.env.locals/\p.1 ∉ X.fs/\∀ v,p.2.data≠.cell v):Inv X pins' σ H s:=
 ⟨I.ok,I.os,I.bare,I.base,I.loc,I.cell,I.free,I.freeC,fun p hp=>(List.mem_append.mp hp).elim (fun z=>I.pin p (List.mem_append_left _ z)) (h p),I.hok,I.len,I.tk⟩
theorem mz {N:List Str} (hN:N.Nodup) {i j:Nat} {x:Str} (a:N[i]? = some x) (b:N[j]? = some x):i=j:=by
 obtain ⟨h1,e1⟩:=List.getElem?_eq_some_iff.mp a;obtain ⟨h2,e2⟩:=List.getElem?_eq_some_iff.mp b;exact (List.getElem_inj hN).mp (e1.trans e2.symm)
theorem pj {M:Model} {A:Around} {E:Value->Shared->Prop} {i:Nat} {x:Str} {v:V} {u:Value} {Q:Unit->Shared->Prop} (I:Inv X pins σ H s) (hN:X.N.Nodup) (hi:X.N[i]? = some x) (hx:Loc X.env.scope x) (r:RelV v u)
  (h:∀ s',Inv X pins (σ.set i (some v)) H s'->(∃ a,Heap.SameBut a s.heap s'.heap/\(a=X.env.locals\/X.env.cells.lookup x=some a))->Q () s') (hf:X.fn x=true\/X.env.scope.names.lookup x=some .local:=by first | exact .inl rfl | exact .inr rfl | assumption):wpAny M A (storeName X.env x u) Q E s:=by
 obtain ⟨m,hn,hl⟩:=id I.loc;have hcls:(X.env.scope.kind == .class || (X.env.scope.kind == .module && X.env.locals != X.env.globals))=false:=by rw [I.ok.kind]; rfl
 have hiσ:i < σ.length:=by rw [I.len]; exact (List.getElem?_eq_some_iff.mp hi).1
 have cne:=I.cne;have tracked:∀ {a:Addr} {h':Heap},(∃ o,s.heap.get? a=some o/\H a=none)->Heap.SameBut a s.heap h'->HOk X.prog X.w H h':=fun {a h'} ha hs b ob e=>by
  obtain ⟨_,_,hfree⟩:=ha;refine (I.hok b ob e).stay (fun c w' hc q=>(hs.2 c ?_).trans q) (fun _ q=>q) fun _ _ q=>q
  rintro rfl;rcases hc with rfl | hc
  ·rw [hfree] at e; cases e
  ·rw [hfree] at hc; cases hc
 rcases hx with hk | hk
 ·refine wpAny_storeName_local hk hn (fun h' hn' hs=>?_) hcls;obtain ⟨oL,_,_,hoL,_⟩:=id hn;refine h _ ⟨I.ok,I.os,I.bare,⟨fun b o e n hb hx=>?_,fun b o e n hb hx=>?_,I.base.free,fun b o e hx=>?_,I.base.tups,I.base.frzs,I.base.tbls⟩,⟨_,hn',fun j y v' e1 e2 e3=>?_⟩,fun y c e=>?_,I.free,I.freeC,fun p hp=>?_,tracked ⟨oL,hoL,I.free⟩ hs,by simpa using I.len,(by first | exact Nat.succ_pos _ | exact I.tk)⟩ ⟨_,hs,.inl rfl⟩
  ·exact (hs.2 b (Nat.ne_of_lt (Nat.lt_of_lt_of_le (Heap.lt_size e) I.ok.above))).trans (I.base.keep b o e n hb hx)
  ·obtain ⟨sl,e1⟩:=I.base.slot b o e n hb hx;exact ⟨sl,(hs.2 b (Nat.ne_of_lt (Nat.lt_of_lt_of_le (Heap.lt_size e) I.ok.above))).trans e1⟩
  ·obtain ⟨o',e1⟩:=I.base.there b o e hx;exact ⟨o',(hs.2 b (Nat.ne_of_lt (Nat.lt_of_lt_of_le (Heap.lt_size e) I.ok.above))).trans e1⟩
  ·by_cases hj:j=i
   ·subst hj;rw [hi] at e1; cases e1;rw [List.getElem?_set_self hiσ] at e2;cases e2;exact ⟨u,r,.inl ⟨hk,by simp⟩⟩
   ·rw [List.getElem?_set_ne (Ne.symm hj)] at e2;obtain ⟨u',r',q⟩:=hl j y v' e1 e2 e3;refine ⟨u',r',?_⟩;rcases q with ⟨k,e⟩ | ⟨k,c,e,z⟩
    ·refine .inl ⟨k,?_⟩;have:y≠x:=fun e=>hj (mz hN e1 (e ▸ hi))
     simp [this,e]
    ·exact .inr ⟨k,c,e,z.sameBut hs (cne y c e)⟩
  ·obtain ⟨w',z⟩:=I.cell y c e;exact ⟨w',z.sameBut hs (cne y c e)⟩
  ·obtain ⟨e,n,ne,nf,d⟩:=I.pin p hp;exact ⟨(hs.2 p.1 ne).trans e,n,ne,nf,d⟩
 ·have hfn:X.fn x=true:=by
   rcases hf with z | z
   ·exact z
   ·rw [z] at hk; cases hk
  obtain ⟨c,hc⟩:=I.ok.has x (.inl hk);obtain ⟨w',z⟩:=I.cell x c hc;refine wpAny_storeName_cell I.ok.kind hk hc z (fun h' hc' hs=>?_);obtain ⟨oc,hoc,hocd⟩:=id z;refine h { s with heap:=h' } ⟨I.ok,I.os,I.bare,⟨fun b o e n hb hx=>?_,fun b o e n hb hx=>?_,I.base.free,fun b o e hx=>?_,I.base.tups,I.base.frzs,I.base.tbls⟩,⟨m,hn.sameBut hs (Ne.symm (cne x c hc)),fun j y v' e1 e2 e3=>?_⟩,fun y c' e=>?_,I.free,I.freeC,fun p hp=>?_,tracked ⟨oc,hoc,I.freeC x c hc⟩ hs,by simpa using I.len,I.tk⟩ ⟨c,hs,.inr hc⟩
  ·exact (hs.2 b (Nat.ne_of_lt (Nat.lt_of_lt_of_le (Heap.lt_size e) (I.ok.cab x c hfn hc)))).trans (I.base.keep b o e n hb hx)
  ·obtain ⟨sl,e1⟩:=I.base.slot b o e n hb hx;exact ⟨sl,(hs.2 b (Nat.ne_of_lt (Nat.lt_of_lt_of_le (Heap.lt_size e) (I.ok.cab x c hfn hc)))).trans e1⟩
  ·obtain ⟨o',e1⟩:=I.base.there b o e hx;exact ⟨o',(hs.2 b (Nat.ne_of_lt (Nat.lt_of_lt_of_le (Heap.lt_size e) (I.ok.cab x c hfn hc)))).trans e1⟩
  ·by_cases hj:j=i
   ·subst hj;rw [hi] at e1; cases e1;rw [List.getElem?_set_self hiσ] at e2;cases e2;exact ⟨u,r,.inr ⟨.inl hk,c,hc,hc'⟩⟩
   ·rw [List.getElem?_set_ne (Ne.symm hj)] at e2;obtain ⟨u',r',q⟩:=hl j y v' e1 e2 e3;refine ⟨u',r',?_⟩;rcases q with q | ⟨k,c',e,z'⟩
    ·exact .inl q
    ·refine .inr ⟨k,c',e,z'.sameBut hs ?_⟩;rintro rfl;exact hj (mz hN e1 (I.ok.inj _ _ _ e hc ▸ hi))
  ·by_cases hcc:c'=c
   ·subst hcc; exact ⟨_,hc'⟩
   ·obtain ⟨w2,z2⟩:=I.cell y c' e;exact ⟨w2,z2.sameBut hs hcc⟩
  ·obtain ⟨e,n,ne,nf,d⟩:=I.pin p hp;refine ⟨(hs.2 p.1 ?_).trans e,n,ne,nf,d⟩;intro q;rw [q,hoc] at e;have q':oc=p.2:=Option.some.inj e;exact d w' (by rw [<- q']; exact hocd)
theorem nk {M:Model} {A:Around} {E:Value->Shared->Prop} {i:Nat} {x:Str} {v:V} {u:Value} {Q:Unit->Shared->Prop} (I:Inv X pins σ H s) (hN:X.N.Nodup) (hi:X.N[i]? = some x) (hx:Loc X.env.scope x) (r:RelV v u)
  (h:∀ s',Inv X pins (σ.set i (some v)) H s'->Q () s') (hf:X.fn x=true\/X.env.scope.names.lookup x=some .local:=by first | exact .inl rfl | exact .inr rfl | assumption):wpAny M A (storeName X.env x u) Q E s:=
 pj I hN hi hx r (fun s' I' _=>h s' I') hf
theorem Inv.call' {s':Shared} {ch:List Addr} (I:Inv X pins σ H s) (ho:s'.os=s.os) (u:Un (frs X.stack) ch H H' s.heap s'.heap) (hok:HOk X.prog X.w H' s'.heap) (hg:AllBare s'.gens)
  (hch:∀ b ∈ ch,(b ∈ X.ex\/X.s₀.heap.objs.size<=b)/\b≠X.env.locals/\(∀ x c,X.env.cells.lookup x=some c->c≠b)/\∀ p ∈ X.pn++pins,p.1≠b) (ht:0 < s'.toks:=by first | assumption | exact Nat.succ_pos _ | (apply Inv.tk; assumption) | omega):Inv X pins σ H' s':=by
 obtain ⟨h',g',d',t',o'⟩:=s';have e:o'=s.os:=ho;subst e;exact I.call (g':=g') (t':=t') (d':=d') u hok hg hch ht
end
noncomputable abbrev XK:=Value->Option Addr->Hp->Prop
noncomputable abbrev St:=List (Option V)
noncomputable abbrev VK:=V->Hp->Prop
noncomputable abbrev TE:=St->Hp->VK->Prop
noncomputable abbrev TT:=St->Hp->(Bool->Hp->Prop)->Prop
noncomputable abbrev TA:=St->Hp->(List V->Hp->Prop)->Prop
structure Ends where
 nx:St->Hp->Prop
 rt:VK
 bk:St->Hp->Prop:=fun _ _=>False
 ct:St->Hp->Prop:=fun _ _=>False
noncomputable abbrev TS:=Ends->St->Hp->Prop
def EP (X:Cx) (pins:List (Addr × Obj)) (σ:St) (Q:VK) (u:Value) (s':Shared):Prop:=∃ v H',Inv X pins σ H' s'/\RelV v u/\Q v H'
def TP (X:Cx) (pins:List (Addr × Obj)) (σ:St) (Q:Bool->Hp->Prop) (b:Bool) (s':Shared):Prop:=∃ H',Inv X pins σ H' s'/\Q b H'
def AP (X:Cx) (pins:List (Addr × Obj)) (σ:St) (Q:List V->Hp->Prop) (us:List Value) (s':Shared):Prop:=∃ vs H',Inv X pins σ H' s'/\Vals vs us/\Q vs H'
def SP (X:Cx) (pins:List (Addr × Obj)) (D:Ends) (f:Flow) (s':Shared):Prop:=
 match f with
 | .next=>∃ σ' H',Inv X pins σ' H' s'/\D.nx σ' H'
 | .brk=>∃ σ' H',Inv X pins σ' H' s'/\D.bk σ' H'
 | .cont=>∃ σ' H',Inv X pins σ' H' s'/\D.ct σ' H'
 | .ret u=>∃ v σ' H',Inv X pins σ' H' s'/\RelV v u/\D.rt v H'
def PE (X:Cx) (e:Expr) (t:TE):Prop:=
 ∀ (pins:List (Addr × Obj)) (s:Shared) (σ:St) (H:Hp) (Q:VK),Inv X pins σ H s->t σ H Q->wpAny (model X.prog X.w) X.A (eval e X.env) (EP X pins σ Q) X.xe s
def PT (X:Cx) (e:Expr) (t:TT):Prop:=
 ∀ (pins:List (Addr × Obj)) (s:Shared) (σ:St) (H:Hp) (Q:Bool->Hp->Prop),Inv X pins σ H s->t σ H Q->wpAny (model X.prog X.w) X.A (isTrue e X.env (eval e X.env)) (TP X pins σ Q) X.xe s
def PW (X:Cx) (e:Expr) (t:TT):Prop:=
 ∀ (whole:Sem Value) (pins:List (Addr × Obj)) (s:Shared) (σ:St) (H:Hp) (Q:Bool->Hp->Prop),Inv X pins σ H s->t σ H Q->wpAny (model X.prog X.w) X.A (isTrue e X.env whole) (TP X pins σ Q) X.xe s
theorem PW.pt {X:Cx} {e:Expr} {t:TT} (h:PW X e t):PT X e t:=h _
def PA (X:Cx) (es:List Expr) (t:TA):Prop:=
 ∀ (pos:Pos) (pins:List (Addr × Obj)) (s:Shared) (σ:St) (H:Hp) (Q:List V->Hp->Prop),Inv X pins σ H s->t σ H Q->wpAny (model X.prog X.w) X.A (spliced (backTo pos (starEach es X.env))) (AP X pins σ Q) X.xe s
def PS (X:Cx) (st:Stmt) (t:TS):Prop:=
 ∀ (pins:List (Addr × Obj)) (s:Shared) (σ:St) (H:Hp) (D:Ends),Inv X pins σ H s->t D σ H->wpAny (model X.prog X.w) X.A (exec st X.env) (SP X pins D) X.xe s
def PSs (X:Cx) (st:List Stmt) (t:TS):Prop:=
 ∀ (pins:List (Addr × Obj)) (s:Shared) (σ:St) (H:Hp) (D:Ends),Inv X pins σ H s->t D σ H->wpAny (model X.prog X.w) X.A (execs st X.env) (SP X pins D) X.xe s
theorem thn {α:Type} {t:Sem α} {Q Q':α -> Shared->Prop} {M:Model} {A:Around} {E:Value->Shared->Prop} {s:Shared} (h:wpAny M A t Q E s) (hQ:∀ a s,Q a s->Q' a s):wpAny M A t Q' E s:=wpAny_mono h hQ fun _ _ x=>x
theorem tokQ {α:Type} {t:Sem α} {Q:α -> Shared->Prop} {M:Model} {A:Around} {E:Value->Shared->Prop} {s:Shared} (h0:0 < s.toks) (h:wpAny M A t (fun a s'=>0 < s'.toks->Q a s') E s):wpAny M A t Q E s:=
 wpAny_mono (wpAny_toks_of (n:=1) h0 h) (fun _ _ z=>z.2 z.1) fun _ _ z=>z.2
section
variable {X:Cx}
noncomputable def tVar (i:Nat):TE:=fun σ H Q=>∃ v,σ[i]? = some (some v)/\Q v H
noncomputable def tC (v:V):TE:=fun _ H Q=>Q v H
theorem xi {i:Nat} {x:Str} {pos:Pos} (hN:X.N[i]? = some x) (hv:Vis X.env.scope x) (hd:(x == ("__debug__" : Str))=false:=by decide) (hcd:(x == ("__classdict__" : Str))=false:=by decide):PE X (.Name x pos) (tVar i):=by
 intro pins s σ H Q I h;obtain ⟨v,e,h⟩:=h;obtain ⟨m,hn,hl⟩:=I.loc;obtain ⟨u,r,l⟩:=hl i x v hN e hv;have fin:EP X pins σ Q u s:=⟨v,H,I,r,h⟩;rcases l with ⟨hk,hm⟩ | ⟨hk,c,hc,hcell⟩
 ·exact wpAny_Name (wpAny_loadName_local I.ok.kind hk hn hm fin) hd
 ·rcases hk with hk | hk
  ·exact wpAny_Name (wpAny_loadName_cell I.ok.kind hk hc hcell fin) hd
  ·exact wpAny_Name (wpAny_loadName_free I.ok.kind hk hc hcell fin hcd) hd
theorem af {i j pos}:PE X (.Constant (.int i) j pos) (tC (.int i)):=fun _ _ _ H _ I h=>wpAny_Constant_int ⟨.int i,H,I.tok _,⟨_,rfl⟩,h⟩
theorem dm {b j pos}:PE X (.Constant (.bool b) j pos) (tC (.bl b)):=fun _ _ _ H _ I h=>Constant_bool ⟨.bl b,H,I,rfl,h⟩
theorem h8 {j pos}:PE X (.Constant .none j pos) (tC .non):=fun _ _ _ H _ I h=>Constant_none ⟨.non,H,I,rfl,h⟩
theorem xu {x j pos}:PE X (.Constant (.str x) j pos) (tC (.str x)):=fun _ _ _ H _ I h=>Calls.Constant_str ⟨.str x,H,I.tok _,⟨_,rfl⟩,h⟩
def Gl (X:Cx) (x:Str):Prop:=X.env.kindOf x=some .globalImplicit
theorem jq {E:Value->Shared->Prop} {pins:List (Addr × Obj)} {s:Shared} {σ:St} {H:Hp} {x:Str} {u:Value} {pos:Pos} {Q:Value->Shared->Prop} (I:Inv X pins σ H s) (hg:Gl X x) (hm:X.mg x=some u) (h:Q u s)
  (hd:(x == ("__debug__" : Str))=false:=by decide):wpAny (model X.prog X.w) X.A (eval (.Name x pos) X.env) Q E s:=
 Calls.Name_function_global I.ok.kind hg (Calls.loadGlobal_global (by rw [I.ok.glob]; exact I.mod.glob.keeps I.bk) hm h) hd
theorem dA {E:Value->Shared->Prop} {pins:List (Addr × Obj)} {s:Shared} {σ:St} {H:Hp} {x:Str} {u:Value} {pos:Pos} {Q:Value->Shared->Prop} (I:Inv X pins σ H s) (hg:Gl X x) (hm:X.mg x=none) (hv:bootBuiltins x=some u) (h:Q u s)
  (hn:x ≠ "__name__" := by decide) (hd:(x == ("__debug__" : Str))=false:=by decide):wpAny (model X.prog X.w) X.A (eval (.Name x pos) X.env) Q E s:=by
 obtain ⟨mb,h1,h2⟩:=I.mod.blt;exact Calls.Name_function_global I.ok.kind hg (Calls.loadGlobal_builtin (by rw [I.ok.glob]; exact I.mod.glob.keeps I.bk) hm (by rw [I.ok.blt]; exact h1.keeps I.bk) ((h2 x hn).trans hv) h) hd
theorem zp {x:Str} {v:V} {u:Value} {pos:Pos} (hg:Gl X x) (hm:X.mg x=some u) (r:RelV v u) (hd:(x == ("__debug__" : Str))=false:=by decide):PE X (.Name x pos) (tC v):=
 fun _ _ _ H _ I h=>jq I hg hm ⟨v,H,I,r,h⟩ hd
theorem y0 {x:Str} {v:V} {u:Value} {pos:Pos} (hg:Gl X x) (hm:X.mg x=none) (hv:bootBuiltins x=some u) (r:RelV v u) (hn:x ≠ "__name__" := by decide) (hd:(x == ("__debug__" : Str))=false:=by decide):PE X (.Name x pos) (tC v):=
 fun _ _ _ H _ I h=>dA I hg hm hv ⟨v,H,I,r,h⟩ hn hd
variable {a b:Expr} {ta tb:TE} {pos:Pos}
def PC (X:Cx) (op:CmpOp) (a b:Expr) (t:TE):Prop:=
 ∀ (pins:List (Addr × Obj)) (s:Shared) (σ:St) (H:Hp) (Q:VK),Inv X pins σ H s->t σ H Q ->
  wpAny (model X.prog X.w) X.A (eval a X.env) (fun v s₁=>wpAny (model X.prog X.w) X.A (eval b X.env) (fun u s₂=>wpAny (model X.prog X.w) X.A (compareOp op v u) (EP X pins σ Q) X.xe s₂) X.xe s₁) X.xe s
theorem nobehind (b:Expr) {op:CmpOp} (h:op≠.In) (h2:op≠.NotIn):behindInMarks op b=false:=by
 have e1:(op == CmpOp.In)=false:=by cases op <;> first | rfl | exact absurd rfl h
 have e2:(op == CmpOp.NotIn)=false:=by cases op <;> first | rfl | exact absurd rfl h2
 cases b <;> simp [behindInMarks,e1,e2]
noncomputable def tB (t:TE):TT:=fun σ H Q=>t σ H fun x H1=>∃ c,x=.bl c/\Q c H1
theorem xV {op:CmpOp} {t:TE} (h:PC X op a b t) (h1:behindInMarks op b=false:=by first | exact nobehind _ (by decide) (by decide) | rfl):PT X (.Compare a [op] [b] pos) (tB t):=by
 intro pins s σ H Q I hw;refine wpAny_isTrue_Compare1 (thn (h pins s σ H _ I hw) fun v s1 h1=>thn h1 fun u s2 h2=>thn h2 fun c s3 ⟨x,H1,I1,r1,q1⟩=>?_) h1;obtain ⟨d,rfl,q⟩:=q1;cases r1;exact wpAny_truthy_bool ⟨H1,I1,q⟩
theorem Bc {e:Expr} {t:TE} (h:PE X e t) (he:∀ whole,isTrue e X.env whole=(do let v <- whole; standAt e.pos; holding [v] (truthy v)):=by intro _; rfl):PT X e (tB t):=by
 intro pins s σ H Q I hw;refine isTrue_plain (thn (h pins s σ H _ I hw) fun v s1 ⟨x,H1,I1,r1,q1⟩=>?_) (he _);obtain ⟨d,rfl,q⟩:=q1;cases r1;exact wpAny_truthy_bool ⟨H1,I1,q⟩
variable {tA tB':TT} {rest:List Expr}
noncomputable def tAnd (t u:TT):TT:=fun σ H Q=>t σ H fun c H1=>if c=true then u σ H1 Q else Q false H1
noncomputable def tOr (t u:TT):TT:=fun σ H Q=>t σ H fun c H1=>if c=true then Q true H1 else u σ H1 Q
noncomputable def tNot (t:TT):TT:=fun σ H Q=>t σ H fun c H1=>Q (!c) H1
theorem kj (ha:PT X a tA):PW X (.BoolOp .And [a] pos) tA:=by
 intro wh pins s σ H Q I h;refine isTrue_and (thn (ha pins s σ H Q I h) fun c s1 e=>?_);cases c with
 | true=>exact isTrue_and_nil e
 | false=>exact e
theorem xq (ha:PT X a tA):PW X (.BoolOp .Or [a] pos) tA:=by
 intro wh pins s σ H Q I h;refine isTrue_or (thn (ha pins s σ H Q I h) fun c s1 e=>?_);cases c with
 | false=>exact isTrue_or_nil e
 | true=>exact e
theorem mP (ha:PT X a tA) (hb:PW X (.BoolOp .And (b::rest) pos) tB'):PW X (.BoolOp .And (a::b::rest) pos) (tAnd tA tB'):=by
 intro wh pins s σ H Q I h;refine isTrue_and (thn (ha pins s σ H _ I h) fun c s1 ⟨H1,I1,q1⟩=>?_);cases c with
 | true=>exact hb wh pins s1 σ H1 Q I1 q1
 | false=>exact ⟨H1,I1,q1⟩
theorem z9 (ha:PT X a tA) (hb:PW X (.BoolOp .Or (b::rest) pos) tB'):PW X (.BoolOp .Or (a::b::rest) pos) (tOr tA tB'):=by
 intro wh pins s σ H Q I h;refine isTrue_or (thn (ha pins s σ H _ I h) fun c s1 ⟨H1,I1,q1⟩=>?_);cases c with
 | true=>exact ⟨H1,I1,q1⟩
 | false=>exact hb wh pins s1 σ H1 Q I1 q1
theorem mF (ha:PT X a tA):PT X (.UnaryOp .Not a pos) (tNot tA):=by
 intro pins s σ H Q I h;exact isTrue_not (ha pins s σ H (fun c H1=>Q (!c) H1) I h)
noncomputable def tAndV (ta tb:TE):TE:=fun σ H Q=>ta σ H fun x H1=>∃ c,x=.bl c/\if c=true then tb σ H1 Q else Q (.bl false) H1
noncomputable def tOrV (ta tb:TE):TE:=fun σ H Q=>ta σ H fun x H1=>∃ c,x=.bl c/\if c=true then Q (.bl true) H1 else tb σ H1 Q
theorem qd {op} {t:TE} (h:PE X a t):PE X (.BoolOp op [a] pos) t:=fun pins s σ H Q I hw=>BoolOp_one (h pins s σ H Q I hw)
theorem Ak (ha:PE X a ta) (hb:PE X (.BoolOp .And (b::rest) pos) tb):PE X (.BoolOp .And (a::b::rest) pos) (tAndV ta tb):=by
 intro pins s σ H Q I h;refine BoolOp_and (thn (ha pins s σ H _ I h) fun v s1 ⟨x,H1,I1,r1,q1⟩=>?_);obtain ⟨c,rfl,q1⟩:=q1;cases r1;refine wpAny_truthy_bool ?_;cases c with
 | true=>exact hb pins s1 σ H1 Q I1 q1
 | false=>exact ⟨.bl false,H1,I1,rfl,q1⟩
theorem BL (ha:PE X a ta) (hb:PE X (.BoolOp .Or (b::rest) pos) tb):PE X (.BoolOp .Or (a::b::rest) pos) (tOrV ta tb):=by
 intro pins s σ H Q I h;refine BoolOp_or (thn (ha pins s σ H _ I h) fun v s1 ⟨x,H1,I1,r1,q1⟩=>?_);obtain ⟨c,rfl,q1⟩:=q1;cases r1;refine wpAny_truthy_bool ?_;cases c with
 | false=>exact hb pins s1 σ H1 Q I1 q1
 | true=>exact ⟨.bl true,H1,I1,rfl,q1⟩
noncomputable def tIf (t:TT) (ta tb:TE):TE:=fun σ H Q=>t σ H fun c H1=>if c=true then ta σ H1 Q else tb σ H1 Q
theorem ki {c:Expr} (hc:PT X c tA) (ha:PE X a ta) (hb:PE X b tb):PE X (.IfExp c a b pos) (tIf tA ta tb):=by
 intro pins s σ H Q I h;refine wpAny_IfExp (thn (hc pins s σ H _ I h) fun d s1 ⟨H1,I1,q1⟩=>?_);cases d with
 | true=>exact ha pins s1 σ H1 Q I1 q1
 | false=>exact hb pins s1 σ H1 Q I1 q1
end
def SqL (K:Frag) (H:Hp) (a:Addr) (xs:List V):Prop:=
 Rd H a (.lst xs) \/
  ∃ (o:Obj) (its:Array Value) (n:Nat),K.lookup a=some o/\o.cls=.type "list" /\ o.dict=none/\o.data=.seq its n/\its.size<=sizeLine/\Vals xs its.toList
def SqT (K:Frag) (H:Hp) (a:Addr) (xs:List V):Prop:=
 Rd H a (.tup xs) \/
  ∃ (o:Obj) (its:Array Value) (n:Nat),K.lookup a=some o/\o.cls=.type "tuple" /\ o.data=.seq its n/\its.size<=sizeLine/\Vals xs its.toList
noncomputable def absV:Value->Option V
 | .none=>some .non
 | .bool b=>some (.bl b)
 | .int i _=>some (.int i)
 | .str x _=>some (.str x)
 | .bytes b _=>some (.byt b)
 | .float b _=>some (.flt b)
 | .ref a=>some (.ref a)
 | .type n=>some (.ty n)
 | _=>none
theorem RelV.abs {x:V} {u:Value} (r:RelV x u):absV u=some x:=by
 cases x with
 | non=>cases r; rfl
 | bl _=>cases r; rfl
 | int _=>obtain ⟨t,rfl⟩:=r; rfl
 | str _=>obtain ⟨t,rfl⟩:=r; rfl
 | byt _=>obtain ⟨t,rfl⟩:=r; rfl
 | flt _=>obtain ⟨t,rfl⟩:=r; rfl
 | ref _=>cases r; rfl
 | ty _=>cases r; rfl
theorem RelV.inj {x y:V} {u:Value} (r:RelV x u) (q:RelV y u):x=y:=Option.some.inj (r.abs.symm.trans q.abs)
theorem Vals.inj:∀ {xs ys:List V} {us:List Value},Vals xs us->Vals ys us->xs=ys
 | _,_,_,.nil,.nil=>rfl
 | _,_,_,.cons r t,.cons r' t'=>by rw [r.inj r',Vals.inj t t']
section
variable {X:Cx} {pins:List (Addr × Obj)} {σ:St} {H:Hp} {s:Shared} {a:Addr} {xs ys:List V}
theorem SqL.of {K:Frag} (h:H a=some (.lst xs)):SqL K H a xs:=.inl (.inl h)
theorem SqT.of {K:Frag} (h:H a=some (.tup xs)):SqT K H a xs:=.inl (.inl h)
theorem Inv.list (I:Inv X pins σ H s) (h:SqL X.K H a xs):∃ its:List Value,Vals xs its/\PlainL s.heap a its.toArray/\xs.length<=sizeLine:=by
 rcases h with h | ⟨o,its,n,hk,hc,hd,hs,hz,r⟩
 ·obtain ⟨z,its,n,r,e⟩:=h.ok I.hok;exact ⟨its,r,⟨_,n,e,rfl,rfl,rfl⟩,z⟩
 ·refine ⟨its.toList,r,⟨o,n,I.kIn a o hk,hc,hd,by simpa using hs⟩,?_⟩;have e:=r.length;simp only [Array.length_toList] at e;omega
theorem Inv.tuple (I:Inv X pins σ H s) (h:SqT X.K H a xs):∃ its:List Value,Vals xs its/\IsTup s.heap a its.toArray/\xs.length<=sizeLine:=by
 rcases h with h | ⟨o,its,n,hk,hc,hs,hz,r⟩
 ·obtain ⟨z,its,r,p⟩:=h.ok I.hok;exact ⟨its,r,p,z⟩
 ·refine ⟨its.toList,r,⟨o,I.kIn a o hk,hc,n,by simpa using hs⟩,?_⟩;have e:=r.length;simp only [Array.length_toList] at e;omega
theorem Inv.list_inj (I:Inv X pins σ H s) (h:SqL X.K H a xs) (h':SqL X.K H a ys):xs=ys:=by
 obtain ⟨its,r,⟨o,n,e,_,_,d⟩,_⟩:=I.list h;obtain ⟨its',r',⟨o',n',e',_,_,d'⟩,_⟩:=I.list h';rw [e] at e'; cases e';rw [d] at d';injection d' with d1 _
 have:its=its':=by simpa using congrArg Array.toList d1
 subst this;exact r.inj r'
theorem Inv.tuple_inj (I:Inv X pins σ H s) (h:SqT X.K H a xs) (h':SqT X.K H a ys):xs=ys:=by
 obtain ⟨its,r,⟨o,e,_,n,d⟩,_⟩:=I.tuple h;obtain ⟨its',r',⟨o',e',_,n',d'⟩,_⟩:=I.tuple h';rw [e] at e'; cases e';rw [d] at d';injection d' with d1 _
 have:its=its':=by simpa using congrArg Array.toList d1
 subst this;exact r.inj r'
end
noncomputable abbrev Cx.wish (X:Cx) (E:Value->Shared->Prop):Cx:={ X with xe:=E }
noncomputable abbrev Cx.nox (X:Cx):Cx:=X.wish fun _ _=>False
theorem Cx.Ok.wish {X:Cx} (ok:X.Ok) (E:Value->Shared->Prop):(X.wish E).Ok:=
 ⟨ok.mod,ok.kind,ok.glob,ok.blt,ok.above,ok.inj,ok.has,ok.cab,ok.hd,ok.frames,ok.stk,ok.exf,ok.bs,ok.bsz,ok.noex,ok.exfs,ok.funs,ok.frf⟩
theorem Cx.Ok.unwish {X:Cx} {E:Value->Shared->Prop} (ok:(X.wish E).Ok):X.Ok:=
 ⟨ok.mod,ok.kind,ok.glob,ok.blt,ok.above,ok.inj,ok.has,ok.cab,ok.hd,ok.frames,ok.stk,ok.exf,ok.bs,ok.bsz,ok.noex,ok.exfs,ok.funs,ok.frf⟩
section
variable {X:Cx} {pins:List (Addr × Obj)} {σ:St} {H:Hp} {s:Shared} {E:Value->Shared->Prop}
theorem Inv.wish (I:Inv X pins σ H s) (E:Value->Shared->Prop):Inv (X.wish E) pins σ H s:=⟨I.ok.wish E,I.os,I.bare,I.base,I.loc,I.cell,I.free,I.freeC,I.pin,I.hok,I.len,I.tk⟩
theorem Inv.unwish (I:Inv (X.wish E) pins σ H s):Inv X pins σ H s:=⟨I.ok.unwish,I.os,I.bare,I.base,I.loc,I.cell,I.free,I.freeC,I.pin,I.hok,I.len,I.tk⟩
theorem SP.unwish {D:Ends} {f:Flow} {s':Shared} (h:SP (X.wish E) pins D f s'):SP X pins D f s':=by
 cases f with
 | next=>obtain ⟨σ',H',I,q⟩:=h; exact ⟨σ',H',I.unwish,q⟩
 | brk=>obtain ⟨σ',H',I,q⟩:=h; exact ⟨σ',H',I.unwish,q⟩
 | cont=>obtain ⟨σ',H',I,q⟩:=h; exact ⟨σ',H',I.unwish,q⟩
 | ret u=>obtain ⟨v,σ',H',I,r,q⟩:=h; exact ⟨v,σ',H',I.unwish,r,q⟩
theorem PSs.nox {st:List Stmt} {t:TS} (h:PSs X.nox st t):PSs X st t:=fun pins s σ H D I hw=>
 wpAny_mono (h pins s σ H D (I.wish _) hw) (fun _ _ q=>q.unwish) fun _ _ z=>False.elim z
end
section
variable {X:Cx} {st:Stmt} {rest:List Stmt} {t u:TS} {e:Expr} {te:TE} {pos:Pos}
noncomputable def tNext:TS:=fun D σ H=>D.nx σ H
noncomputable def tSeq (t u:TS):TS:=fun D σ H=>t { D with nx:=u D } σ H
theorem aA:PSs X [] tNext:=fun _ _ σ H _ I h=>wpAny_execs_nil ⟨σ,H,I,h⟩
theorem ae (h1:PS X st t) (h2:PSs X rest u):PSs X (st::rest) (tSeq t u):=by
 intro pins s σ H D I h;refine wpAny_execs_cons (thn (h1 pins s σ H { D with nx:=u D } I h) fun f s1 q=>?_);cases f with
 | next=>
  obtain ⟨σ',H',I',q⟩:=q;exact h2 pins s1 σ' H' D I' q
 | ret v=>exact q
 | brk=>exact q
 | cont=>exact q
theorem ai (h1:PS X st t):PSs X [st] t:=by
 intro pins s σ H D I h;refine wpAny_execs_cons (thn (h1 pins s σ H D I h) fun f s1 q=>?_);cases f with
 | next=>exact wpAny_execs_nil q
 | ret v=>exact q
 | brk=>exact q
 | cont=>exact q
theorem Inv.quiet {pins:List (Addr × Obj)} {σ:St} {H:Hp} {s:Shared} (I:Inv X pins σ H s):interactive X.env=false:=by simp [interactive,I.ok.kind]
noncomputable def tDrop (te:TE):TS:=fun D σ H=>te σ H fun _ H1=>D.nx σ H1
theorem cF (he:PE X e te) (hs:swapsWith e none pos.line X.env=pure false:=by rfl):PS X (.Expr e pos) (tDrop te):=by
 intro pins s σ H D I h;exact wpAny_Expr_any (thn (he pins s σ H _ I h) fun v s1 ⟨x,H1,I1,r1,q1⟩=>⟨σ,H1,I1,q1⟩) I.quiet hs
noncomputable def tRet (te:TE):TS:=fun D σ H=>te σ H D.rt
theorem ao (he:PE X e te):PS X (.Return (some e) pos) (tRet te):=by
 intro pins s σ H D I h;exact wpAny_Return_some (thn (he pins s σ H _ I h) fun v s1 ⟨x,H1,I1,r1,q1⟩=>⟨x,σ,H1,I1,r1,q1⟩)
noncomputable def tIfS (c:TT) (t u:TS):TS:=fun D σ H=>c σ H fun b H1=>if b=true then t D σ H1 else u D σ H1
theorem aG {c:Expr} {a b:List Stmt} {tc:TT} (hc:PT X c tc) (ha:PSs X a t) (hb:PSs X b u):PS X (.If c a b pos) (tIfS tc t u):=by
 intro pins s σ H D I h;refine wpAny_If (thn (hc pins s σ H _ I h) fun d s1 ⟨H1,I1,q1⟩=>?_);cases d with
 | true=>exact ha pins s1 σ H1 D I1 q1
 | false=>exact hb pins s1 σ H1 D I1 q1
end
noncomputable abbrev TG:=V->St->Hp->(St->Hp->Prop)->Prop
noncomputable abbrev TGs:=List V->St->Hp->(St->Hp->Prop)->Prop
def PG (X:Cx) (target:Expr) (t:TG):Prop:=
 ∀ (pins:List (Addr × Obj)) (s:Shared) (σ:St) (H:Hp) (v:V) (u:Value) (Q:St->Hp->Prop),Inv X pins σ H s->RelV v u->t v σ H Q ->
  wpAny (model X.prog X.w) X.A (assign target X.env u) (fun _ s'=>∃ σ' H',Inv X pins σ' H' s'/\Q σ' H') X.xe s
def PGs (X:Cx) (ts:List Expr) (t:TGs):Prop:=
 ∀ (pins:List (Addr × Obj)) (s:Shared) (σ:St) (H:Hp) (vs:List V) (us:List Value) (Q:St->Hp->Prop),Inv X pins σ H s->Vals vs us->t vs σ H Q ->
  wpAny (model X.prog X.w) X.A (assignInOrder ((assignEach ts X.env).map (·.2)) us) (fun _ s'=>∃ σ' H',Inv X pins σ' H' s'/\Q σ' H') X.xe s
noncomputable abbrev TSet:=V->V->V->Hp->(Hp->Prop)->Prop
def PSet (X:Cx) (t:TSet):Prop:=
 ∀ (pins:List (Addr × Obj)) (s:Shared) (σ:St) (H:Hp) (o i v:V) (ov iv u:Value) (Q:Hp->Prop),Inv X pins σ H s->RelV o ov->RelV i iv->RelV v u->t o i v H Q ->
  wpAny (model X.prog X.w) X.A (setItem ov iv u) (fun _ s'=>∃ H',Inv X pins σ H' s'/\Q H') X.xe s
section
variable {X:Cx} {pos:Pos}
noncomputable def gName (i:Nat):TG:=fun v σ H Q=>Q (σ.set i (some v)) H
theorem aj {i:Nat} {x:Str} (hN:X.N.Nodup) (hi:X.N[i]? = some x) (hx:Loc X.env.scope x) (hf:X.fn x=true\/X.env.scope.names.lookup x=some .local:=by first | exact .inl rfl | exact .inr rfl | assumption):PG X (.Name x pos) (gName i):=by
 intro pins s σ H v u Q I r h;exact wpAny_assign_Name (nk I hN hi hx r (fun s' I'=>⟨_,H,I',h⟩) hf)
noncomputable def gNil:TGs:=fun vs σ H Q=>vs=[]/\Q σ H
noncomputable def gCons (t:TG) (u:TGs):TGs:=fun vs σ H Q=>∃ v r,vs=v::r/\t v σ H fun σ' H'=>u r σ' H' Q
theorem aP:PGs X [] gNil:=by
 intro pins s σ H vs us Q I r h;obtain ⟨e,h⟩:=h;subst e;cases r;exact assignInOrder_nil ⟨σ,H,I,h⟩
theorem aq {e:Expr} {es:List Expr} {t:TG} {u:TGs} (h1:PG X e t) (h2:PGs X es u)
  (hs:(assignEach (e::es) X.env).map (·.2)=assign e X.env::(assignEach es X.env).map (·.2):=by rfl):PGs X (e::es) (gCons t u):=by
 intro pins s σ H vs us Q I r h;obtain ⟨v,vr,e1,h⟩:=h;subst e1;cases r with
 | cons r rr=>
  rw [hs];refine assignInOrder_cons (thn (h1 pins s σ H _ _ _ I r h) fun _ s1 ⟨σ1,H1,I1,q1⟩=>?_);exact h2 pins s1 σ1 H1 _ _ Q I1 rr q1
noncomputable def gTup (K:Frag) (n:Nat) (t:TGs):TG:=fun v σ H Q=>∃ a xs,v=.ref a/\SqT K H a xs/\xs.length=n/\t xs σ H Q
theorem xM {es:List Expr} {k:Nat} {t:TGs} {n:Nat} (hc:X.calm=true) (h:PGs X es t)
  (hn:(assignEach es X.env).length=n:=by rfl) (hst:(assignEach es X.env).findIdx? (·.1)=none:=by rfl):PG X (.Tuple es k pos) (gTup X.K n t):=by
 intro pins s σ H v u Q I r hw;obtain ⟨a,xs,e1,hq,hl,hw⟩:=hw;subst e1;cases r;obtain ⟨its,rv,ht,hz⟩:=I.tuple hq;refine assign_Tuple_tuple (I.ok.hd hc) ht (by simp [hn,<- hl,rv.length]) hst fun h' hx=>?_
 have I1:Inv X pins σ H { s with heap:=h' }:=I.kept (t':=s.toks) fun b o e=>hx b o (Nat.ne_of_lt (Heap.lt_size e)) e
 exact h pins _ σ H xs _ Q I1 (by simpa using rv) hw
noncomputable def gSub (to ti:TE) (t:TSet):TG:=fun v σ H Q=>to σ H fun o H1=>ti σ H1 fun i H2=>t o i v H2 fun H3=>Q σ H3
theorem ww {o i:Expr} {to ti:TE} {t:TSet} (ho:PE X o to) (hi:PE X i ti) (hs:PSet X t)
  (ha:∀ v,assign (.Subscript o i pos) X.env v=(do
   let ov <- holding [v] (eval o X.env)
   let iv <- holding [v,ov] (eval i X.env)
   standAt pos
   holding [v,ov,iv] (setItem ov iv v)
   release [v,ov,iv] []):=by intro _; rfl):PG X (.Subscript o i pos) (gSub to ti t):=by
 intro pins s σ H v u Q I r h;rw [ha];refine wpAny_bind (wpAny_holding (thn (ho pins s σ H _ I h) fun ov s1 ⟨x,H1,I1,r1,q1⟩=>?_));refine wpAny_bind (wpAny_holding (thn (hi pins s1 σ H1 _ I1 q1) fun iv s2 ⟨y,H2,I2,r2,q2⟩=>?_));refine wpAny_bind (wpAny_standAt (wpAny_bind (wpAny_holding (thn (hs pins s2 σ H2 x y v ov iv u _ I2 r1 r2 r q2) fun _ s3 ⟨H3,I3,q3⟩=>?_))));exact wpAny_release ⟨σ,H3,I3,q3⟩
noncomputable def tAsg (te:TE) (g:TG):TS:=fun D σ H=>te σ H fun x H1=>g x σ H1 D.nx
theorem jS {tg e:Expr} {te:TE} {g:TG} (he:PE X e te) (hg:PG X tg g) (hs:swapsWithSole [tg] e pos.line X.env=pure false:=by rfl) (hw:swappedStores [tg] e X.env=pure none:=by rfl)
  (h1:(assignEach [tg] X.env).map (·.2)=[assign tg X.env]:=by rfl):PS X (.Assign [tg] e pos) (tAsg te g):=by
 intro pins s σ H D I h;refine wpAny_Assign_stores (thn (he pins s σ H _ I h) fun v s1 ⟨x,H1,I1,r1,q1⟩=>?_) hs hw;rw [h1];exact thn (hg pins s1 σ H1 x v _ I1 r1 q1) fun _ s2 q=>q
theorem ak {i:Nat} {x:Str} {e:Expr} {te:TE} {pos':Pos} (hN:X.N.Nodup) (hi:X.N[i]? = some x) (hx:Loc X.env.scope x) (he:PE X e te) (hs:swapsWith e (some (.Name x pos')) pos.line X.env=pure false:=by rfl) (hf:X.fn x=true\/X.env.scope.names.lookup x=some .local:=by first | exact .inl rfl | exact .inr rfl | assumption):
  PS X (.Assign [.Name x pos'] e pos) (tAsg te (gName i)):=by
 intro pins s σ H D I h;refine wpAny_Assign_Name (thn (he pins s σ H _ I h) fun v s1 ⟨y,H1,I1,r1,q1⟩=>?_) hs;exact nk I1 hN hi hx r1 (fun s2 I2=>⟨_,H1,I2,q1⟩) hf
end
section
variable {X:Cx} {pos:Pos}
noncomputable def tWhile (c:TT) (tb:TS):TS:=fun D σ H=>∃ W:Nat->St->Hp->Prop,(∃ m,W m σ H)/\∀ m σ H,W m σ H ->
 c σ H fun b H1=>if b=true then ∃ N:St->Hp->Prop,(∀ σ' H',N σ' H'->∃ m',m' < m/\W m' σ' H')/\tb { D with nx:=N,ct:=N,bk:=D.nx } σ H1 else D.nx σ H1
theorem nB {c:Expr} {body:List Stmt} {tc:TT} {tb:TS} (hp:PassesOwn (model X.prog X.w) X.A X.env X.xe) (hc:PT X c tc) (hb:PSs X body tb):PS X (.While c body [] pos) (tWhile tc tb):=by
 intro pins s σ H D I h;obtain ⟨W,⟨m0,w0⟩,turn⟩:=h;refine wpAny_While (codeAny_whileLoop (fun n s'=>∃ σ' H',Inv X pins σ' H' s'/\W n σ' H') ?_ m0 ⟨σ,H,I,w0⟩);rintro n s1 ⟨σ1,H1,I1,w1⟩;refine wpAny_passesOwn hp (thn (hc pins s1 σ1 H1 _ I1 (turn n σ1 H1 w1)) fun b s2 ⟨H2,I2,q2⟩=>?_);cases b with
 | true=>
  obtain ⟨N,hN,q2⟩:=q2;rw [if_pos rfl];refine wpAny_passesOwn hp (thn (hb pins s2 σ1 H2 _ I2 q2) fun f s3 q3=>?_);cases f with
  | next=>
   obtain ⟨σ3,H3,I3,n3⟩:=q3;obtain ⟨m',hm,w3⟩:=hN σ3 H3 n3;exact ⟨m',hm,σ3,H3,I3,w3⟩
  | cont=>
   obtain ⟨σ3,H3,I3,n3⟩:=q3;obtain ⟨m',hm,w3⟩:=hN σ3 H3 n3;exact ⟨m',hm,σ3,H3,I3,w3⟩
  | brk=>exact q3
  | ret v=>exact q3
 | false=>
  rw [if_neg Bool.false_ne_true];exact wpAny_execs_nil ⟨σ1,H2,I2,q2⟩
end
structure It where
 go:Nat->Hp->Prop
 yld:Nat->Hp->V->Hp->Prop
 stop:Nat->Hp->Prop
def FpOk (X:Cx) (pins:List (Addr × Obj)) (H:Hp) (b:Addr):Prop:=
 H b=none/\b≠X.env.locals/\b ∉ X.fs/\(b ∈ X.ex\/X.s₀.heap.objs.size<=b)/\(∀ x c,X.env.cells.lookup x=some c->c≠b)/\∀ p ∈ X.pn++pins,p.1≠b
theorem Inv.fpOk {X:Cx} {pins:List (Addr × Obj)} {σ:St} {H H':Hp} {s:Shared} {b:Addr} (I:Inv X pins σ H s) (hb:s.heap.objs.size<=b) (hn:H' b=none):FpOk X pins H' b:=by
 refine ⟨hn,Nat.ne_of_gt (Nat.lt_of_lt_of_le I.lt hb),I.nofs hb,.inr (Nat.le_trans I.sz hb),fun x c e z=>?_,fun p hp z=>?_⟩
 ·obtain ⟨v,q⟩:=I.cell x c e;exact absurd (Nat.lt_of_lt_of_le q.lt (by rw [z]; exact hb)) (Nat.lt_irrefl _)
 ·exact absurd (Nat.lt_of_lt_of_le (Heap.lt_size (I.pin p hp).1) (by rw [z]; exact hb)) (Nat.lt_irrefl _)
structure Turn (P:Program) (w:World) (K:Frag) (tg:Expr) (J:It) (fp:List Addr) (it:Addr) (tn:Nat->Heap->Prop):Prop where
 mem:it ∈ fp
 obj:∀ i h,tn i h->∀ b ∈ fp,∃ o,h.get? b=some o/\∀ v,o.data≠.cell v
 keep:∀ i h h',tn i h->(∀ b ∈ fp,∀ o,h.get? b=some o->h'.get? b=some o)->tn i h'
 item:∀ (X:Cx),X.prog=P->X.w=w->X.K=K->X.calm=true->∀ (i:Nat) (pins:List (Addr × Obj)) (s:Shared) (σ:St) (H:Hp) (E:Value->Shared->Prop),Inv X pins σ H s->(∀ b ∈ fp,FpOk X pins H b)->tn i s.heap->J.go i H ->
  wpAny (model P w) X.A (pyNext (.ref it)) (fun r s1=>∃ u,r=some u /\
   wpAny (model P w) X.A (letOwnedTupleGo tg (.ref it) u) (fun _ s2=>∃ x H',Inv X pins σ H' s2/\RelV x u/\J.yld i H x H'/\tn (i+1) s2.heap/\∀ b ∈ fp,H' b=none) E s1) E s
 done:∀ (X:Cx),X.prog=P->X.w=w->X.K=K->X.calm=true->∀ (i:Nat) (pins:List (Addr × Obj)) (s:Shared) (σ:St) (H:Hp) (E:Value->Shared->Prop),Inv X pins σ H s->(∀ b ∈ fp,FpOk X pins H b)->tn i s.heap->J.stop i H ->
  wpAny (model P w) X.A (pyNext (.ref it)) (fun r s1=>r=none/\Inv X pins σ H s1) E s
 self:∀ (A:Around) (i:Nat) (s:Shared) (Q:Value->Shared->Prop) (E:Value->Shared->Prop),tn i s.heap->Q (.ref it) s->wpAny (model P w) A (pyIter (.ref it)) Q E s
noncomputable abbrev TI:=St->Hp->(It->Hp->Prop)->Prop
def PIE (X:Cx) (pins:List (Addr × Obj)) (σ:St) (tg:Expr) (R:It->Hp->Prop) (itv:Value) (s2:Shared):Prop:=
 ∃ (it:Addr) (fp:List Addr) (tn:Nat->Heap->Prop) (J:It) (H':Hp),itv=.ref it/\Inv X pins σ H' s2/\Turn X.prog X.w X.K tg J fp it tn/\tn 0 s2.heap/\(∀ b ∈ fp,FpOk X pins H' b)/\R J H'
def PI (X:Cx) (tg iter:Expr) (wi:TI):Prop:=
 ∀ (pins:List (Addr × Obj)) (s:Shared) (σ:St) (H:Hp) (R:It->Hp->Prop),Inv X pins σ H s->wi σ H R ->
  wpAny (model X.prog X.w) X.A (eval iter X.env) (fun v s1=>wpAny (model X.prog X.w) X.A (pyIter v) (PIE X pins σ tg R) X.xe s1) X.xe s
theorem uE {M:Model} {A:Around} {E:Value->Shared->Prop} {s:Shared} {tg:Expr} {it:Addr} {u:Value} {o:Obj} {n:String} {vs:Array Value} {Q:Unit->Shared->Prop} (ho:s.heap.get? it=some o) (hc:o.cls=.type n) (hd:o.data=.fields vs)
  (hn:["enumerate", "zip", "dict_itemiterator", "dict_reverseitemiterator", "odict_iterator", "itertools.zip_longest", "itertools.pairwise"].contains n=false) (hQ:Q () s):wpAny M A (letOwnedTupleGo tg (.ref it) u) Q E s:=by
 unfold letOwnedTupleGo;cases tg <;> first
  | exact wpAny_pure hQ
  | (cases u <;> first
    | exact wpAny_pure hQ
    | (refine wpAny_bind (wpAny_load ho ?_); rw [hc,hd]; show wpAny M A (if (["enumerate", "zip", "dict_itemiterator", "dict_reverseitemiterator", "odict_iterator", "itertools.zip_longest", "itertools.pairwise"].contains n && vs[0]? == some (rawInt _))=true then _ else _) Q E s; rw [if_neg (by intro h; rw [hn,Bool.false_and] at h; cases h)]; exact wpAny_pure hQ))
noncomputable def Itl (K:Frag) (a:Addr):It:=
 ⟨fun i H=>∃ xs x,SqL K H a xs/\xs[i]? = some x,fun i H x H'=>H'=H/\∀ xs,SqL K H a xs->xs[i]? = some x,fun i H=>∃ xs,SqL K H a xs/\xs.length<=i⟩
noncomputable def Itt (K:Frag) (a:Addr):It:=
 ⟨fun i H=>∃ xs x,SqT K H a xs/\xs[i]? = some x,fun i H x H'=>H'=H/\∀ xs,SqT K H a xs->xs[i]? = some x,fun i H=>∃ xs,SqT K H a xs/\xs.length<=i⟩
noncomputable def Itr (lo:Int) (n:Nat):It:=⟨fun i _=>i < n,fun i H x H'=>H'=H/\x=.int (lo+i),fun i _=>n<=i⟩
theorem vU {P:Program} {w:World} {K:Frag} {tg:Expr} (a it:Addr):Turn P w K tg (Itl K a) [it] it (fun i h=>h.IsListIter it a i) where
 mem:=by simp
 obj:=fun i h st b hb=>by
  have e:b=it:=by simpa using hb
  subst e;obtain ⟨o,e,c,d⟩:=st;exact ⟨o,e,fun v z=>by rw [d] at z; cases z⟩
 keep:=fun i h h' st k=>st.at fun o e=>k it (by simp) o e
 item:=by
  intro X hP hw hK hc i pins s σ H E I hf st hg;subst hP hw hK;obtain ⟨xs,x,hq,hx⟩:=hg;obtain ⟨its,rv,p,hz⟩:=I.list hq;obtain ⟨u,hu,ru⟩:=rv.get hx;obtain ⟨f0,f1,f2,f3,f4,f5⟩:=hf it (by simp);refine wpAny_pyNext_list_item st p.isList (x:=u) (by simpa using hu) fun h' st' sb=>?_
  have I1:Inv X pins σ H { s with heap:=h' }:=I.turned (t':=s.toks) (fun b o hb e=>(sb.2 b hb).trans e) f0 f1 f3 f4 f5;obtain ⟨o,e,c,d⟩:=id st';exact ⟨u,rfl,uE (s:={ s with heap:=h' }) e c d (by decide) ⟨x,H,I1,ru,⟨rfl,fun ys hy=>by rw [I.list_inj hy hq]; exact hx⟩,st',fun b hb=>(hf b hb).1⟩⟩
 done:=by
  intro X hP hw hK hc i pins s σ H E I hf st hg;subst hP hw hK;obtain ⟨xs,hq,hx⟩:=hg;obtain ⟨its,rv,p,hz⟩:=I.list hq;obtain ⟨f0,f1,f2,f3,f4,f5⟩:=hf it (by simp);have hl:=rv.length;exact wpAny_pyNext_list_end (I.ok.hd hc) st p.isList (by simp; omega) fun h' eb=>⟨rfl,I.turned (t':=s.toks) (fun b o hb e=>eb b o hb e) f0 f1 f3 f4 f5⟩
 self:=fun _ _ _ _ _ st h=>wpAny_pyIter_listiter st h
theorem um {P:Program} {w:World} {K:Frag} {tg:Expr} (a it:Addr):Turn P w K tg (Itt K a) [it] it (fun i h=>h.IsTupleIter it a i) where
 mem:=by simp
 obj:=fun i h st b hb=>by
  have e:b=it:=by simpa using hb
  subst e;obtain ⟨o,e,c,d⟩:=st;exact ⟨o,e,fun v z=>by rw [d] at z; cases z⟩
 keep:=fun i h h' st k=>st.at fun o e=>k it (by simp) o e
 item:=by
  intro X hP hw hK hc i pins s σ H E I hf st hg;subst hP hw hK;obtain ⟨xs,x,hq,hx⟩:=hg;obtain ⟨its,rv,p,hz⟩:=I.tuple hq;obtain ⟨u,hu,ru⟩:=rv.get hx;obtain ⟨f0,f1,f2,f3,f4,f5⟩:=hf it (by simp);refine wpAny_pyNext_tuple_item st (show s.heap.IsTuple a its.toArray from p) (x:=u) (by simpa using hu) fun h' st' sb=>?_
  have I1:Inv X pins σ H { s with heap:=h' }:=I.turned (t':=s.toks) (fun b o hb e=>(sb.2 b hb).trans e) f0 f1 f3 f4 f5;obtain ⟨o,e,c,d⟩:=id st';exact ⟨u,rfl,uE (s:={ s with heap:=h' }) e c d (by decide) ⟨x,H,I1,ru,⟨rfl,fun ys hy=>by rw [I.tuple_inj hy hq]; exact hx⟩,st',fun b hb=>(hf b hb).1⟩⟩
 done:=by
  intro X hP hw hK hc i pins s σ H E I hf st hg;subst hP hw hK;obtain ⟨xs,hq,hx⟩:=hg;obtain ⟨its,rv,p,hz⟩:=I.tuple hq;obtain ⟨f0,f1,f2,f3,f4,f5⟩:=hf it (by simp);have hl:=rv.length;exact wpAny_pyNext_tuple_end (I.ok.hd hc) st (show s.heap.IsTuple a its.toArray from p) (by simp; omega) fun h' eb=>⟨rfl,I.turned (t':=s.toks) (fun b o hb e=>eb b o hb e) f0 f1 f3 f4 f5⟩
 self:=fun _ _ _ _ _ st h=>wpAny_pyIter_tupleiter st h
theorem tS {P:Program} {w:World} {K:Frag} {tg:Expr} (it:Addr) (lo:Int) (n:Nat):Turn P w K tg (Itr lo n) [it] it (fun i h=>IsRangeIter h it (lo+(i:Nat)*1) ((n:Int) - (i:Nat)) 1) where
 mem:=by simp
 obj:=fun i h st b hb=>by
  have e:b=it:=by simpa using hb
  subst e;exact ⟨_,st,fun v z=>by
   have z':Data.fields _=Data.cell v:=z;cases z'⟩
 keep:=fun i h h' st k=>k it (by simp) _ st
 item:=by
  intro X hP hw hK hc i pins s σ H E I hf st hg;subst hP hw hK;obtain ⟨f0,f1,f2,f3,f4,f5⟩:=hf it (by simp);have W:=Walks.range (prog:=X.prog) (w:=X.w) (I.ok.hd hc) it lo 1 n;refine tokQ I.tk (W.item i s _ _ hg st fun v h' tk hv st' kk (htk:0 < tk)=>?_);obtain ⟨t,rfl⟩:=hv;have I1:Inv X pins σ H { s with heap:=h',toks:=tk }:=I.turned (fun b o hb e=>kk b o (by simpa using hb) e) f0 f1 f3 f4 f5;refine ⟨_,rfl,uE (s:={ s with heap:=h',toks:=tk }) (n := "range_iterator") st' rfl rfl (by decide) ⟨.int (lo+i),H,I1,⟨t,?_⟩,⟨rfl,rfl⟩,st',fun b hb=>(hf b hb).1⟩⟩;rw [Int.mul_one]
 done:=by
  intro X hP hw hK hc i pins s σ H E I hf st hg;subst hP hw hK;obtain ⟨f0,f1,f2,f3,f4,f5⟩:=hf it (by simp);exact wpAny_pyNext_range_end (I.ok.hd hc) st (by have:n<=i:=hg; omega) fun h' eb=>⟨rfl,I.turned (t':=s.toks) (fun b o hb e=>eb b o hb e) f0 f1 f3 f4 f5⟩
 self:=fun _ _ _ _ _ st h=>wpAny_pyIter_rangeiter st h
section
variable {X:Cx} {tg:Expr}
theorem wA {pins:List (Addr × Obj)} {σ:St} {H:Hp} {s:Shared} {R:It->Hp->Prop} {E:Value->Shared->Prop} {lo hi:Int} {t u v:Tok} {tk:Nat} (I:Inv X pins σ H s) (h1:-(2 ^ 62)<=lo) (h2:lo < 2 ^ 62) (h3:-(2 ^ 62)<=hi) (h4:hi < 2 ^ 62)
  (q:R (Itr lo (hi - lo).toNat) H) (htk:0 < tk:=by first | assumption | exact Nat.succ_pos _ | (apply Inv.tk; assumption) | omega):wpAny (model X.prog X.w) X.A (pyIter (.ref s.heap.objs.size)) (PIE X pins σ tg R) E { s with heap:=s.heap.push { cls:=.type "range",data:=.fields #[.int lo t,.int hi u,.int 1 v] },toks:=tk }:=by
 refine wpAny_pyIter_range (IsRange.new ..) (small_one h1 h2 h3 h4) ?_;have I1:Inv X pins σ H { s with heap:=s.heap.push { cls:=.type "range",data:=.fields #[.int lo t,.int hi u,.int 1 v] },toks:=tk }:=I.kept fun b o e=>Heap.get?_push_of_some _ e
 refine ⟨(s.heap.push { cls:=.type "range",data:=.fields #[.int lo t,.int hi u,.int 1 v] }).objs.size,[(s.heap.push { cls:=.type "range",data:=.fields #[.int lo t,.int hi u,.int 1 v] }).objs.size],_,_,H,rfl,
  I1.kept (t':=tk) fun b o e=>Heap.get?_push_of_some _ e,tS _ lo (hi - lo).toNat,?_,fun b hb=>?_,q⟩
 ·have e1:lo+((0:Nat):Int)*1=lo:=by simp
  have e2:(((hi - lo).toNat:Nat):Int) - ((0:Nat):Int)=Builtin.Range.rangeSize lo hi 1:=by rw [rangeSize_one]; split <;> omega
  show IsRangeIter _ _ (lo+((0:Nat):Int)*1) ((((hi - lo).toNat:Nat):Int) - ((0:Nat):Int)) 1;rw [e1,e2];exact Heap.get?_push_size _ rfl
 ·have e:b=(s.heap.push { cls:=.type "range",data:=.fields #[.int lo t,.int hi u,.int 1 v] }).objs.size:=by simpa using hb
  subst e;exact I1.fpOk (Nat.le_refl _) (I1.hok.fresh (Nat.le_refl _))
noncomputable def iRng1 (ta:TA):TI:=fun σ H R=>ta σ H fun vs H1=>∃ j:Int,vs=[.int j] /\ -(2 ^ 62)<=j/\j < 2 ^ 62/\R (Itr 0 j.toNat) H1
theorem wo {a:Expr} {ta:TA} {p pos:Pos} (hg:Gl X "range") (hm:X.mg "range" = none) (ha:PA X [a] ta) (hs:starEach [a] X.env=[(false,eval a X.env)]:=by rfl):PI X tg (.Call (.Name "range" p) [a] [] pos) (iRng1 ta):=by
 intro pins s σ H R I h;refine Call_ (dA I hg hm boot_range (PyProof.Rows.callWith_type1 (thn (ha pos pins s σ H _ I h) fun us s1 ⟨vs,H1,I1,r1,q1⟩=>?_) hs rfl));obtain ⟨j,e,q1,q2,q⟩:=q1;subst e;cases r1 with
 | cons r rr=>
  cases rr;obtain ⟨t,rfl⟩:=r;exact call_range_1 (wA I1 (by omega) (by omega) q1 q2 (by simpa using q))
noncomputable def tFor (wi:TI) (g:TG) (tb:TS):TS:=fun D σ H=>wi σ H fun J H1=>∃ W:Nat->Nat->St->Hp->Prop,(∃ m,W 0 m σ H1)/\∀ i m σ H,W i m σ H ->
 (J.stop i H/\D.nx σ H)\/(J.go i H/\∃ N:St->Hp->Prop,(∀ σ' H',N σ' H'->∃ m',m' < m/\W (i+1) m' σ' H')/\∀ x H',J.yld i H x H'->g x σ H' fun σ2 H2=>tb { D with nx:=N,ct:=N,bk:=D.nx } σ2 H2)
noncomputable def pinsAt (fp:List Addr) (h:Heap):List (Addr × Obj):=fp.filterMap fun b=>(h.get? b).map fun o=>(b,o)
theorem dz {fp:List Addr} {h:Heap} {b:Addr} {o:Obj} (hb:b ∈ fp) (e:h.get? b=some o):(b,o) ∈ pinsAt fp h:=List.mem_filterMap.mpr ⟨b,hb,by rw [e]; rfl⟩
theorem vR {fp:List Addr} {h:Heap} {p:Addr × Obj} (hp:p ∈ pinsAt fp h):p.1 ∈ fp/\h.get? p.1=some p.2:=by
 obtain ⟨b,hb,e⟩:=List.mem_filterMap.mp hp;cases q:h.get? b with
 | none=>rw [q] at e; cases e
 | some o=>
  rw [q] at e;have e':(b,o)=p:=Option.some.inj e;subst e';exact ⟨hb,q⟩
theorem Inv.pinned {pins:List (Addr × Obj)} {σ:St} {H:Hp} {s:Shared} {fp:List Addr} (I:Inv X pins σ H s) (hf:∀ b ∈ fp,FpOk X pins H b) (ho:∀ b ∈ fp,∃ o,s.heap.get? b=some o/\∀ v,o.data≠.cell v):Inv X (pins++pinsAt fp s.heap) σ H s:=
 I.pins_of fun p hp=>(List.mem_append.mp hp).elim (fun z=>I.pin p (List.mem_append_right _ z)) fun z=>by
  obtain ⟨hb,e⟩:=vR z;obtain ⟨f0,f1,f2,_⟩:=hf p.1 hb;obtain ⟨o,e',d⟩:=ho p.1 hb;rw [e] at e'; cases e';exact ⟨e,f0,f1,f2,d⟩
theorem Inv.unpinned {pins pl:List (Addr × Obj)} {σ:St} {H:Hp} {s:Shared} (I:Inv X (pins++pl) σ H s):Inv X pins σ H s:=I.pins_of fun p hp=>I.pin p (List.mem_append_right _ (List.mem_append_left _ hp))
theorem A3 {iter:Expr} {body:List Stmt} {wi:TI} {g:TG} {tb:TS} {pos:Pos} (hp:PassesOwn (model X.prog X.w) X.A X.env X.xe) (hc:X.calm=true) (hi:PI X tg iter wi) (hg:PG X tg g) (hb:PSs X body tb)
  (hs:∀ x,foldedSetIterable iter X.env x=pure x:=by intro _; rfl):PS X (.For tg iter body [] pos) (tFor wi g tb):=by
 intro pins s σ H D I h;refine wpAny_For (thn (hi pins s σ H _ I h) fun v s1 h1=>thn h1 fun itv s2 h2=>?_) hs;obtain ⟨it,fp,tn,J,H2,e,I2,T,st2,f2,W,⟨m0,w0⟩,turn⟩:=h2;subst e;have stat:∀ {H':Hp},(∀ b ∈ fp,H' b=none)->∀ b ∈ fp,FpOk X pins H' b:=fun hn b hb=>⟨hn b hb,(f2 b hb).2⟩
 refine codeAny_forLoop_any (fun n s'=>∃ i σ' H',Inv X pins σ' H' s'/\tn i s'.heap/\(∀ b ∈ fp,H' b=none)/\W i n σ' H') ?_ m0 ⟨0,σ,H2,I2,st2,fun b hb=>(f2 b hb).1,w0⟩;rintro n s3 ⟨i,σ3,H3,I3,st3,fr3,w3⟩;rcases turn i n σ3 H3 w3 with ⟨stop,qn⟩ | ⟨go,N,hN,step⟩
 ·refine wpAny_passesOwn hp (thn (T.done X rfl rfl rfl hc i pins s3 σ3 H3 X.xe I3 (stat fr3) st3 stop) fun r s4 ⟨hr,I4⟩=>?_);subst hr;exact wpAny_execs_nil ⟨σ3,H3,I4,qn⟩
 ·refine wpAny_passesOwn hp (thn (T.item X rfl rfl rfl hc i pins s3 σ3 H3 X.xe I3 (stat fr3) st3 go) fun r s4 ⟨u,hr,h4⟩=>?_);subst hr;refine wpAny_passesOwn hp (thn h4 fun _ s5 ⟨x,H5,I5,r5,y5,st5,fr5⟩=>?_);have I5':=I5.pinned (stat fr5) (T.obj _ _ st5);refine wpAny_passesOwn hp (thn (hg _ s5 σ3 H5 x u _ I5' r5 (step x H5 y5)) fun _ s6 ⟨σ6,H6,I6,q6⟩=>?_);refine wpAny_passesOwn hp (thn (hb _ s6 σ6 H6 _ I6 q6) fun f s7 q7=>?_);have again:∀ {σ7:St} {H7:Hp},Inv X (pins++pinsAt fp s5.heap) σ7 H7 s7->N σ7 H7->∃ m,m < n/\∃ i σ' H',Inv X pins σ' H' s7/\tn i s7.heap/\(∀ b ∈ fp,H' b=none)/\W i m σ' H':=fun {σ7 H7} I7 n7=>by
   obtain ⟨m',hm,w7⟩:=hN σ7 H7 n7;refine ⟨m',hm,i+1,σ7,H7,I7.unpinned,T.keep _ _ _ st5 fun b hb o e=>(I7.pin (b,o) (List.mem_append_right _ (List.mem_append_right _ (dz hb e)))).1,fun b hb=>?_,w7⟩;obtain ⟨o,e,d⟩:=T.obj _ _ st5 b hb;exact (I7.pin (b,o) (List.mem_append_right _ (List.mem_append_right _ (dz hb e)))).2.1
  cases f with
  | next=>obtain ⟨σ7,H7,I7,n7⟩:=q7; exact again I7 n7
  | cont=>obtain ⟨σ7,H7,I7,n7⟩:=q7; exact again I7 n7
  | brk=>obtain ⟨σ7,H7,I7,q7⟩:=q7; exact ⟨σ7,H7,I7.unpinned,q7⟩
  | ret v=>obtain ⟨x7,σ7,H7,I7,r7,q7⟩:=q7; exact ⟨x7,σ7,H7,I7.unpinned,r7,q7⟩
end
theorem xR {K:Frag} {a:Addr} {xs:List V} {g:TG} {tb:TS} {D:Ends} {σ:St} {H:Hp} (Pv:Nat->St->Hp->Prop) (h0:Pv 0 σ H) (hl:∀ i σ H,i<=xs.length->Pv i σ H->SqL K H a xs)
  (hs:∀ i x σ H,xs[i]? = some x->Pv i σ H->g x σ H fun σ2 H2=>tb { D with nx:=Pv (i+1),ct:=Pv (i+1),bk:=D.nx } σ2 H2) (hd:∀ σ H,Pv xs.length σ H->D.nx σ H):
  ∃ W:Nat->Nat->St->Hp->Prop,(∃ m,W 0 m σ H)/\∀ i m σ H,W i m σ H ->
   ((Itl K a).stop i H/\D.nx σ H)\/((Itl K a).go i H/\∃ N:St->Hp->Prop,(∀ σ' H',N σ' H'->∃ m',m' < m/\W (i+1) m' σ' H')/\∀ x H',(Itl K a).yld i H x H'->g x σ H' fun σ2 H2=>tb { D with nx:=N,ct:=N,bk:=D.nx } σ2 H2):=by
 refine ⟨fun i m σ H=>m=xs.length - i/\i<=xs.length/\Pv i σ H,⟨xs.length,by simp,Nat.zero_le _,h0⟩,?_⟩;rintro i m σ H ⟨rfl,hi,p⟩;have q:=hl i σ H hi p;by_cases hlt:i < xs.length
 ·refine .inr ⟨⟨xs,xs[i],q,by simp [hlt]⟩,Pv (i+1),fun σ' H' p'=>⟨xs.length - (i+1),by omega,rfl,hlt,p'⟩,fun x H' y=>?_⟩;obtain ⟨e,y⟩:=y;subst e;exact hs i x σ _ (y xs q) p
 ·have e:i=xs.length:=by omega
  subst e;exact .inl ⟨⟨xs,q,Nat.le_refl _⟩,hd σ H p⟩
theorem vh {lo:Int} {n:Nat} {g:TG} {tb:TS} {D:Ends} {σ:St} {H:Hp} (Pv:Nat->St->Hp->Prop) (h0:Pv 0 σ H)
  (hs:∀ i σ H,i < n->Pv i σ H->g (.int (lo+i)) σ H fun σ2 H2=>tb { D with nx:=Pv (i+1),ct:=Pv (i+1),bk:=D.nx } σ2 H2) (hd:∀ σ H,Pv n σ H->D.nx σ H):
  ∃ W:Nat->Nat->St->Hp->Prop,(∃ m,W 0 m σ H)/\∀ i m σ H,W i m σ H ->
   ((Itr lo n).stop i H/\D.nx σ H)\/((Itr lo n).go i H/\∃ N:St->Hp->Prop,(∀ σ' H',N σ' H'->∃ m',m' < m/\W (i+1) m' σ' H')/\∀ x H',(Itr lo n).yld i H x H'->g x σ H' fun σ2 H2=>tb { D with nx:=N,ct:=N,bk:=D.nx } σ2 H2):=by
 refine ⟨fun i m σ H=>m=n - i/\i<=n/\Pv i σ H,⟨n,by simp,Nat.zero_le _,h0⟩,?_⟩;rintro i m σ H ⟨rfl,hi,p⟩;by_cases hlt:i < n
 ·refine .inr ⟨hlt,Pv (i+1),fun σ' H' p'=>⟨n - (i+1),by omega,rfl,hlt,p'⟩,fun x H' y=>?_⟩;obtain ⟨e,y⟩:=y;subst e y;exact hs i σ _ hlt p
 ·have e:i=n:=by omega
  subst e;exact .inl ⟨Nat.le_refl _,hd σ H p⟩
noncomputable abbrev R2:=V->V->Hp->VK->Prop
def OpR (X:Cx) (f:Value->Value->Sem Value) (r:R2):Prop:=
 ∀ (pins:List (Addr × Obj)) (s:Shared) (σ:St) (H:Hp) (x y:V) (v u:Value) (Q:VK),Inv X pins σ H s->RelV x v->RelV y u->r x y H Q ->
  wpAny (model X.prog X.w) X.A (f v u) (EP X pins σ Q) X.xe s
def UnR (X:Cx) (f:Value->Sem Value) (r:V->Hp->VK->Prop):Prop:=
 ∀ (pins:List (Addr × Obj)) (s:Shared) (σ:St) (H:Hp) (x:V) (v:Value) (Q:VK),Inv X pins σ H s->RelV x v->r x H Q ->
  wpAny (model X.prog X.w) X.A (f v) (EP X pins σ Q) X.xe s
def CallR (X:Cx) (f:Value) (r:List V->Hp->VK->Prop):Prop:=
 ∀ (pins:List (Addr × Obj)) (s:Shared) (σ:St) (H:Hp) (xs:List V) (us:List Value) (Q:VK),Inv X pins σ H s->Vals xs us->r xs H Q ->
  wpAny (model X.prog X.w) X.A (call f us) (EP X pins σ Q) X.xe s
noncomputable def tOp (r:R2) (ta tb:TE):TE:=fun σ H Q=>ta σ H fun x H1=>tb σ H1 fun y H2=>r x y H2 Q
noncomputable def tUn (r:V->Hp->VK->Prop) (ta:TE):TE:=fun σ H Q=>ta σ H fun x H1=>r x H1 Q
noncomputable def rI (C:Int->Int->Prop) (g:Int->Int->V):R2:=fun x y H Q=>∃ i j,x=.int i/\y=.int j/\C i j/\Q (g i j) H
noncomputable def rI0 (g:Int->Int->V):R2:=fun x y H Q=>∃ i j,x=.int i/\y=.int j/\Q (g i j) H
noncomputable def rU (g:Int->V):V->Hp->VK->Prop:=fun x H Q=>∃ i,x=.int i/\Q (g i) H
section
variable {X:Cx} {a b c:Expr} {ta tb tc:TE} {pos:Pos}
theorem binT (ha:PE X a ta) (hb:PE X b tb) {pins:List (Addr × Obj)} {s:Shared} {σ:St} {H:Hp} {R:V->V->Hp->Prop} (I:Inv X pins σ H s)
  (h:ta σ H fun x H1=>tb σ H1 fun y H2=>R x y H2) {Q:Value->Shared->Prop} {f:Value->Value->Sem Value}
  (hf:∀ v u s2 x y H2,Inv X pins σ H2 s2->RelV x v->RelV y u->R x y H2->wpAny (model X.prog X.w) X.A (f v u) Q X.xe s2):
  wpAny (model X.prog X.w) X.A (eval a X.env) (fun v s₁=>wpAny (model X.prog X.w) X.A (eval b X.env) (fun u s₂=>wpAny (model X.prog X.w) X.A (f v u) Q X.xe s₂) X.xe s₁) X.xe s:=by
 refine thn (ha pins s σ H _ I h) fun v s1 ⟨x,H1,I1,r1,q1⟩=>?_
 refine thn (hb pins s1 σ H1 _ I1 q1) fun u s2 ⟨y,H2,I2,r2,q2⟩=>?_
 exact hf v u s2 x y H2 I2 r1 r2 q2
theorem ar {op:Operator} {r:R2} (ho:OpR X (binaryOp op) r) (ha:PE X a ta) (hb:PE X b tb):PE X (.BinOp a op b pos) (tOp r ta tb):=by
 intro pins s σ H Q I h;exact wpAny_BinOp (binT ha hb I h fun v u s2 x y H2 I2 rx ry q=>ho pins s2 σ H2 x y v u Q I2 rx ry q)
theorem BR {op:UnaryOp} {r:V->Hp->VK->Prop} (ho:UnR X (unaryOp op) r) (ha:PE X a ta):PE X (.UnaryOp op a pos) (tUn r ta):=by
 intro pins s σ H Q I h;exact UnaryOp_ (thn (ha pins s σ H _ I h) fun v s1 ⟨x,H1,I1,r1,q1⟩=>ho pins s1 σ H1 x v Q I1 r1 q1)
theorem opI {f:Value->Value->Sem Value} {C:Int->Int->Prop} {g:Int->Int->Int}
  (rule:∀ (i j:Int) (t u:Tok) (s:Shared) (Q:Value->Shared->Prop) (E:Value->Shared->Prop),C i j->Q (.int (g i j) s.toks) { s with toks:=s.toks+1 }->wpAny (model X.prog X.w) X.A (f (.int i t) (.int j u)) Q E s):
  OpR X f (rI C fun i j=>.int (g i j)):=by
 intro pins s σ H x y v u Q I rx ry h;obtain ⟨i,j,rfl,rfl,hc,q⟩:=h;obtain ⟨t,rfl⟩:=rx;obtain ⟨t',rfl⟩:=ry;exact rule i j t t' s _ _ hc ⟨.int (g i j),H,I.tok _,⟨_,rfl⟩,q⟩
theorem opI0 {f:Value->Value->Sem Value} {g:Int->Int->Int}
  (rule:∀ (i j:Int) (t u:Tok) (s:Shared) (Q:Value->Shared->Prop) (E:Value->Shared->Prop),Q (.int (g i j) s.toks) { s with toks:=s.toks+1 }->wpAny (model X.prog X.w) X.A (f (.int i t) (.int j u)) Q E s):
  OpR X f (rI0 fun i j=>.int (g i j)):=by
 intro pins s σ H x y v u Q I rx ry h;obtain ⟨i,j,rfl,rfl,q⟩:=h;obtain ⟨t,rfl⟩:=rx;obtain ⟨t',rfl⟩:=ry;exact rule i j t t' s _ _ ⟨.int (g i j),H,I.tok _,⟨_,rfl⟩,q⟩
theorem opB0 {f:Value->Value->Sem Value} {g:Int->Int->Bool}
  (rule:∀ (i j:Int) (t u:Tok) (s:Shared) (Q:Value->Shared->Prop) (E:Value->Shared->Prop),Q (.bool (g i j)) s->wpAny (model X.prog X.w) X.A (f (.int i t) (.int j u)) Q E s):
  OpR X f (rI0 fun i j=>.bl (g i j)):=by
 intro pins s σ H x y v u Q I rx ry h;obtain ⟨i,j,rfl,rfl,q⟩:=h;obtain ⟨t,rfl⟩:=rx;obtain ⟨t',rfl⟩:=ry;exact rule i j t t' s _ _ ⟨.bl (g i j),H,I,rfl,q⟩
def CDiv (i j:Int):Prop:=0 < j/\j < 1073741824
def CPow (i j:Int):Prop:=0<=j/\j<=1000000/\i.natAbs < 2 ^ 64
def CMul (i j:Int):Prop:=(-(2 ^ 64) < i/\i < 2 ^ 64)\/(-(2 ^ 64) < j/\j < 2 ^ 64)
theorem CMul.ok {i j:Int} (h:CMul i j):IntMulOk i j:=by
 rcases h with ⟨h1,h2⟩ | ⟨h1,h2⟩
 ·exact .of_left (intBits_le_64 h1 h2)
 ·exact .of_right (intBits_le_64 h1 h2)
theorem A1:OpR X (binaryOp .Add) (rI0 fun i j=>.int (i+j)):=opI0 fun _ _ _ _ _ _ _ q=>add_int q
theorem Ar:OpR X (binaryOp .Sub) (rI0 fun i j=>.int (i - j)):=opI0 fun _ _ _ _ _ _ _ q=>sub_int q
theorem Am:OpR X (binaryOp .Mult) (rI CMul fun i j=>.int (i*j)):=opI fun _ _ _ _ _ _ _ hc q=>mul_int q hc.ok
theorem zN:OpR X (binaryOp .FloorDiv) (rI CDiv fun i j=>.int (i / j)):=opI fun i j _ _ _ _ _ hc q=>by
 have h1:(0:Int) < j:=hc.1;have h2:j < 1073741824:=hc.2;exact floordiv_int (by omega) (by rw [Int.fdiv_eq_ediv_of_nonneg i (by omega)]; exact q) (.inl (PyProof.noPylong_small (by omega)))
theorem Ax:OpR X (binaryOp .Mod) (rI (fun _ j=>0 < j) fun i j=>.int (i % j)):=opI fun i j _ _ _ _ _ hc q=>by
 have h1:(0:Int) < j:=hc;exact mod_int' (by omega) (by rw [Int.fmod_eq_emod_of_nonneg i (by omega)]; exact q)
theorem unI {f:Value->Sem Value} {g:Int->Int}
  (rule:∀ (i:Int) (t:Tok) (s:Shared) (Q:Value->Shared->Prop) (E:Value->Shared->Prop),Q (.int (g i) s.toks) { s with toks:=s.toks+1 }->wpAny (model X.prog X.w) X.A (f (.int i t)) Q E s):
  UnR X f (rU fun i=>.int (g i)):=by
 intro pins s σ H x v Q I rx h;obtain ⟨i,rfl,q⟩:=h;obtain ⟨t,rfl⟩:=rx;exact rule i t s _ _ ⟨.int (g i),H,I.tok _,⟨_,rfl⟩,q⟩
theorem AR:UnR X (unaryOp .USub) (rU fun i=>.int (-i)):=unI fun _ _ _ _ _ q=>neg_int q
end
noncomputable def scal:V->V->Bool
 | .non,.non=>true | .non,.int _=>true | .int _,.non=>true | .non,.bl _=>true | .bl _,.non=>true | .non,.str _=>true | .str _,.non=>true
 | .int _,.int _=>true | .bl _,.bl _=>true | .str _,.str _=>true | .byt _,.byt _=>true
 | .int _,.str _=>true | .str _,.int _=>true | .bl _,.str _=>true | .str _,.bl _=>true
 | _,_=>false
noncomputable def rEq:R2:=fun x y H Q=>scal x y=true/\Q (.bl (decide (x=y))) H
noncomputable def rNe:R2:=fun x y H Q=>scal x y=true/\Q (.bl (!decide (x=y))) H
theorem uQ {i j:Int}:decide (V.int i=V.int j)=(i == j):=by
 rw [Bool.eq_iff_iff];simp
theorem xk {i j:Bool}:decide (V.bl i=V.bl j)=(i == j):=by
 rw [Bool.eq_iff_iff];simp
theorem uJ {i j:Str}:decide (V.str i=V.str j)=(i == j):=by
 rw [Bool.eq_iff_iff];simp
theorem uX {i j:Array UInt8}:decide (V.byt i=V.byt j)=(i.toList == j.toList):=by
 rw [Bool.eq_iff_iff];cases i;cases j;simp
section
variable {X:Cx} {a b c:Expr} {ta tb tc:TE} {pos:Pos}
theorem aL {pins:List (Addr × Obj)} {σ:St} {H:Hp} {s:Shared} {Q:VK} {k k':Bool} (I:Inv X pins σ H s) (q:Q (.bl k) H) (e:k=k'):EP X pins σ Q (.bool k') s:=by
 subst e;exact ⟨.bl k,H,I,rfl,q⟩
theorem BF:OpR X (compareOp .Eq) rEq:=by
 intro pins s σ H x y v u Q I rx ry h;obtain ⟨hs,q⟩:=h;cases x with
 | non=>
  cases rx;cases y with
  | non=>cases ry; exact PySem.EqNone.eq_none_none (aL I q (by simp))
  | bl j=>cases ry; exact PySem.EqNone.eq_none_bool (aL I q (by simp))
  | int j=>obtain ⟨t',rfl⟩:=ry; exact PySem.EqNone.eq_none_int (aL I q (by simp))
  | str j=>obtain ⟨t',rfl⟩:=ry; exact PySem.EqNone.eq_none_str (aL I q (by simp))
  | _=>exact absurd (show false=true from hs) Bool.false_ne_true
 | bl i=>
  cases rx;cases y with
  | non=>cases ry; exact PySem.EqNone.eq_bool_none (aL I q (by simp))
  | bl j=>cases ry; exact eq_bool (aL I q xk)
  | str j=>obtain ⟨t',rfl⟩:=ry; exact PySem.EqMixed.eq_bool_str (aL I q (by simp))
  | _=>exact absurd (show false=true from hs) Bool.false_ne_true
 | int i=>
  obtain ⟨t,rfl⟩:=rx;cases y with
  | non=>cases ry; exact PySem.EqNone.eq_int_none (aL I q (by simp))
  | int j=>obtain ⟨t',rfl⟩:=ry; exact eq_int (aL I q uQ)
  | str j=>obtain ⟨t',rfl⟩:=ry; exact PySem.EqMixed.eq_int_str (aL I q (by simp))
  | _=>exact absurd (show false=true from hs) Bool.false_ne_true
 | str i=>
  obtain ⟨t,rfl⟩:=rx;cases y with
  | non=>cases ry; exact PySem.EqNone.eq_str_none (aL I q (by simp))
  | bl j=>cases ry; exact PySem.EqMixed.eq_str_bool (aL I q (by simp))
  | int j=>obtain ⟨t',rfl⟩:=ry; exact PySem.EqMixed.eq_str_int (aL I q (by simp))
  | str j=>obtain ⟨t',rfl⟩:=ry; exact eq_str (aL I q uJ)
  | _=>exact absurd (show false=true from hs) Bool.false_ne_true
 | byt i=>
  obtain ⟨t,rfl⟩:=rx;cases y with
  | byt j=>obtain ⟨t',rfl⟩:=ry; exact PySem.W.eq_bytes (aL I q uX)
  | _=>exact absurd (show false=true from hs) Bool.false_ne_true
 | _=>cases y <;> exact absurd (show false=true from hs) Bool.false_ne_true
theorem BU:OpR X (compareOp .NotEq) rNe:=by
 intro pins s σ H x y v u Q I rx ry h;obtain ⟨hs,q⟩:=h;cases x with
 | non=>
  cases rx;cases y with
  | non=>cases ry; exact PySem.EqNone.ne_none_none (aL I q (by simp))
  | bl j=>cases ry; exact PySem.EqNone.ne_none_bool (aL I q (by simp))
  | int j=>obtain ⟨t',rfl⟩:=ry; exact PySem.EqNone.ne_none_int (aL I q (by simp))
  | str j=>obtain ⟨t',rfl⟩:=ry; exact PySem.EqNone.ne_none_str (aL I q (by simp))
  | _=>exact absurd (show false=true from hs) Bool.false_ne_true
 | bl i=>
  cases rx;cases y with
  | non=>cases ry; exact PySem.EqNone.ne_bool_none (aL I q (by simp))
  | bl j=>cases ry; exact ne_bool (aL I q (congrArg not xk))
  | str j=>obtain ⟨t',rfl⟩:=ry; exact PySem.EqMixed.ne_bool_str (aL I q (by simp))
  | _=>exact absurd (show false=true from hs) Bool.false_ne_true
 | int i=>
  obtain ⟨t,rfl⟩:=rx;cases y with
  | non=>cases ry; exact PySem.EqNone.ne_int_none (aL I q (by simp))
  | int j=>obtain ⟨t',rfl⟩:=ry; exact ne_int (aL I q (congrArg not uQ))
  | str j=>obtain ⟨t',rfl⟩:=ry; exact PySem.EqMixed.ne_int_str (aL I q (by simp))
  | _=>exact absurd (show false=true from hs) Bool.false_ne_true
 | str i=>
  obtain ⟨t,rfl⟩:=rx;cases y with
  | non=>cases ry; exact PySem.EqNone.ne_str_none (aL I q (by simp))
  | bl j=>cases ry; exact PySem.EqMixed.ne_str_bool (aL I q (by simp))
  | int j=>obtain ⟨t',rfl⟩:=ry; exact PySem.EqMixed.ne_str_int (aL I q (by simp))
  | str j=>obtain ⟨t',rfl⟩:=ry; exact ne_str (aL I q (congrArg not uJ))
  | _=>exact absurd (show false=true from hs) Bool.false_ne_true
 | byt i=>
  obtain ⟨t,rfl⟩:=rx;cases y with
  | byt j=>obtain ⟨t',rfl⟩:=ry; exact PySem.W.ne_bytes (aL I q (congrArg not uX))
  | _=>exact absurd (show false=true from hs) Bool.false_ne_true
 | _=>cases y <;> exact absurd (show false=true from hs) Bool.false_ne_true
theorem BA:OpR X (compareOp .LtE) (rI0 fun i j=>.bl (decide (i<=j))):=opB0 fun _ _ _ _ _ _ _ q=>le_int q
theorem BG:OpR X (compareOp .Gt) (rI0 fun i j=>.bl (decide (j < i))):=opB0 fun _ _ _ _ _ _ _ q=>gt_int q
theorem Ah:OpR X (compareOp .Is) (fun x y H Q=>y=.non/\Q (.bl (decide (x=.non))) H):=by
 intro pins s σ H x y v u Q I rx ry h;obtain ⟨rfl,q⟩:=h;cases ry;refine is_none_gen (aL I q ?_);cases x <;> first
  | (cases rx; rfl)
  | (obtain ⟨t,rfl⟩:=rx; rfl)
theorem yV:OpR X (compareOp .IsNot) (fun x y H Q=>y=.non/\Q (.bl (!decide (x=.non))) H):=by
 intro pins s σ H x y v u Q I rx ry h;obtain ⟨rfl,q⟩:=h;cases ry;refine isnot_none_gen (aL I q ?_);cases x <;> first
  | (cases rx; rfl)
  | (obtain ⟨t,rfl⟩:=rx; rfl)
theorem qF:OpR X (compareOp .NotIn) (fun x y H Q=>∃ i j,x=.str i/\y=.str j/\Q (.bl (!(!(Builtin.Str.occurrences j i 0 j.length 1).isEmpty))) H):=by
 intro pins s σ H x y v u Q I rx ry h;obtain ⟨i,j,rfl,rfl,q⟩:=h;obtain ⟨t,rfl⟩:=rx;obtain ⟨t',rfl⟩:=ry;exact notIn_str (aL I q rfl)
theorem nomark (b:Expr) {op:CmpOp} (h:op≠.In:=by decide) (h2:op≠.NotIn:=by decide):behindInMarks op b=false:=by
 have e1:(op == CmpOp.In)=false:=by cases op <;> first | rfl | exact absurd rfl h
 have e2:(op == CmpOp.NotIn)=false:=by cases op <;> first | rfl | exact absurd rfl h2
 cases b <;> simp [behindInMarks,e1,e2]
theorem zz {op:CmpOp} {r:R2} (ho:OpR X (compareOp op) r) (ha:PE X a ta) (hb:PE X b tb) (hm:behindInMarks op b=false):PE X (.Compare a [op] [b] pos) (tOp r ta tb):=by
 intro pins s σ H Q I h;exact wpAny_Compare1 (binT ha hb I h fun v u s2 x y H2 I2 rx ry q=>ho pins s2 σ H2 x y v u Q I2 rx ry q) hm
noncomputable def tTest (t:TE):TT:=fun σ H Q=>t σ H fun x H'=>∃ k,x=.bl k/\Q k H'
theorem yU {op:CmpOp} {r:R2} (ho:OpR X (compareOp op) r) (ha:PE X a ta) (hb:PE X b tb) (hm:behindInMarks op b=false):PT X (.Compare a [op] [b] pos) (tTest (tOp r ta tb)):=by
 intro pins s σ H Q I h;refine wpAny_isTrue_Compare1 (thn (ha pins s σ H _ I h) fun v s1 ⟨x,H1,I1,r1,q1⟩=>thn (hb pins s1 σ H1 _ I1 q1) fun u s2 ⟨y,H2,I2,r2,q2⟩=>
  thn (ho pins s2 σ H2 x y v u _ I2 r1 r2 q2) fun c s3 ⟨z,H3,I3,r3,k,e,q3⟩=>?_) hm
 subst e;cases r3;exact wpAny_truthy_bool ⟨H3,I3,q3⟩
theorem line63:(sizeLine:Nat) < 2 ^ 63:=by rw [sizeLine_eq]; decide
theorem tM:OpR X (binaryOp .Add) (fun x y H Q=>∃ i j,x=.str i/\y=.str j/\i.length+j.length<=sizeLine/\Q (.str (i++j)) H):=by
 intro pins s σ H x y v u Q I rx ry h;obtain ⟨i,j,rfl,rfl,hz,q⟩:=h;obtain ⟨t,rfl⟩:=rx;obtain ⟨t',rfl⟩:=ry;exact tokQ I.tk (add_str (fun t' tk (htk:0 < tk)=>⟨.str (i++j),H,I.tok _,⟨_,rfl⟩,q⟩) hz)
theorem vals1 {x:V} {us:List Value} (r:Vals [x] us):∃ u,us=[u]/\RelV x u:=by
 cases r with
 | cons r1 r2=>cases r2; exact ⟨_,rfl,r1⟩
theorem vals2 {x y:V} {us:List Value} (r:Vals [x,y] us):∃ u w',us=[u,w']/\RelV x u/\RelV y w':=by
 cases r with
 | cons r1 r2=>
  cases r2 with
  | cons r3 r4=>cases r4; exact ⟨_,_,rfl,r1,r3⟩
theorem vV (hc:X.calm=true):CallR X (.builtin "max") (fun xs H Q=>∃ i j,xs=[.int i,.int j]/\Q (.int (if j > i then j else i)) H):=by
 intro pins s σ H xs us Q I r h;obtain ⟨i,j,rfl,q⟩:=h;obtain ⟨u,w',rfl,⟨t,rfl⟩,⟨t',rfl⟩⟩:=vals2 r;refine tokQ I.tk (max_two_ints (I.ok.hd hc) fun h' tk k (htk:0 < tk)=>⟨_,H,I.kept k,?_,q⟩);by_cases hj:j > i
 ·rw [if_pos hj,if_pos hj]; exact ⟨_,rfl⟩
 ·rw [if_neg hj,if_neg hj]; exact ⟨_,rfl⟩
theorem vd (hc:X.calm=true):CallR X (.builtin "min") (fun xs H Q=>∃ i j,xs=[.int i,.int j]/\Q (.int (if j < i then j else i)) H):=by
 intro pins s σ H xs us Q I r h;obtain ⟨i,j,rfl,q⟩:=h;obtain ⟨u,w',rfl,⟨t,rfl⟩,⟨t',rfl⟩⟩:=vals2 r;refine tokQ I.tk (min_two_ints (I.ok.hd hc) fun h' tk k (htk:0 < tk)=>⟨_,H,I.kept k,?_,q⟩);by_cases hj:j < i
 ·rw [if_pos hj,if_pos hj]; exact ⟨_,rfl⟩
 ·rw [if_neg hj,if_neg hj]; exact ⟨_,rfl⟩
end
structure ObjM (h:Heap) (x dx C:Addr) (mA:Str->Option Value):Prop where
 obj:h.get? x=some (PySem.W.instObj C dx)
 ns:h.Ns1 dx mA
 ne:dx≠x
theorem wb {h:Heap} {dx:Addr} {mA:Str->Option Value} (n:h.Ns1 dx mA):∃ od,h.get? dx=some od/\∀ name,PySem.W.lookIn name od=some (mA name):=by
 obtain ⟨o,es,ep,ho,hd,hk,_,hm⟩:=n;refine ⟨o,ho,fun name=>?_⟩;have e:=hm name;unfold nsFind findBy at e;rw [<- Array.find?_toList] at e;unfold PySem.W.lookIn;rw [hd];dsimp only;split
 ·rename_i y q;rw [q] at e;exact congrArg some e
 ·rename_i q;rw [q] at e;have a:es.toList.any (·.refKey)=false:=by
   rw [List.any_eq_false];intro y hy;obtain ⟨z,t,hkey⟩:=hk y (Array.mem_toList_iff.mp hy);simp [DictEntry.refKey,hkey]
  have a':¬ es.toList.any (·.refKey)=true:=by rw [a]; exact Bool.false_ne_true
  rw [if_neg a'];exact congrArg some e
theorem ObjM.look {h:Heap} {x dx C:Addr} {mA:Str->Option Value} (I:ObjM h x dx C mA):∃ od,PySem.W.InstAt h x (PySem.W.instObj C dx) C (some od)/\∀ name,PySem.W.lookIn name od=some (mA name):=
 let ⟨od,ho,hl⟩:=wb I.ns
 ⟨od,⟨I.obj,rfl,rfl,ho⟩,hl⟩
section
variable {prog:Program} {w:World} {A:Around} {E:Value->Shared->Prop} {s:Shared} {K:Frag} {x dx C f:Addr} {mA:Str->Option Value} {name:Str} {v:Value}
end
theorem RelO.some_of {v:V} {o:Option Value} (r:RelO (some v) o):∃ u,o=some u/\RelV v u:=by
 cases o with
 | none=>exact (show False from r).elim
 | some u=>exact ⟨u,rfl,r⟩
section
variable {P:Program} {w:World} {H H':Hp} {h h':Heap} {a C dx:Addr} {fs fs':List (Str × V)}
theorem zb (hok:HOk P w H h) (e:H a=some (.ins C dx fs)):∃ mA,ObjM h a dx C mA/\(∀ f,RelO (fs.lookup f) (mA f))/\PySem.Within mA (fs.map (·.1))/\fs.length<=1000/\H dx=some (.own a):=by
 obtain ⟨d,z,ne,ob,mA,n,r,q⟩:=(show ObjOk P w H h a (.ins C dx fs) from hok a _ e);exact ⟨mA,⟨ob,n,ne⟩,r,q,z,d⟩
end
structure Cls (K:Frag) (C:Addr):Prop where
 pg:PySem.W.plainGet K C Str.empty=true
 hd:PySem.W.hasDictIn K C=true
 po:PySem.W.plainOver K C=true
 sa:findIn K (.ref C) "__setattr__" = some (some (.builtin "object.__setattr__"))
theorem Cls.get {K:Frag} {C:Addr} (c:Cls K C) (f:Str):PySem.W.plainGet K C f=true:=c.pg
section
variable {X:Cx} {pins:List (Addr × Obj)} {σ:St} {H:Hp} {s:Shared} {a C dx:Addr} {fs:List (Str × V)} {f:Str} {v:V} {A:Around} {E:Value->Shared->Prop}
end
section
variable {X:Cx} {o e value:Expr} {f:Str} {pos pos' tpos:Pos} {ta tv:TE}
end
section
variable {X:Cx} {pins:List (Addr × Obj)} {σ:St} {H:Hp} {s:Shared} {A:Around} {E:Value->Shared->Prop} {Q:Value->Shared->Prop} {c:Value} {b:Bool}
inductive TyOf (K:Frag) (H:Hp):V->Value->Prop where
 | non:TyOf K H .non (.type "NoneType")
 | bl (x:Bool):TyOf K H (.bl x) (.type "bool")
 | int (i:Int):TyOf K H (.int i) (.type "int")
 | str (x:Str):TyOf K H (.str x) (.type "str")
 | flt (x:UInt64):TyOf K H (.flt x) (.type "float")
 | lst {a:Addr} {xs:List V} (e:H a=some (.lst xs)):TyOf K H (.ref a) (.type "list")
 | frz {a:Addr} {o:Obj} {xs:List V} (e:H a=some (.frz o (.lst xs))):TyOf K H (.ref a) (.type "list")
 | tup {a:Addr} {xs:List V} (e:H a=some (.tup xs)):TyOf K H (.ref a) (.type "tuple")
 | dK {a:Addr} {kvs:List (Key × V)} (e:H a=some (.dK kvs)):TyOf K H (.ref a) (.type "dict")
 | dT {a:Addr} {kvs:List (List Key × V)} (e:H a=some (.dT kvs)):TyOf K H (.ref a) (.type "dict")
 | ins {a C dx:Addr} {fs:List (Str × V)} (e:H a=some (.ins C dx fs)) (cl:Cls K C) (ha:findIn K (.ref C) "__class__" = some (some (.builtin "object.__class__")))
   (hn:PySem.W.specialIn K (.builtin "object.__class__") "__get__" = some (some (.builtin "getset_descriptor.__get__"))) (htk:PySem.W.takesIn K (.builtin "object.__class__")=some true)
   (hm:PySem.W.mroIn K C (.type "object")=some true):TyOf K H (.ref a) (.ref C)
theorem vM {x:V} {u t:Value} (I:Inv X pins σ H s) (rx:RelV x u) (ty:TyOf X.K H x t) (e:PySem.W.kitOne X.K t c=some b) (h:∀ tk,Q (.bool b) { s with toks:=tk }):
  wpAny (model X.prog X.w) A (call (.builtin "isinstance") [u,c]) Q E s:=by
 cases ty with
 | non=>cases (show u=Value.none from rx); exact PySem.W.kia_one PySem.W.kitx_none I.kIn True.intro e (fun z=>nomatch z) h
 | bl y=>cases (show u=Value.bool y from rx); exact PySem.W.kia_one PySem.W.kitx_bool I.kIn True.intro e (fun z=>nomatch z) h
 | int i=>obtain ⟨t,q⟩:=(show ∃ t,u=Value.int i t from rx); cases q; exact PySem.W.kia_one PySem.W.kitx_int I.kIn True.intro e (fun z=>nomatch z) h
 | str y=>obtain ⟨t,q⟩:=(show ∃ t,u=Value.str y t from rx); cases q; exact PySem.W.kia_one PySem.W.kitx_str I.kIn True.intro e (fun z=>nomatch z) h
 | flt y=>obtain ⟨t,q⟩:=(show ∃ t,u=Value.float y t from rx); cases q; exact PySem.W.kia_one PySem.W.kitx_float I.kIn True.intro e (fun z=>nomatch z) h
 | @lst a xs ea=>
  cases (show u=Value.ref a from rx);obtain ⟨_,_,n,_,h1⟩:=(show ObjOk X.prog X.w H s.heap a (.lst xs) from I.hok a _ ea);exact PySem.W.kia_one PySem.W.kitx_list I.kIn ⟨_,h1,rfl⟩ e (fun z=>nomatch z) h
 | @frz a ob xs ea=>
  cases (show u=Value.ref a from rx);obtain ⟨_,_,_,n,_,h1⟩:=(show ObjOk X.prog X.w H s.heap a (.frz ob (.lst xs)) from I.hok a _ ea);exact PySem.W.kia_one PySem.W.kitx_list I.kIn ⟨_,h1,rfl⟩ e (fun z=>nomatch z) h
 | @tup a xs ea=>
  cases (show u=Value.ref a from rx);obtain ⟨_,_,_,p⟩:=(show ObjOk X.prog X.w H s.heap a (.tup xs) from I.hok a _ ea);obtain ⟨o,h1,h2,_⟩:=p;exact PySem.W.kia_one PySem.W.kitx_tuple I.kIn ⟨o,h1,h2⟩ e (fun z=>nomatch z) h
 | @dK a kvs ea=>
  cases (show u=Value.ref a from rx);obtain ⟨_,_,vs,_,p⟩:=(show ObjOk X.prog X.w H s.heap a (.dK kvs) from I.hok a _ ea);obtain ⟨o,es,ep,h1,h2,_⟩:=p;exact PySem.W.kia_one PySem.W.kitx_dict I.kIn ⟨o,h1,h2.1⟩ e (fun z=>nomatch z) h
 | @dT a kvs ea=>
  cases (show u=Value.ref a from rx);obtain ⟨_,_,xs,_,o,es,ep,h1,h2,_⟩:=(show ObjOk X.prog X.w H s.heap a (.dT kvs) from I.hok a _ ea);exact PySem.W.kia_one PySem.W.kitx_dict I.kIn ⟨o,h1,h2.1⟩ e (fun z=>nomatch z) h
 | @ins a C dx fs ea cl ha hn htk hm=>
  cases (show u=Value.ref a from rx);obtain ⟨mA,O,_⟩:=zb I.hok ea;obtain ⟨od,J,_⟩:=O.look;exact PySem.W.kia_one (PySem.W.kitx_own (cl.get _) cl.hd ha hn htk hm) I.kIn J e (fun z=>nomatch z) h
end
structure Room (k:Nat) (A:Around):Prop where
 hd:A.handled=none
 dp:A.depth+3*k+5 < recursionLimit
 un:A.units+16*k+200 < cLine
 gd:A.guards=some []
theorem Room.mono {j k:Nat} {A:Around} (r:Room k A) (h:j<=k):Room j A:=⟨r.hd,by have:=r.dp; omega,by have:=r.un; omega,r.gd⟩
theorem Room.deeper {k:Nat} {A:Around} (r:Room (k+1) A) (env:Env):Room k (A.deeper env):=
 ⟨r.hd,by have:=r.dp; show A.depth+1+3*k+5 < _; omega,by have:=r.un; show A.units+3+16*k+200 < _; omega,r.gd⟩
theorem Room.depth {k:Nat} {A:Around} (r:Room k A):A.depth < recursionLimit:=by have:=r.dp; omega
theorem Room.units {k:Nat} {A:Around} (r:Room k A):A.units+64 < cLine:=by have:=r.un; omega
theorem Room.units0 {k:Nat} {A:Around} (r:Room k A):A.units < cLine:=by have:=r.un; omega
noncomputable def tNil:TA:=fun _ H Q=>Q [] H
noncomputable def tCons (ta:TE) (tr:TA):TA:=fun σ H Q=>ta σ H fun x H1=>tr σ H1 fun xs H2=>Q (x::xs) H2
section
variable {X:Cx} {e:Expr} {es:List Expr} {te:TE} {t:TA} {pos:Pos}
theorem ad:PA X [] tNil:=fun _ _ _ _ H Q I h=>Calls.spliced_nil ⟨[],H,I,.nil,h⟩
theorem aa (ha:PE X e te) (hr:PA X es t) (hs:starEach (e::es) X.env=(false,eval e X.env)::starEach es X.env:=by rfl):PA X (e::es) (tCons te t):=by
 intro pos pins s σ H Q I h;rw [hs];show wpAny _ _ (spliced ((false,eval e X.env)::backTo pos (starEach es X.env))) _ _ s;refine Calls.spliced_cons (thn (ha pins s σ H _ I h) fun u s1 ⟨x,H1,I1,r1,q1⟩=>?_);exact thn (hr pos pins s1 σ H1 _ I1 q1) fun us s2 ⟨xs,H2,I2,r2,q2⟩=>⟨x::xs,H2,I2,.cons r1 r2,q2⟩
noncomputable def tTup (t:TA):TE:=fun σ H Q=>t σ H fun xs H1=>xs.length<=sizeLine/\∀ p,H1 p=none->Q (.ref p) (upd H1 p (.tup xs))
noncomputable def tLst (t:TA):TE:=fun σ H Q=>t σ H fun xs H1=>xs.length<=sizeLine/\∀ p,H1 p=none->Q (.ref p) (upd H1 p (.lst xs))
theorem aD {x1} (h:PA X es t):PE X (.Tuple es x1 pos) (tTup t):=by
 intro pins s σ H Q I hq;refine wpAny_Tuple_spliced (thn (h pos pins s σ H _ I hq) fun us s1 ⟨xs,H1,I1,r,z,q⟩=>⟨by rw [<- r.length]; exact z,?_⟩);have hf:H1 s1.heap.objs.size=none:=I1.hok.fresh (Nat.le_refl _);refine ⟨.ref s1.heap.objs.size,upd H1 s1.heap.objs.size (.tup xs),I1.laid (t':=s1.toks) (fun b u e=>Heap.get?_push_of_some _ e) (Nat.le_refl _) ?_,rfl,q _ hf⟩;exact ⟨z,us,r,⟨_,Heap.get?_push_size _ rfl,rfl,_,rfl⟩⟩
theorem aS (h:PA X es t):PE X (.List es pos) (tLst t):=by
 intro pins s σ H Q I hq;refine wpAny_List_spliced (thn (h pos pins s σ H _ I hq) fun us s1 ⟨xs,H1,I1,r,z,q⟩=>⟨by rw [<- r.length]; exact z,?_⟩);have hf:H1 s1.heap.objs.size=none:=I1.hok.fresh (Nat.le_refl _);refine ⟨.ref s1.heap.objs.size,upd H1 s1.heap.objs.size (.lst xs),I1.laid (t':=s1.toks) (fun b u e=>Heap.get?_push_of_some _ e) (Nat.le_refl _) ?_,rfl,q _ hf⟩;exact ⟨z,us,0,r,Heap.get?_push_size _ rfl⟩
end
noncomputable abbrev Sp:=List V->Hp->VK->XK->Prop
noncomputable abbrev CXT:=List Env->Hp->Shared->XK->Value->Shared->Prop
structure Env0 (P:Program) (w:World) (K:Frag) (mg:Str->Option Value) (base:Heap) (A:Around) (outer:List Env) (s:Shared) (H:Hp):Prop where
 frames:A.frames=some outer
 mod:Mod K mg base
 bs:∀ b o,base.get? b=some o->s.heap.get? b=some o/\H b=none
 bsz:base.objs.size<=s.heap.objs.size
 funs:s.heap.FunFrames base outer
 frf:∀ b ∈ frs outer,H b=none
 hok:HOk P w H s.heap
 bare:AllBare s.gens
 tk:0 < s.toks
def CE (outer:List Env) (P:Program) (w:World) (H:Hp) (s:Shared) (Q:VK) (u:Value) (s':Shared):Prop:=
 ∃ v H',0 < s'.toks/\s'.os=s.os/\AllBare s'.gens/\Un (frs outer) [] H H' s.heap s'.heap/\HOk P w H' s'.heap/\RelV v u/\Q v H'
def CR (CX:CXT) (outer:List Env) (P:Program) (w:World) (H:Hp) (s:Shared) (Q:VK) (E:XK) (r:Result) (s':Shared):Prop:=
 match r with
 | .ok (.ret u)=>CE outer P w H s Q u s'
 | .ok _=>False
 | .error e=>CX outer H s E e s'
structure FnOk (P:Program) (w:World) (K:Frag) (mg:Str->Option Value) (base:Heap) (CX:CXT) (k:Nat) (f:Addr) (fd:FuncData) (ps:List Str) (sp:Sp):Prop where
 len:∀ vs H Q E,sp vs H Q E->vs.length=ps.length
 run:∀ (A:Around) (outer:List Env) (s:Shared) (H:Hp) (args:Args) (us:List Value) (vs:List V) (Q:VK) (E:XK),Room k A->Env0 P w K mg base A outer s H->BindsTo s fd args (ps.zip us)->Vals vs us->sp vs H Q E ->
  codeAny (model P w) A (.call (.ref f) args) (CR CX outer P w H s Q E) s
section
variable {X:Cx} {pins:List (Addr × Obj)} {σ:St} {H:Hp} {s s':Shared}
theorem Inv.env0 (I:Inv X pins σ H s):Env0 X.prog X.w X.K X.mg X.base X.A X.stack s H:=
 ⟨I.ok.frames,I.ok.mod,I.bs,Nat.le_trans I.ok.bsz I.sz,I.stack,I.stkFree,I.hok,I.bare,I.tk⟩
theorem Inv.after {Q:VK} {u:Value} (I:Inv X pins σ H s) (h:CE X.stack X.prog X.w H s Q u s'):EP X pins σ Q u s':=by
 obtain ⟨v,H',ht,os,bare,un,hok,r,q⟩:=h;obtain ⟨hh,g,d,t,os'⟩:=s';obtain rfl:os'=s.os:=os;exact ⟨v,H',I.call (h':=hh) (g':=g) (d':=d) (t':=t) (ch:=[]) un hok bare (fun b z=>absurd z (by simp)) ht,r,q⟩
end
noncomputable def tCall (sp:Sp) (dvs:List V) (E:XK) (t:TA):TE:=fun σ H Q=>t σ H fun vs H1=>sp (vs++dvs) H1 Q E
def Binds (K:Frag) (fd:FuncData) (ps:List Str) (ds:List Value):Prop:=
 ∀ (s:Shared) (us:List Value),K.In s.heap->(us++ds).length=ps.length->BindsTo s fd ⟨us,[]⟩ (ps.zip (us++ds))
theorem Binds.all {K:Frag} {fd:FuncData} {ps:List Str} (h:∀ us:List Value,us.length=ps.length->bindArgs fd ⟨us,[]⟩=pure (ps.zip us)):Binds K fd ps []:=fun s us _ hl=>by
 rw [List.append_nil] at hl ⊢;exact .of_eq (h us hl)
def Passes (CX:CXT) (X:Cx) (E:XK):Prop:=∀ (pins:List (Addr × Obj)) (σ:St) (H:Hp) (s:Shared) (e:Value) (s':Shared),Inv X pins σ H s->CX X.stack H s E e s'->X.xe e s'
section
variable {X:Cx} {CX:CXT} {k:Nat} {f C:Addr} {fd:FuncData} {ps:List Str} {sp:Sp} {dvs:List V} {ds:List Value} {E:XK} {x m:Str} {p pos apos:Pos} {e o:Expr} {es:List Expr} {ta:TE} {t:TA}
theorem Bz {pins:List (Addr × Obj)} {σ:St} {H:Hp} {s:Shared} {Q:VK} {us:List Value} {vs:List V} (F:FnOk X.prog X.w X.K X.mg X.base CX k f fd ps sp) (hr:Room k X.A) (hb:Binds X.K fd ps ds) (hd:Vals dvs ds) (hx:Passes CX X E)
  (I:Inv X pins σ H s) (r:Vals vs us) (h:sp (vs++dvs) H Q E):wpAny (model X.prog X.w) X.A (call (.ref f) us) (EP X pins σ Q) X.xe s:=by
 have r2:Vals (vs++dvs) (us++ds):=r.append hd;have hl:(us++ds).length=ps.length:=by rw [<- r2.length]; exact F.len _ _ _ _ h
 refine wpAny_call (codeAny_mono (F.run X.A X.stack s H ⟨us,[]⟩ (us++ds) (vs++dvs) Q E hr I.env0 (hb s us I.kIn hl) r2 h) fun r s' hq=>?_);cases r with
 | error e=>exact hx pins σ H s e s' I hq
 | ok fl=>
  cases fl with
  | ret u=>exact I.after hq
  | next=>exact False.elim hq
  | brk=>exact False.elim hq
  | cont=>exact False.elim hq
theorem uK (F:FnOk X.prog X.w X.K X.mg X.base CX k f fd ps sp) (hr:Room k X.A) (hg:Gl X x) (hm:X.mg x=some (.ref f)) (hk:keepIn X.K (.ref f)=true) (hb:Binds X.K fd ps ds) (hd:Vals dvs ds) (hx:Passes CX X E)
  (ha:PA X (e::es) t) (hdb:(x == ("__debug__" : Str))=false:=by decide) (he:starEach (e::es) X.env=(false,eval e X.env)::starEach es X.env:=by rfl) (hpl:(backTo pos (starEach es X.env)).any (·.1)=false:=by rfl):
  PE X (.Call (.Name x p) (e::es) [] pos) (tCall sp dvs E t):=by
 intro pins s σ H Q I h;refine wpAny_Call_Name_kw (jq I hg hm ?_ hdb);refine PySem.W.callWith_K (h₀:=X.base) I.ok.mod.kin hk (thn (ha pos pins s σ H _ I h) fun us s1 ⟨vs,H1,I1,r,q⟩=>⟨I1.kIn,?_⟩) he hpl;exact Bz F hr hb hd hx I1 r q
end
section
variable {X:Cx} {CX:CXT} {k:Nat} {f C:Addr} {fd:FuncData} {ps ks:List Str} {sp:Sp} {E:XK} {x m:Str} {p pos apos kpos:Pos} {e o:Expr} {es:List Expr} {kws:List Keyword} {te ta:TE} {t tk:TA} {nm:Option Str}
variable {g:List Value->List Value->List Value} {gV:List V->List V->List V}
end
structure FnScope (N P:List Str) (sc:Scope):Prop where
 kind:sc.kind=.function
 co:sc.isCoroutine=false
 gen:sc.isGenerator=false
 nd:N.Nodup
 pre:N.take P.length=P
 par:∀ x ∈ P,sc.names.lookup x=some .local\/sc.names.lookup x=some .cell
 nofree:∀ y ∈ sc.names,y.2≠.free
theorem oZ {kindOf:Str->Option NameKind} {x:Str}:∀ {binds:List (Str × Value)} {m:Str->Option Value},(∀ v,(x,v) ∉ binds)->bindL kindOf binds m x=m x
 | [],_,_=>rfl
 | (n,v)::r,m,h=>by
  unfold bindL;rw [oZ fun w hw=>h w (List.mem_cons_of_mem _ hw)];split
  ·have:x≠n:=by rintro rfl; exact h v List.mem_cons_self
   simp [this]
  ·rfl
theorem pD {kindOf:Str->Option NameKind} {x:Str}:∀ {binds:List (Str × Value)} {m:Str->Option Value},(∀ v,(x,v) ∉ binds)->bindC kindOf binds m x=m x
 | [],_,_=>rfl
 | (n,v)::r,m,h=>by
  unfold bindC;rw [pD fun w hw=>h w (List.mem_cons_of_mem _ hw)];split
  ·rfl
  ·have:x≠n:=by rintro rfl; exact h v List.mem_cons_self
   simp [this]
theorem oQ {kindOf:Str->Option NameKind} {x:Str} {v:Value}:∀ {P:List Str} {vs:List Value} {i:Nat} {m:Str->Option Value},P.Nodup->P[i]? = some x->vs[i]? = some v->kindOf x=some .local ->
  bindL kindOf (P.zip vs) m x=some v
 | [],_,_,_,_,h,_,_=>by simp at h
 | _::_,[],_,_,_,_,h,_=>by simp at h
 | p::P,w::vs,0,m,nd,h1,h2,hk=>by
  simp at h1 h2; subst h1; subst h2;show bindL kindOf ((p,w)::P.zip vs) m p=_;unfold bindL;rw [oZ fun v hv=>(List.nodup_cons.mp nd).1 (List.of_mem_zip hv).1,if_pos hk];simp
 | p::P,w::vs,i+1,m,nd,h1,h2,hk=>by
  show bindL kindOf ((p,w)::P.zip vs) m x=_;unfold bindL;exact oQ (i:=i) (List.nodup_cons.mp nd).2 (by simpa using h1) (by simpa using h2) hk
theorem pB {kindOf:Str->Option NameKind} {x:Str} {v:Value}:∀ {P:List Str} {vs:List Value} {i:Nat} {m:Str->Option Value},P.Nodup->P[i]? = some x->vs[i]? = some v->kindOf x≠some .local ->
  bindC kindOf (P.zip vs) m x=some v
 | [],_,_,_,_,h,_,_=>by simp at h
 | _::_,[],_,_,_,_,h,_=>by simp at h
 | p::P,w::vs,0,m,nd,h1,h2,hk=>by
  simp at h1 h2; subst h1; subst h2;show bindC kindOf ((p,w)::P.zip vs) m p=_;unfold bindC;rw [pD fun v hv=>(List.nodup_cons.mp nd).1 (List.of_mem_zip hv).1,if_neg hk];simp
 | p::P,w::vs,i+1,m,nd,h1,h2,hk=>by
  show bindC kindOf ((p,w)::P.zip vs) m x=_;unfold bindC;exact pB (i:=i) (List.nodup_cons.mp nd).2 (by simpa using h1) (by simpa using h2) hk
noncomputable def start (N:List Str) (vs:List V):St:=vs.map some++List.replicate (N.length - vs.length) none
noncomputable def cxOf (CX:CXT) (P:Program) (w:World) (K:Frag) (mg:Str->Option Value) (base:Heap) (N:List Str) (qual:Str) (scope:Scope) (f:Addr) (cd:Value) (A:Around) (outer:List Env) (s:Shared) (H:Hp) (E:XK):Cx where
 prog:=P
 w:=w
 K:=K
 mg:=mg
 base:=base
 A:=A.deeper (envOfC qual scope s.heap.objs.size f cd)
 N:=N
 s₀:=s
 H₀:=H
 env:=envOfC qual scope s.heap.objs.size f cd
 outer:=outer
 stack:=envOfC qual scope s.heap.objs.size f cd::outer
 ex:=[]
 calm:=true
 fn:=fun _=>true
 pn:=[]
 xe:=fun e s'=>wpAny (model P w) (A.deeper (envOfC qual scope s.heap.objs.size f cd)) (leaving (envOfC qual scope s.heap.objs.size f cd) e) (fun _ s''=>CX outer H s E e s'') (fun e' s''=>CX outer H s E e' s'') s'
theorem rn {sc:Scope} {n:Nat} {x:Str} (h:sc.names.lookup x=some .cell):∃ c,(cellsFrom n sc.names []).lookup x=some c:=by
 have q:=PySem.W.cellsFrom_some sc.names n [] (.inl h);exact Option.isSome_iff_exists.mp q
theorem oU {CX:CXT} {P:Program} {w:World} {K:Frag} {mg:Str->Option Value} {base:Heap} {N ps:List Str} {qual:Str} {scope:Scope} {f:Addr} {cd:Value} {A:Around} {outer:List Env} {s s1:Shared} {H:Hp} {E:XK} {us:List Value} {vs:List V}
  (S:FnScope N ps scope) (hd:A.handled=none) (e0:Env0 P w K mg base A outer s H) (hl:vs.length=ps.length) (r:Vals vs us)
  (x:InCallC s s.heap.objs.size (bindL (envOfC qual scope s.heap.objs.size f cd).kindOf (ps.zip us) fun _=>none) (cellsFrom (s.heap.objs.size+1) scope.names []) (bindC (envOfC qual scope s.heap.objs.size f cd).kindOf (ps.zip us) fun _=>none) s1) (htk:0 < s1.toks):
  Inv (cxOf CX P w K mg base N qual scope f cd A outer s H E) [] (start N vs) H s1:=by
 have hpl:ps.length<=N.length:=by have:=congrArg List.length S.pre; rw [List.length_take] at this; omega
 obtain ⟨h1,tk,rfl,hk⟩:=x.done;have noA:∀ b:Addr,b ∉ (cxOf CX P w K mg base N qual scope f cd A outer s H E).ex:=fun b z=>absurd (show b ∈ ([]:List Addr) from z) (by simp)
 refine ⟨⟨e0.mod,S.kind,rfl,rfl,Nat.le_refl _,fun y z c h1 h2=>?_,fun y hy=>?_,fun y c _ h=>?_,fun _=>hd,Around.frames_deeper e0.frames,.inr ⟨rfl,rfl⟩,fun b z=>absurd z (noA b),e0.bs,e0.bsz,fun b _ _=>noA b,fun b z=>absurd z (noA b),e0.funs,e0.frf⟩,
  rfl,e0.bare,Un.kept hk,⟨_,x.toInCall.ns,fun i y v h1 h2 h3=>?_⟩,fun y c h=>⟨_,x.cell y c h⟩,e0.hok.fresh (Nat.le_refl _),fun y c h=>?_,fun p hp=>absurd (show p ∈ ([]:List (Addr × Obj)) from hp) (by simp),e0.hok.kept hk,?_,htk⟩
 ·exact name_of_addr x.apart (PySem.mem_of_lookup h1) (PySem.mem_of_lookup h2)
 ·have hy:scope.names.lookup y=some .cell\/scope.names.lookup y=some .free:=hy;rcases hy with hy | hy
  ·exact rn hy
  ·exact absurd rfl (S.nofree _ (PySem.mem_of_lookup hy))
 ·exact Nat.le_of_lt (x.above y c (PySem.mem_of_lookup h))
 ·have hi:i < vs.length:=by
   unfold start at h2;by_cases hi:i < vs.length
   ·exact hi
   ·rw [List.getElem?_append_right (by simpa using hi)] at h2;rw [List.getElem?_replicate] at h2;split at h2 <;> cases h2
  have ha:vs[i]? = some v:=by
   unfold start at h2;rw [List.getElem?_append_left (by simpa using hi),List.getElem?_map] at h2;cases e:vs[i]? with
   | none=>rw [e] at h2; cases h2
   | some a=>rw [e] at h2; cases h2; rfl
  obtain ⟨u,hu,rv⟩:=r.get ha;have hp:ps[i]? = some y:=by
   rw [<- S.pre,List.getElem?_take_of_lt (by omega)]; exact h1
  have ndP:ps.Nodup:=by rw [<- S.pre]; exact S.nd.sublist (List.take_sublist _ _)
  refine ⟨u,rv,?_⟩;rcases S.par y (List.mem_of_getElem? hp) with k | k
  ·exact .inl ⟨k,oQ ndP hp hu k⟩
  ·obtain ⟨c,e⟩:=rn (n:=s.heap.objs.size+1) k;refine .inr ⟨.inl k,c,e,?_⟩;have q:=x.cell y c e;rw [pB ndP hp hu (by show scope.names.lookup y≠_; rw [k]; decide)] at q;exact q
 ·exact e0.hok.fresh (Nat.le_of_lt (x.above y c (PySem.mem_of_lookup h)))
 ·unfold start;show _=N.length;rw [List.length_append,List.length_map,List.length_replicate];omega
theorem zY {CX:CXT} {P:Program} {w:World} {K:Frag} {mg:Str->Option Value} {base:Heap} {k:Nat} {f:Addr} {name qual:Str} {params:Arguments} {body:List Stmt} {scope:Scope} {dV kV doc pm cdv ct oc:Value} {an od:Option Addr}
  {osl:Array (Option Value)} {N ps:List Str} {sp:Sp} (lk:K.lookup f=some ⟨oc,od,.func (fnOf name qual params body scope dV kV doc pm an cdv ct),osl⟩) (hcd:codeIn K cdv qual=true) (S:FnScope N ps scope)
  (len:∀ vs H Q E,sp vs H Q E->vs.length=ps.length)
  (hbody:∀ (A:Around) (outer:List Env) (s:Shared) (H:Hp) (vs:List V) (Q:VK) (E:XK),Room k (A.deeper (envOfC qual scope s.heap.objs.size f cdv))->sp vs H Q E ->
   ∃ t,PSs (cxOf CX P w K mg base N qual scope f cdv A outer s H E) body t/\t { nx:=fun _ H'=>Q .non H',rt:=Q } (start N vs) H):
  FnOk P w K mg base CX (k+1) f (fnOf name qual params body scope dV kV doc pm an cdv ct) ps sp:=by
 refine ⟨len,fun A outer s H args us vs Q E hr e0 hb r hsp=>?_⟩;have hl:=len _ _ _ _ hsp;have KX:K.In s.heap:=e0.mod.kin.keeps fun b o e=>(e0.bs b o e).1
 have lim:s.heap.NoLimit:=e0.mod.nolimit.keeps fun b o e=>(e0.bs b o e).1
 have hkind:∀ y ∈ ps.zip us,scope.names.lookup y.1=some .local\/(scope.names.lookup y.1=some .cell/\((cellsFrom (s.heap.objs.size+1) scope.names []).lookup y.1).isSome=true):=fun ⟨n,v⟩ hy=>by
  rcases S.par n (List.of_mem_zip hy).1 with q | q
  ·exact .inl q
  ·exact .inr ⟨q,PySem.W.cellsFrom_some _ _ _ (.inl q)⟩
 refine codeAny_call_function hr.depth (KX _ _ lk) rfl S.co S.gen rfl (PySem.W.codeRec_of KX hcd) (hb _ _ _ _ ?_);refine tokQ e0.tk (wpAny_newFunctionEnv_cells S.kind hkind fun env he s1 x htk=>?_);subst he;refine ⟨lim.keeps x.toInCall.keep,codeAny_func ?_⟩;obtain ⟨t,ht,hq⟩:=hbody A outer s H vs Q E (hr.deeper _) hsp;have I:Inv (cxOf CX P w K mg base N qual scope f cdv A outer s H E) [] (start N vs) H s1:=oU S hr.hd e0 hl r x htk;refine wpAny_mono (ht [] s1 (start N vs) H _ I hq) (fun fl s' hs=>?_) fun e s' hs=>hs
 have fin:∀ {σ':St} {H':Hp} {v:V} {u:Value},Inv (cxOf CX P w K mg base N qual scope f cdv A outer s H E) [] σ' H' s'->RelV v u->Q v H'->CE outer P w H s Q u s':=
  fun {σ' H' v u} J rv q=>⟨v,H',J.tk,J.os,J.bare,J.base,J.hok,rv,q⟩
 cases fl with
 | ret u=>
  obtain ⟨v,σ',H',J,rv,q⟩:=hs;exact fin J rv q
 | next=>
  obtain ⟨σ',H',J,q⟩:=hs;exact fin (v:=V.non) (u:=Value.none) J rfl q
 | brk=>
  obtain ⟨_,_,_,q⟩:=hs;exact False.elim q
 | cont=>
  obtain ⟨_,_,_,q⟩:=hs;exact False.elim q
section
variable {X:Cx} {x:Str} {p pos:Pos} {e:Expr} {es:List Expr} {t:TA} {id T:String} {r:List V->Hp->VK->Prop}
noncomputable def tCB (r:List V->Hp->VK->Prop) (t:TA):TE:=fun σ H Q=>t σ H fun vs H1=>r vs H1 Q
theorem aB (hc:CallR X (.builtin id) r) (hg:Gl X x) (hm:X.mg x=none) (hv:bootBuiltins x=some (.builtin id)) (ha:PA X (e::es) t) (hn:x ≠ "__name__" := by decide) (hdb:(x == ("__debug__" : Str))=false:=by decide)
  (he:starEach (e::es) X.env=(false,eval e X.env)::starEach es X.env:=by rfl) (hpl:(backTo pos (starEach es X.env)).any (·.1)=false:=by rfl):PE X (.Call (.Name x p) (e::es) [] pos) (tCB r t):=by
 intro pins s σ H Q I h;refine wpAny_Call_Name_kw (dA I hg hm hv ?_ hn hdb);exact PyProof.Rows.callWith_builtin1 (thn (ha pos pins s σ H _ I h) fun us s1 ⟨vs,H1,I1,r1,q1⟩=>hc pins s1 σ H1 vs us Q I1 r1 q1) he hpl
theorem cX (hc:CallR X (.type T) r) (hg:Gl X x) (hm:X.mg x=none) (hv:bootBuiltins x=some (.type T)) (ha:PA X (e::es) t) (hn:x ≠ "__name__" := by decide) (hdb:(x == ("__debug__" : Str))=false:=by decide)
  (he:starEach (e::es) X.env=(false,eval e X.env)::starEach es X.env:=by rfl) (hpl:(backTo pos (starEach es X.env)).any (·.1)=false:=by rfl):PE X (.Call (.Name x p) (e::es) [] pos) (tCB r t):=by
 intro pins s σ H Q I h;refine wpAny_Call_Name_kw (dA I hg hm hv ?_ hn hdb);exact PyProof.Rows.callWith_type1 (thn (ha pos pins s σ H _ I h) fun us s1 ⟨vs,H1,I1,r1,q1⟩=>hc pins s1 σ H1 vs us Q I1 r1 q1) he hpl
end
end L2
namespace HT
open PySem PyProof.Rows
section
open PySem.SeqAt
open PySem.AutoSeq1 (wpAny_loadPart')
open PySem.MeetsSeq PySem.MeetsSeq2 PySem.MeetsSeq3
end
section
variable {prog:Program} {w:World} {A:Around} {E:Value->Shared->Prop} {s:Shared}
theorem cat_tup {t b:Addr} {vs ws:List Value} {Q:Value->Shared->Prop} (ht:IsTup s.heap t vs.toArray) (hb:IsTup s.heap b ws.toArray) (hv:vs≠[])
  (h1:ws=[]->Q (.ref t) s) (h2:ws≠[]->Q (.ref s.heap.objs.size) { s with heap:=s.heap.push { cls:=.type "tuple",data:=.seq (vs++ws).toArray } })
  (hsz:vs.length+ws.length<=sizeLine):wpAny (model prog w) A (binaryOp .Add (.ref t) (.ref b)) Q E s:=by
 obtain ⟨⟨cls,dd,data,sl⟩,ho,hc,n,hd⟩:=id ht;obtain ⟨⟨cls2,dd2,data2,sl2⟩,ho2,hc2,n2,hd2⟩:=id hb;simp only at hc hd hc2 hd2;subst hc hd hc2 hd2;have e:vs.toArray++ws.toArray=(vs++ws).toArray:=by simp
 by_cases hw:ws=[]
 ·exact concat_meets ⟨_,ho,rfl⟩ ⟨_,ho2,rfl⟩ noFill_tuple_add seq_tuple_add PySem.F.slot_tuple_add PySem.F.entry_tuple_add (PySem.F.args_tuple_add_2 _ _)
   (tuple_addW1 t b vs.toArray ws.toArray n n2 dd dd2 sl sl2 (by simpa using hv) (by simp [hw])) ⟨ho,ho2,h1 hw⟩
 ·refine concat_meets ⟨_,ho,rfl⟩ ⟨_,ho2,rfl⟩ noFill_tuple_add seq_tuple_add PySem.F.slot_tuple_add PySem.F.entry_tuple_add (PySem.F.args_tuple_add_2 _ _)
   (tuple_addW2 t b vs.toArray ws.toArray n n2 dd dd2 sl sl2 (by simpa using hv) (by simpa using hw) (by rw [List.size_toArray,List.size_toArray]; exact hsz)) ⟨ho,ho2,?_⟩
  rw [e];exact h2 hw
noncomputable def sIx (n d:Nat):Option Int->Nat
 | none=>d
 | some v=>if v < 0 then (v+(n:Int)).toNat else min v.toNat n
theorem sIx_none (n d:Nat):sIx n d none=d:=rfl
theorem sIx_nat (n d k:Nat):sIx n d (some (k:Int))=min k n:=by
 show (if (k:Int) < 0 then ((k:Int)+(n:Int)).toNat else min (k:Int).toNat n)=min k n;rw [if_neg (by omega),Int.toNat_natCast]
end
end HT
namespace L2
open PySem PySem.Spec PyProof.Rows
noncomputable abbrev TO:=St->Hp->(Option Int->Hp->Prop)->Prop
def PO (X:Cx) (e:Option Expr) (t:TO):Prop:=
 ∀ (pins:List (Addr × Obj)) (s:Shared) (σ:St) (H:Hp) (Q:Option Int->Hp->Prop),Inv X pins σ H s->t σ H Q ->
  wpAny (model X.prog X.w) X.A (evalPart e X.env) (fun u s'=>∃ o H',Inv X pins σ H' s'/\IsPart u o/\Q o H') X.xe s
noncomputable def tNoPart:TO:=fun _ H Q=>Q none H
noncomputable def tPart (t:TE):TO:=fun σ H Q=>t σ H fun x H1=>∃ i,x=.int i/\Q (some i) H1
theorem nE {ns:List Int}:∀ {us:List Value},Vals (ns.map V.int) us->IntsAre us ns:=by
 induction ns with
 | nil=>intro us r; rw [List.map_nil] at r; cases r; exact .nil
 | cons n ns ih=>
  intro us r;rw [List.map_cons] at r;cases r with
  | cons r1 r2=>
   obtain ⟨t,e⟩:=r1;subst e;exact .cons n t (ih r2)
section
variable {X:Cx} {e:Expr} {te:TE} {lo hi:Option Expr} {tl th:TO} {pos p2:Pos}
theorem dG:PO X none tNoPart:=by
 intro pins s σ H Q I h;rw [evalPart_none];exact wpAny_pure ⟨none,H,I,.none,h⟩
theorem zl (h:PE X e te):PO X (some e) (tPart te):=by
 intro pins s σ H Q I hw;rw [evalPart_some];refine thn (h pins s σ H _ I hw) fun u s1 ⟨x,H1,I1,r1,q1⟩=>?_
 obtain ⟨i,rfl,q⟩:=q1;obtain ⟨t,rfl⟩:=r1;exact ⟨some i,H1,I1,.int i t,q⟩
def SlR (X:Cx) (r:V->Option Int->Option Int->Hp->VK->Prop):Prop:=
 ∀ (pins:List (Addr × Obj)) (s:Shared) (σ:St) (H:Hp) (x:V) (v vl vu:Value) (lo hi:Option Int) (sl:Addr) (Q:VK),Inv X pins σ H s->RelV x v->s.heap.IsSliceOf sl vl vu .none->IsPart vl lo->IsPart vu hi->r x lo hi H Q ->
  ∃ T id,typeLookup (.type T) "__getitem__" = pure (some (.builtin id))/\s.TypeIs v T/\wpAny (model X.prog X.w) X.A (getItem v (.ref sl)) (EP X pins σ Q) X.xe s
theorem SlR.or {r r':V->Option Int->Option Int->Hp->VK->Prop} (h:SlR X r) (h':SlR X r'):SlR X (fun x lo hi H Q=>r x lo hi H Q\/r' x lo hi H Q):=by
 intro pins s σ H x v vl vu lo hi sl Q I rx hs pl pu q;rcases q with q | q
 ·exact h pins s σ H x v vl vu lo hi sl Q I rx hs pl pu q
 ·exact h' pins s σ H x v vl vu lo hi sl Q I rx hs pl pu q
noncomputable def tSl (r:V->Option Int->Option Int->Hp->VK->Prop) (te:TE) (tl th:TO):TE:=fun σ H Q=>te σ H fun x H1=>tl σ H1 fun l H2=>th σ H2 fun u H3=>r x l u H3 Q
theorem cz {r:V->Option Int->Option Int->Hp->VK->Prop} (hr:SlR X r) (he:PE X e te) (hl:PO X lo tl) (hu:PO X hi th):PE X (.Subscript e (.Slice lo hi none p2) pos) (tSl r te tl th):=by
 intro pins s σ H Q I h;refine Subscript_ (thn (he pins s σ H _ I h) fun v s1 ⟨x,H1,I1,r1,q1⟩=>?_);refine wpAny_Slice (thn (hl pins s1 σ H1 _ I1 q1) fun vl s2 ⟨l,H2,I2,pl,q2⟩=>thn (hu pins s2 σ H2 _ I2 q2) fun vu s3 ⟨u,H3,I3,pu,q3⟩=>?_);rw [evalPart_none];refine wpAny_pure ?_;have I4:Inv X pins σ H3 { s3 with heap:=s3.heap.push { cls:=.type "slice",data:=.fields #[vl,vu,.none] } }:=I3.kept (t':=s3.toks) fun b ob q=>Heap.get?_push_of_some _ q
 obtain ⟨T,id,hT,ht,hg⟩:=hr pins { s3 with heap:=s3.heap.push { cls:=.type "slice",data:=.fields #[vl,vu,.none] } } σ H3 x v vl vu l u s3.heap.objs.size Q I4 r1 (Heap.IsSliceOf.new ..) pl pu q3;show wpAny (model X.prog X.w) X.A (subscriptTail e (.Slice lo hi none p2) v (.ref s3.heap.objs.size)) (EP X pins σ Q) X.xe { s3 with heap:=s3.heap.push { cls:=.type "slice",data:=.fields #[vl,vu,.none] } };exact tail_any (ops:=[.ref s3.heap.objs.size,v]) ht hT hg (by with_unfolding_all rfl)
noncomputable def cutV (xs:List V) (lo hi:Option Int):List V:=(xs.drop (HT.sIx xs.length 0 lo)).take (HT.sIx xs.length xs.length hi - HT.sIx xs.length 0 lo)
theorem rf (xs:List V) (lo hi:Option Int):(cutV xs lo hi).length<=xs.length:=by
 unfold cutV;rw [List.length_take,List.length_drop];omega
noncomputable def rCatT (K:Frag):R2:=fun x y H Q=>∃ a b xs ys,x=.ref a/\y=.ref b/\SqT K H a xs/\SqT K H b ys/\xs≠[]/\xs.length+ys.length<=sizeLine /\
 (ys=[]->Q (.ref a) H)/\(ys≠[]->∀ p,H p=none->Q (.ref p) (upd H p (.tup (xs++ys))))
theorem Vals.nil_iff {xs:List V} {us:List Value} (r:Vals xs us):us=[] ↔ xs=[]:=by
 cases r with
 | nil=>simp
 | cons _ _=>simp
theorem yS:OpR X (binaryOp .Add) (rCatT X.K):=by
 intro pins s σ H x y v u Q I rx ry h;obtain ⟨a,b,xs,ys,rfl,rfl,ha,hb,hx,hz,q1,q2⟩:=h;cases rx;cases ry;obtain ⟨its,r1,p1,_⟩:=I.tuple ha;obtain ⟨its2,r2,p2,_⟩:=I.tuple hb;refine HT.cat_tup p1 p2 (fun z=>hx (r1.nil_iff.mp z)) (fun z=>⟨.ref a,H,I,rfl,q1 (r2.nil_iff.mp z)⟩) (fun z=>?_) (by rw [<- r1.length,<- r2.length]; exact hz);refine ⟨.ref s.heap.objs.size,_,I.laid (t':=s.toks) (o:=.tup (xs++ys)) (fun b ob q=>Heap.get?_push_of_some _ q) (Nat.le_refl _) ?_,rfl,q2 (fun w=>z (r2.nil_iff.mpr w)) _ (I.hok.fresh (Nat.le_refl _))⟩;exact ⟨by rw [List.length_append]; exact hz,_,r1.append r2,IsTup.new _ _⟩
end
noncomputable def ixN (n:Nat) (i:Int):Option Nat:=if 0<=i then (if i < n then some i.toNat else none) else if -(n:Int)<=i then some (i+n).toNat else none
noncomputable def atI {α:Type} (xs:List α) (i:Int):Option α:=(ixN xs.length i).bind fun j=>xs[j]?
theorem uL {n:Nat} {i:Int} {j:Nat} (h:ixN n i=some j):seqIndex? i n=some j/\j < n /\ -(n:Int)<=i/\i < n:=by
 unfold ixN at h;by_cases h0:0<=i
 ·rw [if_pos h0] at h;by_cases h1:i < n
  ·rw [if_pos h1] at h;have e:i.toNat=j:=Option.some.inj h;exact ⟨by rw [seqIndex_of h0 h1,e],by omega,by omega,h1⟩
  ·rw [if_neg h1] at h; cases h
 ·rw [if_neg h0] at h;by_cases h1:-(n:Int)<=i
  ·rw [if_pos h1] at h;have e:(i+n).toNat=j:=Option.some.inj h;exact ⟨by rw [seqIndex_neg (by omega) h1,e],by omega,h1,by omega⟩
  ·rw [if_neg h1] at h; cases h
theorem pU {α:Type} {xs:List α} {i:Int} {v:α} (h:atI xs i=some v):∃ j,seqIndex? i xs.length=some j/\xs[j]? = some v/\j < xs.length /\ -(xs.length:Int)<=i/\i < xs.length:=by
 unfold atI at h;cases e:ixN xs.length i with
 | none=>rw [e] at h; cases h
 | some j=>
  rw [e] at h;obtain ⟨h1,h2,h3,h4⟩:=uL e;exact ⟨j,h1,h,h2,h3,h4⟩
theorem be {α:Type} {xs:List α} {j:Nat} {v:α} (h:xs[j]? = some v):atI xs (j:Int)=some v:=by
 have hj:j < xs.length:=(List.getElem?_eq_some_iff.mp h).1;have e:ixN xs.length (j:Int)=some j:=by
  unfold ixN;rw [if_pos (by omega),if_pos (by omega)]; simp
 unfold atI; rw [e]; exact h
def PlainIx (b:Expr):Prop:=∀ o i,subscripted b false o i=operate [o,i] (getItem o i)
def IxR (X:Cx) (r:R2):Prop:=
 ∀ (value slice:Expr) (pins:List (Addr × Obj)) (s:Shared) (σ:St) (H:Hp) (x y:V) (v u:Value) (Q:VK),Inv X pins σ H s->RelV x v->RelV y u->r x y H Q ->
  subscripted slice false v u=operate [v,u] (getItem v u)->wpAny (model X.prog X.w) X.A (subscriptTail value slice v u) (EP X pins σ Q) X.xe s
def MtR (X:Cx) (id:String) (r:V->List V->Hp->VK->Prop):Prop:=
 ∀ (pins:List (Addr × Obj)) (s:Shared) (σ:St) (H:Hp) (x:V) (xs:List V) (v:Value) (us:List Value) (Q:VK),Inv X pins σ H s->RelV x v->Vals xs us->r x xs H Q ->
  wpAny (model X.prog X.w) X.A (call (.builtin id) (v::us)) (EP X pins σ Q) X.xe s
section
variable {X:Cx} {a b:Expr} {ta tb:TE} {pos:Pos}
theorem IxR.or {r r':R2} (h:IxR X r) (h':IxR X r'):IxR X (fun x y H Q=>r x y H Q\/r' x y H Q):=by
 intro value slice pins s σ H x y v u Q I rx ry q hs;rcases q with q | q
 ·exact h value slice pins s σ H x y v u Q I rx ry q hs
 ·exact h' value slice pins s σ H x y v u Q I rx ry q hs
theorem aw {r:R2} (hr:IxR X r) (ha:PE X a ta) (hb:PE X b tb) (hs:PlainIx b):PE X (.Subscript a b pos) (tOp r ta tb):=by
 intro pins s σ H Q I h;exact Subscript_ (binT ha hb I h fun v u s2 x y H2 I2 rx ry q=>hr a b pins s2 σ H2 x y v u Q I2 rx ry q (hs _ _))
noncomputable def rIxL (K:Frag):R2:=fun x y H Q=>∃ p xs i v,x=.ref p/\y=.int i/\SqL K H p xs/\atI xs i=some v/\Q v H
noncomputable def rIxT (K:Frag):R2:=fun x y H Q=>∃ p xs i v,x=.ref p/\y=.int i/\SqT K H p xs/\atI xs i=some v/\Q v H
noncomputable def rIxS:R2:=fun x y H Q=>∃ z i c,x=.str z/\y=.int i/\z.length<=sizeLine/\atI z.cps.toList i=some c/\Q (.str ⟨#[c]⟩) H
theorem yX:IxR X (rIxL X.K):=by
 intro value slice pins s σ H x y v u Q I rx ry h hs;obtain ⟨p,xs,i,z,rfl,rfl,hq,he,q⟩:=h;cases rx;obtain ⟨t,rfl⟩:=ry;obtain ⟨its,r,pl,hz⟩:=I.list hq;obtain ⟨j,h1,h2,h3,h4,h5⟩:=pU he;obtain ⟨w,ew,rw'⟩:=r.get h2;have hl:=r.length;have hn:=line63;have fin:EP X pins σ Q w s:=⟨z,H,I,rw',q⟩;by_cases h0:0<=i
 ·have hj:i.toNat=j:=by
   rw [seqIndex_of h0 h5] at h1;exact Option.some.inj h1
  exact item_listR pl.isList h0 (by omega) (by rw [hj]; simpa using ew) fin hs
 ·have hj:(i+(its.toArray.size:Int)).toNat=j:=by
   rw [seqIndex_neg (by omega) h4] at h1;rw [List.size_toArray,<- hl];exact Option.some.inj h1
  exact subscriptTail_builtinR (x:=w) pl.isList.typeIs slot_list_getitem.lookup
   (wpAny_getItem_list_neg (Q:=fun r s'=>r=w/\EP X pins σ Q r s') pl.isList (by omega) (by rw [List.size_toArray] <;> omega) (by omega) (by rw [hj]; simpa using ew) ⟨rfl,fin⟩) hs
theorem A5:IxR X (rIxT X.K):=by
 intro value slice pins s σ H x y v u Q I rx ry h hs;obtain ⟨p,xs,i,z,rfl,rfl,hq,he,q⟩:=h;cases rx;obtain ⟨t,rfl⟩:=ry;obtain ⟨its,r,pl,hz⟩:=I.tuple hq;obtain ⟨j,h1,h2,h3,h4,h5⟩:=pU he;obtain ⟨w,ew,rw'⟩:=r.get h2;have hl:=r.length;have hn:=line63;have fin:EP X pins σ Q w s:=⟨z,H,I,rw',q⟩;exact subscriptTail_builtinR (x:=w) pl.typeIs slot_tuple_getitem.lookup
  (getItem_tuple (j:=j) (Q:=fun r s'=>r=w/\EP X pins σ Q r s') pl (by omega) (by omega) (by rw [List.size_toArray,<- hl]; exact h1) (by simpa using ew) ⟨rfl,fin⟩) hs
theorem A0:IxR X rIxS:=by
 intro value slice pins s σ H x y v u Q I rx ry h hs;obtain ⟨z,i,c,rfl,rfl,hz,he,q⟩:=h;obtain ⟨t,rfl⟩:=rx;obtain ⟨t',rfl⟩:=ry;obtain ⟨j,h1,h2,h3,h4,h5⟩:=pU he;have hl:z.cps.toList.length=z.length:=by simp [Str.length]
 rw [hl] at h1 h4 h5;have hn:=line63;exact tail_any (typeIs_str s z t) slot_str_getitem.lookup (getItem_str (c:=c) (by
  have e1:decide (i < -(2 ^ 63:Int))=false:=decide_eq_false (by omega);have e2:decide (i >= 2 ^ 63)=false:=decide_eq_false (by omega);rw [e1,e2,Bool.or_false]) (by rw [h1]; simpa using h2) ⟨.str ⟨#[c]⟩,H,I.tok _,⟨_,rfl⟩,q⟩) hs
noncomputable def rIx (K:Frag):R2:=fun x y H Q=>rIxL K x y H Q\/rIxT K x y H Q\/rIxS x y H Q
theorem Bk:IxR X (rIx X.K):=yX.or (A5.or A0)
theorem tJ (its:List Value) (n j:Nat) (u:Value):Obj.mapSeq (·.setIfInBounds j u) { cls:=.type "list",data:=.seq its.toArray n }={ cls:=.type "list",data:=.seq (its.set j u).toArray n }:=by
 simp [Obj.mapSeq]
theorem Inv.lst {pins:List (Addr × Obj)} {σ:St} {H:Hp} {s:Shared} {p:Addr} {xs:List V} (I:Inv X pins σ H s) (h:H p=some (.lst xs)):
  ∃ (its:List Value) (n:Nat),Vals xs its/\s.heap.get? p=some { cls:=.type "list",data:=.seq its.toArray n }/\xs.length<=sizeLine:=by
 obtain ⟨z,its,n,r,e⟩:=I.hok p _ h;exact ⟨its,n,r,e,z⟩
theorem Inv.lstUpd {pins:List (Addr × Obj)} {σ:St} {H:Hp} {s:Shared} {p:Addr} {xs ys:List V} {its its':List Value} {n n':Nat} {f:Obj->Obj} (I:Inv X pins σ H s) (h:H p=some (.lst xs))
  (ho:s.heap.get? p=some { cls:=.type "list",data:=.seq its.toArray n }) (hf:f { cls:=.type "list",data:=.seq its.toArray n }={ cls:=.type "list",data:=.seq its'.toArray n' }) (r:Vals ys its') (hz:ys.length<=sizeLine) (t:Nat) (ht:0 < t:=by first | assumption | exact Nat.succ_pos _ | (apply Inv.tk; assumption) | omega):
  Inv X pins σ (upd H p (.lst ys)) { s with heap:=s.heap.update p f,toks:=t }:=by
 have e:(s.heap.update p f).get? p=some { cls:=.type "list",data:=.seq its'.toArray n' }:=by
  rw [Heap.get?_update_self f ho (by rw [hf] <;> rfl),hf]
 refine I.write (x:=p) (e:=p) (by rw [h]; trivial) (.inl rfl) (fun b u hb q=>(Heap.get?_update_other _ _ (Ne.symm hb)).trans q) ⟨_,e⟩ ?_;exact ⟨hz,its',n',r,e⟩
noncomputable def rSetL:V->V->V->Hp->(Hp->Prop)->Prop:=fun o i v H Q=>∃ p xs k j,o=.ref p/\i=.int k/\H p=some (.lst xs)/\ixN xs.length k=some j/\Q (upd H p (.lst (xs.set j v)))
theorem sO:PSet X rSetL:=by
 intro pins s σ H o i v ov iv u Q I ro ri rv h;obtain ⟨p,xs,k,j,rfl,rfl,hp,hj,q⟩:=h;cases ro;obtain ⟨t,rfl⟩:=ri;obtain ⟨its,n,r,ho,hz⟩:=I.lst hp;obtain ⟨h1,h2,h3,h4⟩:=uL hj;have hl:=r.length;have hn:=line63;have I':Inv X pins σ (upd H p (.lst (xs.set j v))) { s with heap:=s.heap.update p (Obj.mapSeq (·.setIfInBounds j u)) }:=
  I.lstUpd hp ho (tJ its n j u) (r.set rv j) (by rw [List.length_set]; exact hz) s.toks
 by_cases h0:0<=k
 ·have hk:k.toNat=j:=by
   rw [seqIndex_of h0 h4] at h1;exact Option.some.inj h1
  exact PySem.W.ki_setAt ho h0 (by omega) (by rw [List.size_toArray,<- hl]; exact h4) (by rw [hk]; exact ⟨_,I',q⟩)
 ·have hk:(k+(its.toArray.size:Int)).toNat=j:=by
   rw [seqIndex_neg (by omega) h3] at h1;rw [List.size_toArray,<- hl];exact Option.some.inj h1
  exact PySem.W.ki_setBack ho (by omega) (by rw [List.size_toArray,<- hl]; exact h3) (by omega) (by rw [hk]; exact ⟨_,I',q⟩)
theorem qw (lo hi:Option Int) (n:Nat):(sliceBounds lo hi none n).1=((HT.sIx n 0 lo:Nat):Int)/\(sliceBounds lo hi none n).2.1=((HT.sIx n n hi:Nat):Int)/\(sliceBounds lo hi none n).2.2=1:=by
 refine ⟨?_,?_,rfl⟩
 ·cases lo with
  | none=>simp [sliceBounds,HT.sIx]
  | some i=>
   simp only [sliceBounds,HT.sIx,Option.getD_none,show (1:Int) > 0 by decide,if_true];by_cases h:i < 0
   ·simp only [h,if_true] <;> omega
   ·simp only [h,if_false] <;> omega
 ·cases hi with
  | none=>simp [sliceBounds,HT.sIx]
  | some i=>
   simp only [sliceBounds,HT.sIx,Option.getD_none,show (1:Int) > 0 by decide,if_true];by_cases h:i < 0
   ·simp only [h,if_true] <;> omega
   ·simp only [h,if_false] <;> omega
theorem nZ (its:List Value) (lo hi:Option Int):slicePick its.toArray lo hi none=((its.drop (HT.sIx its.length 0 lo)).take (HT.sIx its.length its.length hi - HT.sIx its.length 0 lo)).toArray:=by
 obtain ⟨h1,h2,h3⟩:=qw lo hi its.toArray.size;unfold slicePick;rw [h1,h2,h3];simp only [sliceRange_one,pick_run,List.size_toArray] <;> rfl
noncomputable def rSlL (K:Frag):V->Option Int->Option Int->Hp->VK->Prop:=fun x lo hi H Q=>∃ a xs,x=.ref a/\SqL K H a xs/\∀ p,H p=none->Q (.ref p) (upd H p (.lst (cutV xs lo hi)))
theorem yy:SlR X (rSlL X.K):=by
 intro pins s σ H x v vl vu lo hi sl Q I rx hs pl pu h;obtain ⟨a,xs,rfl,hx,q⟩:=h;cases rx;obtain ⟨its,r,ht,hz⟩:=I.list hx;have hlen:=r.length;refine ⟨"list",_,slot_list_getitem.lookup,ht.isList.typeIs,?_⟩;refine wpAny_getItem_list_slice ht.isList hs pl pu .none (by simp) ?_ (by rw [List.size_toArray] <;> omega);rw [nZ,<- hlen];refine ⟨.ref s.heap.objs.size,_,I.laid (t':=s.toks) (o:=.lst (cutV xs lo hi)) (fun b ob q=>Heap.get?_push_of_some _ q) (Nat.le_refl _) ?_,rfl,q _ (I.hok.fresh (Nat.le_refl _))⟩;exact ⟨Nat.le_trans (rf xs lo hi) hz,_,0,(r.drop (HT.sIx xs.length 0 lo)).take (HT.sIx xs.length xs.length hi - HT.sIx xs.length 0 lo),Heap.get?_push_size _ rfl⟩
noncomputable def flatV:V->Bool
 | .non=>true
 | .bl _=>true
 | .int _=>true
 | .str _=>true
 | _=>false
noncomputable def eqV:V->V->Bool
 | .non,.non=>true
 | .bl a,.bl b=>a == b
 | .bl a,.int b=>(if a then 1 else 0) == b
 | .int a,.bl b=>a == (if b then 1 else 0)
 | .int a,.int b=>a == b
 | .str a,.str b=>a == b
 | _,_=>false
theorem tT {A:Around} {s:Shared} {y x:V} {u v:Value} (ry:RelV y u) (rx:RelV x v) (fy:flatV y=true) (fx:flatV x=true):SeqAt.EqAt A s u v (eqV y x):=by
 cases y with
 | non=>
  cases ry;cases x with
  | non=>cases rx; exact SeqAt.EqAt.same _
  | bl b=>cases rx; exact SeqAt.EqAt.none_bool b
  | int b=>obtain ⟨t,rfl⟩:=rx; exact SeqAt.EqAt.none_int b t
  | str b=>obtain ⟨t,rfl⟩:=rx; exact SeqAt.EqAt.none_str b t
  | _=>exact absurd (show false=true from fx) Bool.false_ne_true
 | bl a=>
  cases ry;cases x with
  | non=>cases rx; exact SeqAt.EqAt.bool_none a
  | bl b=>cases rx; exact SeqAt.EqAt.bool_bool a b
  | int b=>obtain ⟨t,rfl⟩:=rx; exact SeqAt.EqAt.bool_int a b t
  | str b=>obtain ⟨t,rfl⟩:=rx; exact SeqAt.EqAt.bool_str a b t
  | _=>exact absurd (show false=true from fx) Bool.false_ne_true
 | int a=>
  obtain ⟨t',rfl⟩:=ry;cases x with
  | non=>cases rx; exact SeqAt.EqAt.int_none a t'
  | bl b=>cases rx; exact SeqAt.EqAt.int_bool a t' b
  | int b=>obtain ⟨t,rfl⟩:=rx; exact SeqAt.EqAt.int_int a t' b t
  | str b=>obtain ⟨t,rfl⟩:=rx; exact SeqAt.EqAt.int_str a t' b t
  | _=>exact absurd (show false=true from fx) Bool.false_ne_true
 | str a=>
  obtain ⟨t',rfl⟩:=ry;cases x with
  | non=>cases rx; exact SeqAt.EqAt.str_none a t'
  | bl b=>cases rx; exact SeqAt.EqAt.str_bool a t' b
  | int b=>obtain ⟨t,rfl⟩:=rx; exact SeqAt.EqAt.str_int a t' b t
  | str b=>obtain ⟨t,rfl⟩:=rx; exact SeqAt.EqAt.str_str a t' b t
  | _=>exact absurd (show false=true from fx) Bool.false_ne_true
 | _=>exact absurd (show false=true from fy) Bool.false_ne_true
noncomputable def eqU (x:V) (u:Value):Bool:=match u with
 | .none=>eqV .non x
 | .bool b=>eqV (.bl b) x
 | .int i _=>eqV (.int i) x
 | .str z _=>eqV (.str z) x
 | _=>false
theorem wV {x y:V} {u:Value} (r:RelV y u) (f:flatV y=true):eqU x u=eqV y x:=by
 cases y with
 | non=>cases r; rfl
 | bl b=>cases r; rfl
 | int i=>obtain ⟨t,rfl⟩:=r; rfl
 | str z=>obtain ⟨t,rfl⟩:=r; rfl
 | _=>exact absurd (show false=true from f) Bool.false_ne_true
theorem qp {x:V}:∀ {xs:List V} {us:List Value},Vals xs us->xs.all flatV=true->us.any (eqU x)=xs.any fun y=>eqV y x
 | _,_,.nil,_=>rfl
 | y::xs,u::us,.cons r t,f=>by
  rw [List.all_cons,Bool.and_eq_true] at f;rw [List.any_cons,List.any_cons,wV r f.1,qp t f.2]
theorem mB {A:Around} {s:Shared} {x:V} {v:Value} (rx:RelV x v) (fx:flatV x=true):∀ {xs:List V} {us:List Value},Vals xs us->xs.all flatV=true->∀ u ∈ us,SeqAt.EqAt A s u v (eqU x u)
 | _,_,.nil,_=>fun u hu=>by cases hu
 | y::xs,u::us,.cons r t,f=>fun u' hu=>by
  rw [List.all_cons,Bool.and_eq_true] at f;rcases List.mem_cons.mp hu with rfl | hu
  ·rw [wV r f.1]; exact tT r rx f.1 fx
  ·exact mB rx fx t f.2 u' hu
noncomputable def inV (x:V) (xs:List V):Bool:=xs.any fun y=>eqV y x
noncomputable def rIn (K:Frag) (neg:Bool):R2:=fun x y H Q=>∃ p xs,y=.ref p/\(SqL K H p xs\/SqT K H p xs)/\flatV x=true/\xs.all flatV=true/\Q (.bl (if neg then !inV x xs else inV x xs)) H
theorem pM:OpR X (compareOp .NotIn) (rIn X.K true):=by
 intro pins s σ H x y v u Q I rx ry h;obtain ⟨p,xs,rfl,hq,fx,fs,q⟩:=h;cases ry;rcases hq with hq | hq
 ·obtain ⟨its,r,pl,hz⟩:=I.list hq;refine SeqAt.notIn_listAt (eqU x) pl.isList (fun w hw=>mB rx fx r fs w (by simpa using hw)) ⟨.bl _,H,I,rfl,?_⟩;rw [show its.toArray.any (eqU x)=its.any (eqU x) by simp,qp r fs];exact q
 ·obtain ⟨its,r,pl,hz⟩:=I.tuple hq;refine SeqAt.notIn_tupleAt (eqU x) pl (fun w hw=>mB rx fx r fs w (by simpa using hw)) ⟨.bl _,H,I,rfl,?_⟩;rw [show its.toArray.any (eqU x)=its.any (eqU x) by simp,qp r fs];exact q
theorem qh:CallR X (.builtin "len") (fun xs H Q=>∃ p ys,xs=[.ref p]/\(SqL X.K H p ys\/SqT X.K H p ys)/\Q (.int ys.length) H):=by
 intro pins s σ H xs us Q I r h;obtain ⟨p,ys,rfl,hq,q⟩:=h;obtain ⟨u,rfl,rx⟩:=vals1 r;cases rx;have hn:=line63;rcases hq with hq | hq
 ·obtain ⟨its,r',pl,hz⟩:=I.list hq;have hlen:=r'.length;exact Calls.call_len_list pl.isList (by simp only [List.size_toArray] <;> omega) ⟨.int ys.length,H,I.tok _,⟨s.toks+1,by rw [List.size_toArray,hlen]⟩,q⟩
 ·obtain ⟨its,r',pl,hz⟩:=I.tuple hq;have hlen:=r'.length;exact len_tuple pl (by simp only [List.size_toArray] <;> omega) ⟨.int ys.length,H,I.tok _,⟨s.toks+1,by rw [List.size_toArray,hlen]⟩,q⟩
theorem qk:CallR X (.builtin "len") (fun xs H Q=>∃ z,xs=[.str z]/\z.length<=sizeLine/\Q (.int z.length) H):=by
 intro pins s σ H xs us Q I r h;obtain ⟨z,rfl,hz,q⟩:=h;obtain ⟨u,rfl,t,rfl⟩:=vals1 r;have hn:=line63;exact len_str (by omega) ⟨.int z.length,H,I.tok _,⟨_,rfl⟩,q⟩
theorem qP:CallR X (.type "list") (fun xs H Q=>∃ p ys,xs=[.ref p]/\(SqL X.K H p ys\/SqT X.K H p ys)/\∀ l,H l=none->Q (.ref l) (upd H l (.lst ys))):=by
 intro pins s σ H xs us Q I r h;obtain ⟨p,ys,rfl,hq,q⟩:=h;obtain ⟨u,rfl,rx⟩:=vals1 r;cases rx;have fin:∀ (its:List Value),Vals ys its->ys.length<=sizeLine->∀ (h':Heap) (c':Nat),(∀ b o',s.heap.get? b=some o'->h'.get? b=some o') ->
   h'.get? s.heap.objs.size=some { cls:=.type "list",dict:=none,data:=.seq its.toArray c',slots:=#[] }->EP X pins σ Q (.ref s.heap.objs.size) { s with heap:=h' }:=fun its r' hz h' c' kp e=>
  ⟨.ref s.heap.objs.size,_,I.laid (t':=s.toks) kp (Nat.le_refl _) (show ObjOk X.prog X.w _ h' _ (.lst ys) from ⟨hz,its,c',r',e⟩),rfl,q _ (I.hok.fresh (Nat.le_refl _))⟩
 rcases hq with hq | hq
 ·obtain ⟨its,r',pl,hz⟩:=I.list hq;have hlen:=r'.length;obtain ⟨o,ho,hc,n,hd⟩:=pl.isList;exact call_list_seq p (.inl rfl) ho hc hd (fun h' c' kp e=>fin its r' hz h' c' kp e) (by simp only [List.size_toArray] <;> omega)
 ·obtain ⟨its,r',pl,hz⟩:=I.tuple hq;have hlen:=r'.length;obtain ⟨o,ho,hc,n,hd⟩:=pl;exact call_list_seq p (.inr rfl) ho hc hd (fun h' c' kp e=>fin its r' hz h' c' kp e) (by simp only [List.size_toArray] <;> omega)
theorem oA:CallR X (.type "tuple") (fun xs H Q=>∃ p ys,xs=[.ref p]/\((SqL X.K H p ys/\∀ l,H l=none->Q (.ref l) (upd H l (.tup ys)))\/(SqT X.K H p ys/\Q (.ref p) H))):=by
 intro pins s σ H xs us Q I r h;obtain ⟨p,ys,rfl,h⟩:=h;obtain ⟨u,rfl,rx⟩:=vals1 r;cases rx;rcases h with ⟨hq,q⟩ | ⟨hq,q⟩
 ·obtain ⟨its,r',pl,hz⟩:=I.list hq;have hlen:=r'.length;refine call_tuple_list pl.isList (fun h' kp=>?_) (by simp only [List.size_toArray] <;> omega);have I1:Inv X pins σ H { s with heap:=h' }:=I.kept (t':=s.toks) kp;have I2:Inv X pins σ (upd H h'.objs.size (.tup ys)) { s with heap:=h'.push { cls:=.type "tuple",data:=.seq its.toArray } }:=
   I1.laid (t':=s.toks) (fun b o e=>Heap.get?_push_of_some _ e) (Nat.le_refl _) (show ObjOk X.prog X.w _ _ _ (.tup ys) from ⟨hz,its,r',IsTup.new _ _⟩)
  exact ⟨.ref h'.objs.size,_,I2,rfl,q _ (I1.hok.fresh (Nat.le_refl _))⟩
 ·obtain ⟨its,r',pl,hz⟩:=I.tuple hq;exact call_tuple_same pl ⟨.ref p,H,I,rfl,q⟩
def tyV (K:Frag) (T:String) (x:V) (H:Hp):Prop:=match x with
 | .str _=>T = "str"
 | .int _=>T = "int"
 | .ref p=>(T = "list" /\ ∃ xs,SqL K H p xs)\/(T = "tuple" /\ ∃ o,K.lookup p=some o/\o.cls=.type "tuple" /\ o.dict=none) \/
   (T = "dict" /\ ((∃ kvs,H p=some (.dK kvs))\/∃ kvs,H p=some (.dT kvs)))\/(T = "set" /\ ∃ S n,H p=some (.set S n))
 | _=>False
theorem AL {pins:List (Addr × Obj)} {σ:St} {H:Hp} {s:Shared} {T:String} {x:V} {v:Value} (I:Inv X pins σ H s) (r:RelV x v) (ty:tyV X.K T x H):
  s.TypeIs v T/\∀ a,v=.ref a->∃ ob,s.heap.get? a=some ob/\ob.dict=none:=by
 cases x with
 | str z=>
  obtain ⟨t,rfl⟩:=r;cases (show T = "str" from ty);exact ⟨typeIs_str s z t,fun _ e=>nomatch e⟩
 | int i=>
  obtain ⟨t,rfl⟩:=r;cases (show T = "int" from ty);exact ⟨typeIs_int s i t,fun _ e=>nomatch e⟩
 | ref p=>
  cases r;rcases ty with ⟨rfl,xs,hq⟩ | ⟨rfl,o,hk,hc,hd⟩ | ⟨rfl,hk⟩ | ⟨rfl,S,n,hk⟩
  ·obtain ⟨its,_,pl,_⟩:=I.list hq;refine ⟨pl.isList.typeIs,fun a e=>?_⟩;cases e;obtain ⟨o,n,e,c,hd,_⟩:=pl;exact ⟨o,e,hd⟩
  ·refine ⟨⟨o,I.kIn p o hk,hc⟩,fun a e=>?_⟩;cases e;exact ⟨o,I.kIn _ o hk,hd⟩
  ·have z:∃ o,s.heap.get? p=some o/\o.ExactDict:=by
    rcases hk with ⟨kvs,hk⟩ | ⟨kvs,hk⟩
    ·obtain ⟨_,_,_,_,o,_,_,e,ex,_⟩:=I.hok p _ hk;exact ⟨o,e,ex⟩
    ·obtain ⟨_,_,_,_,o,_,_,e,ex,_⟩:=I.hok p _ hk;exact ⟨o,e,ex⟩
   obtain ⟨o,e,ex⟩:=z;refine ⟨⟨o,e,ex.1⟩,fun a e2=>?_⟩;cases e2;exact ⟨o,e,ex.2.1⟩
  ·obtain ⟨o,_,_,_,e,ex,_⟩:=I.hok p _ hk;refine ⟨⟨o,e,ex.1⟩,fun a e2=>?_⟩;cases e2;exact ⟨o,e,ex.2.1⟩
 | _=>exact False.elim ty
noncomputable def tBM (K:Frag) (T:String) (r:V->List V->Hp->VK->Prop) (to:TE) (t:TA):TE:=fun σ H Q=>to σ H fun x H1=>tyV K T x H1/\t σ H1 fun xs H2=>r x xs H2 Q
variable {o e:Expr} {es:List Expr} {to:TE} {t:TA} {name:Str} {apos cpos:Pos} {T id:String} {r:V->List V->Hp->VK->Prop}
theorem ny (pa:PlainAttrs T) (slot:Slot T name id) (hty:typeOf (.builtin id)=pure (.type "method_descriptor")) (hm:MtR X id r) (ho:PE X o to) (ha:PA X (e::es) t)
  (hbase:attributeBase o name X.env (eval o X.env)=eval o X.env:=by rfl)
  (hfew:((backTo cpos (starEach (e::es) X.env)).all (fun x=>!x.1) && (backToKw cpos (keywordEach [] X.env)).all (fun x=>x.1.isSome)
   && decide ((e::es).length+([]:List Keyword).length+(if ([]:List Keyword).isEmpty then 0 else 1) < 30))=true:=by rfl)
  (hline:(apos.endLine == cpos.line)=true:=by rfl) (hs:starEach (e::es) X.env=(false,eval e X.env)::starEach es X.env:=by rfl) (hplain:(backTo cpos (starEach es X.env)).any (·.1)=false:=by rfl):
  PE X (.Call (.Attribute o name apos) (e::es) [] cpos) (tBM X.K T r to t):=by
 intro pins s σ H Q I h;refine wpAny_Call_method_late hbase hfew hline rfl (thn (ho pins s σ H _ I h) fun v s1 ⟨x,H1,I1,r1,ty,q1⟩=>?_);obtain ⟨h1,h2⟩:=AL I1 r1 ty;refine ⟨T,id,pa,slot,hty,h1,h2,?_⟩;have hA:=ha cpos pins s1 σ H1 _ I1 q1;rw [hs] at hA ⊢;refine Calls.callWith_builtin (by show (false || (backTo cpos (starEach es X.env)).any (·.1))=false; rw [hplain] <;> rfl) (Calls.evalArgs_plain ?_);exact thn hA fun us s2 ⟨vs,H2,I2,r2,q2⟩=>hm pins s2 σ H2 x vs v us Q I2 r1 r2 q2
end
def MtM (X:Cx) (id:String) (r:V->List V->Hp->VK->Prop):Prop:=
 ∀ (pins:List (Addr × Obj)) (s:Shared) (σ:St) (H:Hp) (x:V) (xs:List V) (v:Value) (us:List Value) (Q:VK),Inv X pins σ H s->RelV x v->Vals xs us->r x xs H Q ->
  wpAny (model X.prog X.w) X.A (call (.builtin id) (v::us)) (EP X pins σ Q) X.xe s
theorem Vals.one:∀ {x:V} {us:List Value},Vals [x] us->∃ u,us=[u]/\RelV x u
 | _,_,.cons r .nil=>⟨_,rfl,r⟩
theorem Vals.two:∀ {x y:V} {us:List Value},Vals [x,y] us->∃ u v,us=[u,v]/\RelV x u/\RelV y v
 | _,_,_,.cons r (.cons q .nil)=>⟨_,_,rfl,r,q⟩
theorem Vals.eraseIdx:∀ {xs:List V} {us:List Value} (i:Nat),Vals xs us->Vals (xs.eraseIdx i) (us.eraseIdx i)
 | _,_,_,.nil=>.nil
 | _,_,0,.cons _ t=>t
 | _,_,i+1,.cons r t=>.cons r (Vals.eraseIdx i t)
theorem Vals.rep {xs:List V} {us:List Value} (h:Vals xs us):∀ k:Nat,Vals (List.replicate k xs).flatten (List.replicate k us).flatten
 | 0=>.nil
 | k+1=>by
  rw [List.replicate_succ,List.replicate_succ,List.flatten_cons,List.flatten_cons];exact Vals.append h (Vals.rep h k)
theorem oK {α:Type}:∀ (l:List α) (i:Nat),(l.eraseIdx i).length<=l.length
 | [],_=>Nat.le_refl _
 | _::_,0=>Nat.le_succ _
 | _::r,i+1=>Nat.succ_le_succ (oK r i)
theorem o8 (its:List Value):∀ (k:Nat) (acc:List Value),
  List.foldl (fun x1 x2=>x1++x2) acc.toArray (List.replicate k its.toArray)=(acc++(List.replicate k its).flatten).toArray
 | 0,acc=>by simp
 | k+1,acc=>by
  have e:acc.toArray++its.toArray=(acc++its).toArray:=by simp
  have e2:(acc++its)++(List.replicate k its).flatten=acc++(List.replicate (k+1) its).flatten:=by
   rw [List.replicate_succ,List.flatten_cons,List.append_assoc]
  rw [<- e2,<- o8 its k (acc++its),<- e,List.replicate_succ,List.foldl_cons]
section
variable {X:Cx} {pins:List (Addr × Obj)} {σ:St} {H:Hp} {s:Shared} {l b:Addr} {xs ys zs:List V}
theorem Inv.lset {its its':List Value} {n:Nat} {f:Array Value->Array Value} {t':Nat} (I:Inv X pins σ H s) (hH:H l=some (.lst xs))
  (e:s.heap.get? l=some { cls:=.type "list",data:=.seq its.toArray n }) (hf:f its.toArray=its'.toArray) (hv:Vals ys its') (hz:ys.length<=sizeLine) (ht:0 < t':=by first | assumption | exact Nat.succ_pos _ | (apply Inv.tk; assumption) | omega):
  Inv X pins σ (upd H l (.lst ys)) { s with heap:=s.heap.update l (Obj.mapSeq f),toks:=t' }:=by
 have q:=PySem.IsL.update e f;rw [hf] at q;refine I.write (x:=l) (e:=l) (by rw [hH]; exact trivial) (.inl rfl) (fun b' u hb hu=>(Heap.get?_update_other s.heap (Obj.mapSeq f) (Ne.symm hb)).trans hu) ⟨_,q⟩ ?_;exact ⟨hz,its',_,hv,q⟩
theorem Inv.lnew {its:List Value} {t':Nat} (I:Inv X pins σ H s) (hv:Vals ys its) (hz:ys.length<=sizeLine) (ht:0 < t':=by first | assumption | exact Nat.succ_pos _ | (apply Inv.tk; assumption) | omega):
  Inv X pins σ (upd H s.heap.objs.size (.lst ys)) { s with heap:=s.heap.push { cls:=.type "list",data:=.seq its.toArray },toks:=t' }:=
 I.laid (fun _ _ q=>Heap.get?_push_of_some _ q) (Nat.le_refl _) ⟨hz,its,0,hv,Heap.get?_push_size _ rfl⟩
theorem Inv.fresh (I:Inv X pins σ H s):H s.heap.objs.size=none:=I.hok.fresh (Nat.le_refl _)
theorem Inv.lstM (I:Inv X pins σ H s) (hH:H l=some (.lst xs)):xs.length<=sizeLine/\∃ (its:List Value) (n:Nat),Vals xs its/\xs.length=its.length/\s.heap.get? l=some { cls:=.type "list",data:=.seq its.toArray n }:=by
 obtain ⟨z,its,n,r,e⟩:=I.hok l _ hH;exact ⟨z,its,n,r,r.length,e⟩
theorem notLongL {n:Nat} (h:n<=sizeLine):Builtin.List.listTooLong n=false:=by
 unfold Builtin.List.listTooLong;exact decide_eq_false (by omega)
end
section
variable {X:Cx}
noncomputable def rAppend:V->List V->Hp->VK->Prop:=fun x vs H Q=>∃ l xs y,x=.ref l/\vs=[y]/\H l=some (.lst xs)/\xs.length < sizeLine/\Q .non (upd H l (.lst (xs++[y])))
theorem li:MtM X "list.append" rAppend:=by
 intro pins s σ H x vs v us Q I rx rv h;obtain ⟨l,xs,y,rfl,rfl,hH,hz,q⟩:=h;cases rx;obtain ⟨u,rfl,ru⟩:=rv.one;obtain ⟨z,its,n,r,hl,e⟩:=I.lstM hH;refine call_meets F.slot_list_append ⟨_,e,rfl⟩ F.entry_list_append (F.args_list_append_2 _ _) (PySem.list_append l its.toArray n u (by rw [List.size_toArray]; omega)) ⟨e,?_⟩;refine ⟨.non,_,I.lset (its':=its++[u]) hH e (by simp) (r.append (.cons ru .nil)) ?_,rfl,q⟩;rw [List.length_append,List.length_singleton];omega
noncomputable def rExtend:V->List V->Hp->VK->Prop:=fun x vs H Q=>∃ l b xs zs,x=.ref l/\vs=[.ref b]/\H l=some (.lst xs)/\H b=some (.lst zs)/\xs.length+zs.length<=sizeLine/\Q .non (upd H l (.lst (xs++zs)))
theorem vJ:MtM X "list.extend" rExtend:=by
 intro pins s σ H x vs v us Q I rx rv h;obtain ⟨l,b,xs,zs,rfl,rfl,hH,hB,hz,q⟩:=h;cases rx;obtain ⟨u,rfl,ru⟩:=rv.one;cases ru;obtain ⟨z,its,n,r,hl,e⟩:=I.lstM hH;obtain ⟨z2,its2,n2,r2,hl2,e2⟩:=I.lstM hB;have hsz:its.toArray.size+its2.toArray.size<=sizeLine:=by rw [List.size_toArray,List.size_toArray]; omega
 have hlong:¬ (!its.toArray.isEmpty && Builtin.List.listTooLong (its.toArray.size+its2.toArray.size))=true:=by
  rw [notLongL hsz,Bool.and_false];exact Bool.false_ne_true
 refine call_meets F.slot_list_extend ⟨_,e,rfl⟩ F.entry_list_extend (F.args_list_extend_2 _ _)
  (AutoSeq1.list_extend_list_list_0 l its.toArray n b its2.toArray n2 hlong (by rw [List.size_toArray]; omega) (by omega)) ⟨e,e2,?_⟩
 refine ⟨.non,_,I.lset (its':=its++its2) hH e (by simp) (r.append r2) ?_,rfl,q⟩;rw [List.length_append];omega
noncomputable def rPopAt:V->List V->Hp->VK->Prop:=fun x vs H Q=>∃ l xs i k y,x=.ref l/\vs=[.int i]/\H l=some (.lst xs) /\ -(2 ^ 63)<=i/\i < 2 ^ 63/\seqIndex? i xs.length=some k/\xs[k]? = some y/\Q y (upd H l (.lst (xs.eraseIdx k)))
theorem w6:MtM X "list.pop" rPopAt:=by
 intro pins s σ H x vs v us Q I rx rv h;obtain ⟨l,xs,i,k,y,rfl,rfl,hH,h1,h2,hk,hy,q⟩:=h;cases rx;obtain ⟨u,rfl,ru⟩:=rv.one;obtain ⟨t,rfl⟩:=ru;obtain ⟨z,its,n,r,hl,e⟩:=I.lstM hH;obtain ⟨w,hw,rw'⟩:=r.get hy;refine call_meets F.slot_list_pop ⟨_,e,rfl⟩ F.entry_list_pop (F.args_list_pop_2 _ _)
  (MeetsSeq.list_pop_at l its.toArray n i t k w (fitsIndex_both h1 h2) (by rw [List.size_toArray,<- hl]; exact hk) (by rw [<- Array.getElem?_toList]; exact hw) (by rw [List.size_toArray]; omega)) ⟨e,?_⟩
 refine ⟨y,_,I.lset (its':=its.eraseIdx k) hH e ?_ (r.eraseIdx k) ?_,rw',q⟩
 ·show its.toArray.eraseIdxIfInBounds k=(its.eraseIdx k).toArray;rw [List.eraseIdxIfInBounds_toArray]
 ·have:=oK xs k;omega
noncomputable def rCat:R2:=fun x y H Q=>∃ l b xs zs,x=.ref l/\y=.ref b/\H l=some (.lst xs)/\H b=some (.lst zs)/\xs.length+zs.length<=sizeLine/\∀ p,H p=none->Q (.ref p) (upd H p (.lst (xs++zs)))
theorem AZ:OpR X (binaryOp .Add) rCat:=by
 intro pins s σ H x y v u Q I rx ry h;obtain ⟨l,b,xs,zs,rfl,rfl,hH,hB,hz,q⟩:=h;cases rx;cases ry;obtain ⟨z,its,n,r,hl,e⟩:=I.lstM hH;obtain ⟨z2,its2,n2,r2,hl2,e2⟩:=I.lstM hB;refine PySem.P.add_list e e2 ?_ (by rw [List.size_toArray,List.size_toArray]; omega);have ea:its.toArray++its2.toArray=(its++its2).toArray:=by simp
 rw [ea];exact ⟨.ref _,_,I.lnew (t':=s.toks) (r.append r2) (by rw [List.length_append]; omega),rfl,q _ I.fresh⟩
noncomputable def rRep:R2:=fun x y H Q=>∃ l k xs,x=.ref l/\y=.int k/\H l=some (.lst xs) /\ -(2 ^ 63)<=k/\k < 2 ^ 63/\xs.length*k.toNat<=sizeLine /\
 ∀ p,H p=none->Q (.ref p) (upd H p (.lst (List.replicate k.toNat xs).flatten))
theorem zd {α:Type} (xs:List α) (k:Nat):(List.replicate k xs).flatten.length=k*xs.length:=by
 induction k with
 | zero=>simp
 | succ k ih=>rw [List.replicate_succ,List.flatten_cons,List.length_append,ih,Nat.succ_mul,Nat.add_comm]
theorem wR:OpR X (binaryOp .Mult) rRep:=by
 intro pins s σ H x y v u Q I rx ry h;obtain ⟨l,k,xs,rfl,rfl,hH,h1,h2,hz,q⟩:=h;cases rx;obtain ⟨t,rfl⟩:=ry;obtain ⟨z,its,n,r,hl,e⟩:=I.lstM hH;have hlen:its.toArray.size*k.toNat<=sizeLine:=by rw [List.size_toArray,<- hl]; exact hz
 have hcap:¬ its.toArray.size*k.toNat > (2 ^ 63 - 1) / 8:=by
  have:(sizeLine:Nat)<=(2 ^ 63 - 1) / 8:=by decide
  omega
 have hfit:¬ (!Builtin.List.listFitsIndex k)=true:=by
  rw [fitsIndex_both h1 h2];exact Bool.false_ne_true
 have hlong:¬ Builtin.List.listTooLong (its.toArray.size*k.toNat)=true:=by
  rw [notLongL hlen];exact Bool.false_ne_true
 have hnew:List.foldl (fun x1 x2=>x1++x2) #[] (List.replicate (if its.toArray.isEmpty=true then 0 else k.toNat) its.toArray)=(List.replicate k.toNat its).flatten.toArray:=by
  have f0:∀ m:Nat,List.foldl (fun x1 x2=>x1++x2) #[] (List.replicate m its.toArray)=(List.replicate m its).flatten.toArray:=fun m=>by
   have:=o8 its m [];rw [List.nil_append] at this;exact this
  rw [f0];cases its with
  | nil=>simp
  | cons a r'=>rw [if_neg (by simp)]
 refine wpAny_binaryOp_repeat_ref (T := "list") (U := "int") (by decide) ⟨_,e,rfl⟩ (fun s'=>typeIs_int s' k t) noFill_list_mul F.fills_int_mul F.slot_int_rmul repeat_list F.slot_int_index.lookup
  (call_meets F.slot_int_rmul (typeIs_int s k t) F.entry_int_rmul (F.args_int_rmul_2 _ _) (int___rmul___int_list k t l its.toArray n)
   ⟨e,rfl,⟨_,e,rfl⟩,call_meets F.slot_list_mul ⟨_,e,rfl⟩ F.entry_list_mul (F.args_list_mul_2 _ _) (AutoListH.list___mul___list_int_3 l its.toArray n k t hfit hcap hlong) ⟨e,?_⟩⟩)
 rw [hnew];exact ⟨.ref _,_,I.lnew (t':=s.toks) (r.rep k.toNat) (by rw [zd,Nat.mul_comm]; exact hz),rfl,q _ I.fresh⟩
end
section
variable {prog:Program} {w:World} {A:Around} {E:Value->Shared->Prop} {s:Shared}
end
section
variable {X:Cx}
end
end L2
namespace Att
open PySem PySem.W PySem.Calls PyProof.Rows
theorem ma {P:Params} {h:Heap}:∀ (ns:List Int) (vs:List Value),WellAll P h vs (ns.map WData.int)->IntsAre vs ns:=by
 intro ns
 induction ns with
 | nil=>
  intro vs w;rw [List.map_nil] at w;cases w;exact .nil
 | cons n ns ih=>
  intro vs w;rw [List.map_cons] at w;cases w with
  | cons a b=>
   cases a;exact .cons _ _ (ih _ b)
theorem script_of {l:OpenLaw} {n:Nat} (hn:l.most=some n) {P:Params} {h:Heap} {args:List WData} {vals:List Value}
  (hpre:l.row.toRowW.claim.pre args=true) (hwl:WellAll P h vals args):
  ∃ a vs ns,vals=[Value.ref a]/\args=[WData.list (ns.map WData.int)]/\h.get? a=some { cls:=.type "list",data:=.seq vs.toArray }/\IntsAre vs ns/\ns.length<=n:=by
 have hsh:WShape.hasAll [] args [.list .int]=true:=(pre_splitW hpre).1;have hc:l.pre.holds [] { args:=args }=true:=(pre_splitW hpre).2;obtain ⟨d,r,rfl,h1,h2⟩:=hasAllW_cons hsh;obtain rfl:=hasAllW_nil h2;obtain ⟨xs,rfl,h3⟩:=hasW_list h1;obtain ⟨ns,rfl⟩:=items_int h3;have hlen:ns.length<=n:=by
  unfold OpenLaw.pre at hc;have h4:(WTm.not (.lt (.lit (.int (n:Int))) (.len (.arg 0)))).holds [] { args:=[.list (ns.map .int)] }=true:=by
   have h4:=(holds_andW hc).1;rw [hn] at h4;exact h4
  have h5:=condW_of h4 (w_not (w_lt w_lit (w_len_list (w_arg rfl))));rw [List.length_map] at h5;refine Nat.le_of_not_lt fun q=>?_
  have q':(n:Int) < ((ns.length:Nat):Int):=by omega
  first
   | (rw [decide_eq_true q'] at h5; exact absurd h5 (by decide))
   | (simp at h5; omega)
 cases hwl with
 | cons w1 w2=>
  cases w2;cases w1 with
  | list ho hall=>exact ⟨_,_,ns,rfl,rfl,ho,ma ns _ hall,hlen⟩
theorem post_true (l:OpenLaw) (args:List WData):l.row.toRowW.claim.post args (.bool true) args=true:=
 postW_of (r:=l.row.toRowW) (X:=(true == true))
  (show WShape.has [] (.bool true) .bool=true by first | rfl | decide | simp [WShape.has,WShape.arms,WShape.armsAll])
  (show (WTm.eq .res (.lit (.bool true))).value [] { args:=args,res:=some (.bool true),after:=args }=some (.bool (true == true)) from w_eq_bool (w_res rfl) w_lit) rfl
section
variable {prog:Program} {w:World} {A:Around} {E:Value->Shared->Prop} {s:Shared} {K:Frag}
end
end Att
namespace L2
open PySem PySem.Spec PyProof.Rows
theorem kT:∀ {vs:List Value} {ns:List Int},IntsAre vs ns->Vals (ns.map V.int) vs
 | _,_,.nil=>.nil
 | _,_,.cons n t h=>.cons ⟨t,rfl⟩ (kT h)
def Only (H:Hp):Prop:=∀ b,H b=none\/∃ o xs,H b=some (.frz o (.lst xs))
theorem xz {P:Program} {w:World} {K:Frag} {mg mb:Str->Option Value} {CX:CXT} {k:Nat} {fa a:Addr} {fd:FuncData} {x:Str} {sp:Sp} {s₁:Shared} {vs:List Value} {ns:List Int}
  (KX:K.In s₁.heap) (hns:s₁.heap.Ns mainGlobals mg) (hb:s₁.heap.Ns builtinsNs mb) (hbb:∀ x:Str,x ≠ "__name__" -> mb x=bootBuiltins x) (hlim:s₁.heap.NoLimit) (hg:s₁.gens=#[]) (htk:0 < s₁.toks)
  (ha:s₁.heap.get? a=some { cls:=.type "list",data:=.seq vs.toArray }) (hi:IntsAre vs ns) (hl:ns.length<=sizeLine) (hr:Room k callerA)
  (F:∀ base:Heap,K.In base->base.Ns mainGlobals mg->FnOk P w K mg base CX k fa fd [x] sp) (hbind:∀ (s:Shared) (u:Value),BindsTo s fd ⟨[u],[]⟩ [(x,u)])
  (hsp:∀ H:Hp,Only H->SqL K H a (ns.map V.int)->sp [.ref a] H (fun v _=>v=.bl true) fun _ _ _=>False)
  (hCX:∀ H e s',CX [] H s₁ (fun _ _ _=>False) e s'->False):
  codeAny (model P w) callerA (.call (.ref fa) ⟨[.ref a],[]⟩) (fun r s'=>r=.ok (.ret (.bool true))/\OldK s₁.heap s'.heap/\s'.os=s₁.os/\AllBare s'.gens) s₁:=by
 have rv:=kT hi;have lenV:=hi.length;have core:∀ H:Hp,Only H->SqL K H a (ns.map V.int)->HOk P w H s₁.heap->(∀ b,H b≠none->b=a)->(H a≠none->K.lookup a=none) ->
   codeAny (model P w) callerA (.call (.ref fa) ⟨[.ref a],[]⟩) (fun r s'=>r=.ok (.ret (.bool true))/\OldK s₁.heap s'.heap/\s'.os=s₁.os/\AllBare s'.gens) s₁:=by
  intro H hO hS hok hA hK;have base_of:∀ {b:Addr} {o:Obj},s₁.heap.get? b=some o->H b=none->(hidT s₁.heap H).get? b=some o:=fun e n=>xt e n
  have noA:∀ {b:Addr} {o:Obj} {es:Array DictEntry} {ep:Nat},s₁.heap.get? b=some o->o.data=.dict es ep->H b=none:=fun {b o es ep} e d=>by
   cases q:H b with
   | none=>rfl
   | some u=>
    have e':b=a:=hA b (by rw [q]; simp);subst e';rw [ha] at e; cases e;have d':Data.seq vs.toArray _=Data.dict es ep:=d;cases d'
  have nsK:∀ {b:Addr} {m:Str->Option Value},s₁.heap.Ns b m->(hidT s₁.heap H).Ns b m:=fun {b m} ⟨o,es,ep,e,d,r⟩=>⟨o,es,ep,base_of e (noA e d),d,r⟩
  have hKb:K.In (hidT s₁.heap H):=fun b o e=>base_of (KX b o e) (by
   cases q:H b with
   | none=>rfl
   | some u=>
    have e':b=a:=hA b (by rw [q]; simp);subst e';rw [hK (by rw [q]; simp)] at e; cases e)
  have hM:Mod K mg (hidT s₁.heap H):=⟨hKb,nsK hns,⟨mb,nsK hb,hbb⟩,let ⟨mc,h1,h2⟩:=hlim; ⟨mc,nsK h1,h2⟩⟩;have e0:Env0 P w K mg (hidT s₁.heap H) callerA [] s₁ H:=⟨rfl,hM,fun b o e=>zW e,Nat.le_of_eq (uZ _ _),trivial,fun b hb=>absurd (show b ∈ ([]:List Addr) from hb) (by simp),hok,.of_eq hg,htk⟩;refine codeAny_mono ((F _ hKb (nsK hns)).run callerA [] s₁ H ⟨[.ref a],[]⟩ [.ref a] [.ref a] _ _ hr e0 (hbind s₁ (.ref a)) (.cons rfl .nil) (hsp H hO hS)) fun r s' h=>?_
  cases r with
  | error e=>exact (hCX H e s' h).elim
  | ok fl=>
   cases fl with
   | next=>exact False.elim h
   | brk=>exact False.elim h
   | cont=>exact False.elim h
   | ret u=>
    obtain ⟨v,H',_,os,bare,un,hok',r',q⟩:=h;have q':v=.bl true:=q;subst q';obtain rfl:u=Value.bool true:=r';refine ⟨rfl,OldK.of_keep fun b o e=>?_,os,bare⟩;cases q:H b with
    | none=>exact un.keep b o e q (by intro z; exact absurd (show b ∈ ([]:List Addr) from z) (by simp)) (by simp)
    | some u=>
     rcases hO b with z | ⟨ob,xs,z⟩
     ·rw [q] at z; cases z
     ·have z2:=un.frzs b ob _ z;obtain ⟨e1,_⟩:=hok b _ z;obtain ⟨e2,_⟩:=hok' b _ z2;rw [e] at e1; cases e1;exact e2
 cases hk:K.lookup a with
 | some o=>
  have e:=KX a o hk;rw [ha] at e;cases e;refine core (fun _=>none) (fun _=>.inl rfl) (.inr ⟨_,vs.toArray,_,hk,rfl,rfl,rfl,by rw [List.size_toArray,lenV]; exact hl,by simpa using rv⟩) (fun b u z=>by have z':(none:Option HO)=some u:=z; cases z') (fun b z=>absurd rfl z) fun z=>absurd rfl z
 | none=>
  refine core (fun b=>if b=a then some (.frz { cls:=.type "list",data:=.seq vs.toArray } (.lst (ns.map V.int))) else none) (fun b=>?_) (.inl (.inr ⟨{ cls:=.type "list",data:=.seq vs.toArray },if_pos rfl⟩)) (fun b u z=>?_) (fun b z=>?_) fun _=>hk
  ·by_cases hb:b=a
   ·exact .inr ⟨_,_,if_pos hb⟩
   ·exact .inl (if_neg hb)
  ·by_cases hb:b=a
   ·have z':=(if_pos hb).symm.trans z;cases z';subst hb;exact ⟨ha,by rw [List.length_map]; exact hl,vs,_,rv,ha⟩
   ·have z':=(if_neg hb).symm.trans z;cases z'
  ·by_cases hb:b=a
   ·exact hb
   ·exact absurd (if_neg hb) z
noncomputable abbrev KOf {K:Frag} {h:Heap} (_:K.In h):Frag:=K
theorem qy {l:PySem.W.OpenLaw} {n:Nat} {q:Program} {loose:List Str} {XP:(Str->Option Value)->Heap->Prop} {α:Type} {Yf:Shared->α} {Ya:World->α} {d:DefRec}
  (hn:l.most=some n) (hdf:d.params.defaults=[])
  (call:∀ (w:World) (s₀ s₁:Shared) (mg mb:Str->Option Value) (fa a:Addr) (vs:List Value) (ns:List Int),
   PySem.W.Ground q loose [] XP w s₀ mg mb s₁.heap->Yf s₀ = Ya w->(∀ b o,s₀.heap.get? b=some o->s₁.heap.get? b=some o)->s₀.toks<=s₁.toks->mg d.name=some (.ref fa) ->
   s₁.heap.get? a=some { cls:=.type "list",data:=.seq vs.toArray }->IntsAre vs ns->ns.length<=n->s₁.gens=#[] ->
   codeAny (model l.prog w) callerA (.call (.ref fa) ⟨[.ref a],[]⟩) (fun r s'=>r=.ok (.ret (.bool true))/\OldK s₁.heap s'.heap/\s'.os=s₁.os/\AllBare s'.gens) s₁):
  PySem.W.WalkX q loose XP Yf Ya l.row.toRowW d [] (fun f vs=>PySem.call f vs):=by
 intro w s₀ s₁ mg mb G Y fa o pm cd doc dV kV ho hd hcd hD hmg hg args vals as L hpre hlay hrd hwl hlo;obtain ⟨a,vs,ns,rfl,rfl,hobj,hints,hlen⟩:=Att.script_of hn hpre hwl;have ht:s₀.toks<=s₁.toks:=by
  obtain ⟨ord,_,e⟩:=L.laid;exact (PySem.W.layAllW_grows _ _ _ e).toks
 refine PySem.W.enter_call (codeAny_mono (call w s₀ s₁ mg mb fa a vs ns G Y L.keeps ht hmg hobj hints hlen hg) fun r s' hq=>?_);obtain ⟨rfl,h2,h3,h4⟩:=hq;exact ⟨.inl ⟨.bool true,.bool true,[],rfl,fun _=>rfl,.bool true,Att.post_true l _,fun _=>⟨List.Pairwise.nil,fun _ hm=>(nomatch hm)⟩⟩,h2,h3,h4⟩
theorem walk_ofX {l:PySem.W.OpenLaw} {n k:Nat} {q:Program} {loose:List Str} {XP:(Str->Option Value)->Heap->Prop} {α:Type} {Yf:Shared->α} {Ya:World->α} {d:DefRec} {K:Params->Frag} {CX:World->CXT} {sp:World->Sp} {x:Str}
  (hn:l.most=some n) (hn2:n<=sizeLine) (hdf:d.params.defaults=[]) (hr:Room k callerA)
  (hY:∀ (w:World) (s:Shared),Yf s=Ya w->(K w.params).In s.heap/\0 < s.toks)
  (F:∀ (w:World) (mg:Str->Option Value) (fa:Addr) (h:Heap),(K w.params).In h->h.Ns mainGlobals mg->mg d.name=some (.ref fa) ->
   ∃ fd:FuncData,(∀ (s:Shared) (u:Value),BindsTo s fd ⟨[u],[]⟩ [(x,u)]) /\
    ∀ base:Heap,(K w.params).In base->base.Ns mainGlobals mg->FnOk l.prog w (K w.params) mg base (CX w) k fa fd [x] (sp w))
  (hsp:∀ (w:World) (H:Hp) (a:Addr) (ns:List Int),ns.length<=n->Only H->SqL (K w.params) H a (ns.map V.int)->sp w [.ref a] H (fun v _=>v=.bl true) fun _ _ _=>False)
  (hCX:∀ (w:World) (H:Hp) (s:Shared) (e:Value) (s':Shared),CX w [] H s (fun _ _ _=>False) e s'->False):
  PySem.W.WalkX q loose XP Yf Ya l.row.toRowW d [] (fun f vs=>PySem.call f vs):=by
 refine qy hn hdf fun w s₀ s₁ mg mb fa a vs ns G Y kp ht hmg hobj hints hlen hg=>?_
 obtain ⟨K0,t0⟩:=hY w s₀ Y;have KX:(K w.params).In s₁.heap:=fun b o e=>kp b o (K0 b o e)
 obtain ⟨fd,hb,hF⟩:=F w mg fa _ KX G.T.g hmg;exact xz KX G.T.g G.T.b G.T.builtins G.T.nolimit hg (Nat.lt_of_lt_of_le t0 ht) hobj hints (Nat.le_trans hlen hn2) hr hF hb (fun H hO hS=>hsp w H a ns hlen hO hS) fun H e s'=>hCX w H s₁ e s'
noncomputable def defArgs (s:Stmt):Arguments:=match s with
 | .FunctionDef _ a _ _ _ _ _ _ _ _=>a
 | _=>{ posonlyargs:=[],args:=[],vararg:=none,kwonlyargs:=[],kw_defaults:=[],kwarg:=none,defaults:=[] }
noncomputable def defBody (s:Stmt):List Stmt:=match s with
 | .FunctionDef _ _ b _ _ _ _ _ _ _=>b
 | _=>[]
noncomputable def defScope (s:Stmt):Scope:=match s with
 | .FunctionDef _ _ _ _ _ _ sc _ _ _=>sc
 | _=>{ kind:=.function,names:=[],isGenerator:=false,isCoroutine:=false }
noncomputable abbrev CX0:CXT:=fun _ _ _ _ _ _=>False
noncomputable abbrev E0:XK:=fun _ _ _=>False
theorem pass0 {X:Cx}:Passes CX0 X E0:=fun _ _ _ _ _ _ _ h=>h.elim
structure Fun (K:Frag) (x qual:Str) (st:Stmt) (f:Addr) (fd:FuncData):Prop where
 ex:∃ (oc:Value) (od:Option Addr) (kV doc pm:Value) (an:Option Addr) (cdv ct:Value) (osl:Array (Option Value)),
  fd=fnOf x qual (defArgs st) (defBody st) (defScope st) .none kV doc pm an cdv ct/\K.lookup f=some ⟨oc,od,.func fd,osl⟩/\codeIn K cdv qual=true
 kp:keepIn K (.ref f)=true
section
variable {P:Program} {w:World} {K:Frag} {mg:Str->Option Value} {base:Heap}
theorem Fun.ok {x qual:Str} {st:Stmt} {f:Addr} {fd:FuncData} {N ps:List Str} {k:Nat} {sp:Sp} (F:Fun K x qual st f fd) (S:FnScope N ps (defScope st)) (len:∀ vs H Q E,sp vs H Q E->vs.length=ps.length)
  (hbody:∀ (cdv:Value) (A:Around) (outer:List Env) (s:Shared) (H:Hp) (vs:List V) (Q:VK) (E:XK),Room k (A.deeper (envOfC qual (defScope st) s.heap.objs.size f cdv))->sp vs H Q E ->
   ∃ t,PSs (cxOf CX0 P w K mg base N qual (defScope st) f cdv A outer s H E).nox (defBody st) t/\t { nx:=fun _ H'=>Q .non H',rt:=Q } (start N vs) H):FnOk P w K mg base CX0 (k+1) f fd ps sp:=by
 obtain ⟨oc,od,kV,doc,pm,an,cdv,ct,osl,rfl,lk,hcd⟩:=F.ex;refine zY lk hcd S len fun A outer s H vs Q E hr hsp=>?_
 obtain ⟨t,h,q⟩:=hbody cdv A outer s H vs Q E hr hsp;exact ⟨t,h.nox,q⟩
theorem Fun.binds {x qual:Str} {st:Stmt} {f:Addr} {fd:FuncData} {ps:List Str} (F:Fun K x qual st f fd)
  (h:∀ (kV doc pm:Value) (an:Option Addr) (cdv ct:Value) (us:List Value),us.length=ps.length->bindArgs (fnOf x qual (defArgs st) (defBody st) (defScope st) .none kV doc pm an cdv ct) ⟨us,[]⟩=pure (ps.zip us)):Binds K fd ps []:=by
 obtain ⟨oc,od,kV,doc,pm,an,cdv,ct,osl,rfl,lk,hcd⟩:=F.ex;exact .all (h kV doc pm an cdv ct)
theorem Ba {x qual:Str} {st:Stmt} {f:Addr} {oc:Value} {od an:Option Addr} {osl:Array (Option Value)} {kV doc pm cdv ct:Value} (l:K.lookup f=some ⟨oc,od,.func (fnOf x qual (defArgs st) (defBody st) (defScope st) .none kV doc pm an cdv ct),osl⟩)
  (c:codeIn K cdv qual=true) (k:keepIn K (.ref f)=true):Fun K x qual st f (fnOf x qual (defArgs st) (defBody st) (defScope st) .none kV doc pm an cdv ct):=⟨⟨oc,od,kV,doc,pm,an,cdv,ct,osl,rfl,l,c⟩,k⟩
end
theorem mR {A:Around} {k:Nat} (hr:Room k A):A.units+1 < cLine:=Nat.lt_of_le_of_lt (Nat.add_le_add_left (by decide:1<=64) _) hr.units
section
variable {X:Cx}
theorem pv (i:Nat) {x:Str} {pos:Pos} (hN:X.N[i]? = some x:=by rfl) (hv:Vis X.env.scope x:=by first | exact Or.inl rfl | exact Or.inr (Or.inl rfl) | exact Or.inr (Or.inr rfl)) (hd:(x == ("__debug__" : Str))=false:=by decide)
  (hcd:(x == ("__classdict__" : Str))=false:=by decide):PE X (.Name x pos) (tVar i):=xi hN hv hd hcd
end
theorem ite2 {c A B:Prop} [Decidable c] (h1:c->A) (h2:¬ c->B):if c then A else B:=by
 by_cases h:c
 ·rw [if_pos h];exact h1 h
 ·rw [if_neg h];exact h2 h
def Same (H H':Hp):Prop:=∀ b o,H b=some o->H' b=some o
theorem Same.refl (H:Hp):Same H H:=fun _ _ h=>h
theorem Same.trans {H H1 H2:Hp} (a:Same H H1) (b:Same H1 H2):Same H H2:=fun c o h=>b c o (a c o h)
theorem Same.free {H H':Hp} (e:Same H H') {l:Addr} (h:H' l=Option.none):H l=Option.none:=by
 cases q:H l with
 | none=>rfl
 | some o=>
  rw [e l o q] at h;cases h
theorem Same.seq {K:Frag} {H H':Hp} {a:Addr} {xs:List V} (e:Same H H') (h:SqL K H a xs):SqL K H' a xs:=by
 rcases h with (h | ⟨o,h⟩) | h
 ·exact .inl (.inl (e _ _ h))
 ·exact .inl (.inr ⟨o,e _ _ h⟩)
 ·exact .inr h
section
variable {X:Cx} {pins:List (Addr × Obj)} {σ:St} {H H':Hp} {s:Shared} {h':Heap}
theorem Inv.turnedL {t':Nat} {its:List Addr} (I:Inv X pins σ H s) (k:∀ b o,b ∉ its->s.heap.get? b=some o->h'.get? b=some o) (hf:∀ b ∈ its,FpOk X pins H b) (ht:0 < t':=by first | assumption | exact Nat.succ_pos _ | (apply Inv.tk; assumption) | omega):Inv X pins σ H { s with heap:=h',toks:=t' }:=by
 have nit:∀ b u,H b=some u->b ∉ its:=fun b u e z=>by
  have q:=(hf b z).1;rw [q] at e;cases e
 refine I.step (g':=s.gens) (d':=s.drawn) (ch:=its) (fun b hb=>?_) (fun b o _ _ hc e _=>k b o hc e) (fun b o _ _ hc e _=>⟨o.slots,k b o hc e⟩) (fun _ _ _ _ n=>n)
  (fun b o hc e=>⟨o,k b o hc e⟩) (fun _ _ e=>e) (fun _ _ _ e=>e) (fun b ps e=>⟨#[],by rw [e]; simp⟩) (fun m hm=>?_) (fun b u e=>?_) I.bare
 ·obtain ⟨f0,f1,f2,f3,f4,f5⟩:=hf b hb;exact ⟨f3,f1,f4,f5⟩
 ·obtain ⟨o,es,ep,ho,r⟩:=hm;exact ⟨o,es,ep,k _ o (fun z=>(hf _ z).2.1 rfl) ho,r⟩
 ·refine (I.hok b u e).stay (fun c v hc q=>k c v ?_ q) (fun _ q=>q) fun _ _ q=>q
  rcases hc with z | z
  ·rw [z]; exact nit b u e
  ·exact nit c _ z
end
theorem tY (x:Str):["enumerate", "zip", "dict_itemiterator", "dict_reverseitemiterator", "odict_iterator", "itertools.zip_longest", "itertools.pairwise"].contains (strIterType x)=false:=by
 unfold strIterType;split <;> decide
section
variable {prog:Program} {w:World} {A:Around} {E:Value->Shared->Prop} {s:Shared}
theorem bi (x:Str):strIterType x = "str_ascii_iterator" \/ strIterType x = "str_iterator" := by
 unfold strIterType;split
 ·exact .inl rfl
 ·exact .inr rfl
theorem oy {it:Addr} {x:Str} {t:Tok} {i c:Nat} {Q:Option Value->Shared->Prop} (hit:s.heap.IsStrIter it (strIterType x) x t i) (hx:x.cps[i]? = some c)
  (hQ:∀ h',h'.IsStrIter it (strIterType x) x t (i+1)->Heap.SameBut it s.heap h'->Q (some (.str ⟨#[c]⟩ s.toks)) { s with heap:=h',toks:=s.toks+1 }):
  wpAny (model prog w) A (pyNext (.ref it)) Q E s:=by
 rcases bi x with e | e
 ·rw [e] at hit;simp only [e] at hQ;exact wpAny_pyNext_ascii_item hit hx hQ
 ·rw [e] at hit;simp only [e] at hQ;exact wpAny_pyNext_wide_item hit hx hQ
theorem pZ {it:Addr} {x:Str} {t:Tok} {i:Nat} {Q:Option Value->Shared->Prop} (hh:A.handled=none) (hit:s.heap.IsStrIter it (strIterType x) x t i) (hx:x.cps[i]? = none)
  (hQ:∀ h',Heap.ExtBut it s.heap h'->Q none { s with heap:=h' }):wpAny (model prog w) A (pyNext (.ref it)) Q E s:=by
 rcases bi x with e | e
 ·rw [e] at hit;exact wpAny_pyNext_ascii_end hh hit hx hQ
 ·rw [e] at hit;exact wpAny_pyNext_wide_end hh hit hx hQ
theorem nX {it:Addr} {x:Str} {t:Tok} {i:Nat} {Q:Value->Shared->Prop} (hit:s.heap.IsStrIter it (strIterType x) x t i) (h:Q (.ref it) s):wpAny (model prog w) A (pyIter (.ref it)) Q E s:=by
 rcases bi x with e | e
 ·rw [e] at hit;exact wpAny_pyIter_striter_ascii hit h
 ·rw [e] at hit;exact wpAny_pyIter_striter_wide hit h
theorem lV {it:Addr} {x:Str} {t:Tok} {i c:Nat} {Q:Value->Shared->Prop} (hit:s.heap.IsStrIter it (strIterType x) x t i) (hx:x.cps[i]? = some c)
  (hQ:∀ h',h'.IsStrIter it (strIterType x) x t (i+1)->Heap.SameBut it s.heap h'->Q (.str ⟨#[c]⟩ s.toks) { s with heap:=h',toks:=s.toks+1 }):
  wpAny (model prog w) A (Builtin.SmallTypes.nextOf (.ref it)) Q E s:=by
 rcases bi x with e | e
 ·rw [e] at hit;simp only [e] at hQ;exact wpAny_nextOf_ascii_item hit hx hQ
 ·rw [e] at hit;simp only [e] at hQ;exact wpAny_nextOf_wide_item hit hx hQ
theorem mH {it:Addr} {x:Str} {t:Tok} {i:Nat} {Q:Value->Shared->Prop} (hh:A.handled=none) (hit:s.heap.IsStrIter it (strIterType x) x t i) (hx:x.cps[i]? = none)
  (hE:∀ h' e,Heap.ExtBut it s.heap h'->(∃ o,h'.get? e=some o/\o.cls=.type "StopIteration")->E (.ref e) { s with heap:=h' }):wpAny (model prog w) A (Builtin.SmallTypes.nextOf (.ref it)) Q E s:=by
 rcases bi x with e | e
 ·rw [e] at hit;exact wpAny_nextOf_ascii_end hh hit hx hE
 ·rw [e] at hit;exact wpAny_nextOf_wide_end hh hit hx hE
end
noncomputable def Its (x:Str):It:=⟨fun i _=>i < x.cps.size,fun i H v H'=>H'=H/\∃ c,x.cps[i]? = some c/\v=.str ⟨#[c]⟩,fun i _=>x.cps.size<=i⟩
theorem rH {h:Heap} {it:Addr} {ty:String} {x:Str} {t:Tok} {i:Nat} (st:h.IsStrIter it ty x t i):∃ o,h.get? it=some o/\∀ v,o.data≠.cell v:=by
 obtain ⟨o,e,c,d⟩:=st;exact ⟨o,e,fun v z=>by rw [d] at z; cases z⟩
theorem wG {P:Program} {w:World} {K:Frag} {tg:Expr} (x:Str) (t:Tok) (it:Addr):Turn P w K tg (Its x) [it] it (fun i h=>h.IsStrIter it (strIterType x) x t i) where
 mem:=by simp
 obj:=fun i h st b hb=>by
  have e:b=it:=by simpa using hb
  subst e;exact rH st
 keep:=fun i h h' st k=>by
  obtain ⟨o,e,r⟩:=st;exact ⟨o,k it (by simp) o e,r⟩
 item:=by
  intro X hP hw hK hc i pins s σ H E I hf st hg;subst hP hw hK;have hi:i < x.cps.size:=hg;refine oy st (c:=x.cps[i]) (by simp [hi]) fun h' st' sb=>?_
  have I1:Inv X pins σ H { s with heap:=h',toks:=s.toks+1 }:=I.turnedL (its:=[it]) (fun b o hb e=>(sb.2 b (by simpa using hb)).trans e) hf;obtain ⟨o,e,c,d⟩:=id st';exact ⟨_,rfl,uE (s:={ s with heap:=h',toks:=s.toks+1 }) e c d (tY x) ⟨.str ⟨#[x.cps[i]]⟩,H,I1,⟨_,rfl⟩,⟨rfl,_,by simp [hi],rfl⟩,st',fun b hb=>(hf b hb).1⟩⟩
 done:=by
  intro X hP hw hK hc i pins s σ H E I hf st hg;subst hP hw hK;have hi:x.cps.size<=i:=hg;exact pZ (I.ok.hd hc) st (by simp [hi]) fun h' eb=>⟨rfl,I.turnedL (t':=s.toks) (its:=[it]) (fun b o hb e=>eb b o (by simpa using hb) e) hf⟩
 self:=fun _ _ _ _ _ st h=>nX st h
section
variable {X:Cx} {tg e:Expr} {te:TE}
end
theorem tN {J:It} {n:Nat} {g:TG} {tb:TS} {D:Ends} {σ:St} {H:Hp} (Pv:Nat->St->Hp->Prop) (h0:Pv 0 σ H) (hgo:∀ i σ H,i < n->Pv i σ H->J.go i H) (hst:∀ σ H,Pv n σ H->J.stop n H)
  (hs:∀ i σ H x H',i < n->Pv i σ H->J.yld i H x H'->g x σ H' fun σ2 H2=>tb { D with nx:=Pv (i+1),ct:=Pv (i+1),bk:=D.nx } σ2 H2) (hd:∀ σ H,Pv n σ H->D.nx σ H):
  ∃ W:Nat->Nat->St->Hp->Prop,(∃ m,W 0 m σ H)/\∀ i m σ H,W i m σ H ->
   (J.stop i H/\D.nx σ H)\/(J.go i H/\∃ N:St->Hp->Prop,(∀ σ' H',N σ' H'->∃ m',m' < m/\W (i+1) m' σ' H')/\∀ x H',J.yld i H x H'->g x σ H' fun σ2 H2=>tb { D with nx:=N,ct:=N,bk:=D.nx } σ2 H2):=by
 refine ⟨fun i m σ H=>m=n - i/\i<=n/\Pv i σ H,⟨n,by simp,Nat.zero_le _,h0⟩,?_⟩;rintro i m σ H ⟨rfl,hi,p⟩;by_cases hlt:i < n
 ·exact .inr ⟨hgo i σ H hlt p,Pv (i+1),fun σ' H' p'=>⟨n - (i+1),by omega,rfl,hlt,p'⟩,fun x H' y=>hs i σ H x H' hlt p y⟩
 ·have e:i=n:=by omega
  subst e;exact .inl ⟨hst σ H p,hd σ H p⟩
structure Nx (prog:Program) (w:World) (A:Around) (it:Addr) (f:List Addr) (Sa Sb:Heap->Prop) (P:Value->Prop):Prop where
 fra:∀ h h',Sa h->(∀ b ∈ f,∀ o,h.get? b=some o->h'.get? b=some o)->Sa h'
 frb:∀ h h',Sb h->(∀ b ∈ f,∀ o,h.get? b=some o->h'.get? b=some o)->Sb h'
 step:∀ (s:Shared) (Q:Value->Shared->Prop) (E:Value->Shared->Prop),Sa s.heap->(∀ x h' tk,P x->Sb h'->Heap.SameBut it s.heap h'->Q x { s with heap:=h',toks:=tk })->wpAny (model prog w) A (Builtin.SmallTypes.nextOf (.ref it)) Q E s
structure Nd (prog:Program) (w:World) (A:Around) (it:Addr) (f:List Addr) (Sa:Heap->Prop):Prop where
 fra:∀ h h',Sa h->(∀ b ∈ f,∀ o,h.get? b=some o->h'.get? b=some o)->Sa h'
 step:∀ (s:Shared) (Q:Value->Shared->Prop) (E:Value->Shared->Prop),Sa s.heap->(∀ h' e,Heap.ExtBut it s.heap h'->(∃ o,h'.get? e=some o/\o.cls=.type "StopIteration")->E (.ref e) { s with heap:=h' })->wpAny (model prog w) A (Builtin.SmallTypes.nextOf (.ref it)) Q E s
structure ZAp (z TI TO i1 i2:Addr):Prop where
 TIz:TI≠z
 TOz:TO≠z
 i1z:i1≠z
 i2z:i2≠z
 TITO:TI≠TO
 TIi1:TI≠i1
 TIi2:TI≠i2
 TOi1:TO≠i1
 TOi2:TO≠i2
 i12:i1≠i2
section
variable {prog:Program} {w:World} {A:Around} {E:Value->Shared->Prop} {s:Shared}
theorem i7 {z TI TO i1 i2:Addr} {f1 f2:List Addr} {Sa Sb Sc Sd:Heap->Prop} {P1 P2:Value->Prop} {a b:Value} {Q:Value->Shared->Prop} (D:ZAp z TI TO i1 i2)
  (n1:Nx prog w A i1 f1 Sa Sb P1) (n2:Nx prog w A i2 f2 Sc Sd P2) (hf1:∀ c ∈ f1,c≠z/\c≠TO/\c≠i2) (hf2:∀ c ∈ f2,c≠z/\c≠TO/\c≠i1)
  (hz:IsZip s.heap z TI TO .none) (hTI:IsPair s.heap TI (.ref i1) (.ref i2)) (hTO:IsPair s.heap TO a b) (h1:Sa s.heap) (h2:Sc s.heap)
  (hQ:∀ x y h' tk,P1 x->P2 y->IsZip h' z TI TO (rawInt s.heap.objs.size)->IsPair h' TO x y->Sb h'->Sd h'->IsPair h' s.heap.objs.size x y->h'.objs.size=s.heap.objs.size+1 ->
   (∀ c o,c≠z->c≠TO->c≠i1->c≠i2->s.heap.get? c=some o->h'.get? c=some o)->Q (.ref s.heap.objs.size) { s with heap:=h',toks:=tk }):
  wpAny (model prog w) A (Builtin.«zip.__next__» ⟨[.ref z],[]⟩) (fun fin s'=>∃ v,fin=.done (.ret v)/\Q v s') E s:=by
 obtain ⟨hp,gs,dr,k0,os⟩:=s;refine wpAny_bind (m:=slotArgs "__next__" 0 _) (wpAny_of_eq (a:=(Value.ref _,[])) rfl ?_);refine wpAny_bind (m:=field _ 2) (wpAny_field hz rfl (x:=Value.bool false) rfl (wpAny_bind (m:=field _ 3) (wpAny_field hz rfl (x:=Value.ref TI) rfl (wpAny_bind (m:=seqItems? _) (wpAny_seqItems hTI rfl ?_)))));refine wpAny_bind (m:=Builtin.SmallTypes.ownedTupleIsFree _) (wpAny_bind (wpAny_field hz rfl (x:=Value.none) rfl (wpAny_pure ?_)));refine wpAny_bind (wpAny_rule (wpAny_bind (wpAny_field hz rfl (x:=Value.ref TO) rfl (wpAny_bind (wpAny_setField_rec hz (by simp) fun g1 zg sg=>wpAny_bind ?_)))));simp only [List.zipIdx_cons,List.zipIdx_nil,List.forIn_cons,List.forIn_nil];have zg:IsZip g1 z TI TO .ellipsis:=zg;have sg:Heap.SameBut z hp g1:=sg;refine wpAny_bind (wpAny_bind (wpAny_onRaise (wpAny_bind (m:=Builtin.SmallTypes.nextOf (.ref i1)) (n1.step _ _ _ (n1.fra hp g1 h1 fun c hc o=>sg.extBut _ _ (hf1 c hc).1) fun x g2 k1 p1 b2 t2=>wpAny_pure ?_))));have t2:Heap.SameBut i1 g1 g2:=t2;have o2:IsPair g2 TO a b:=t2.extBut _ _ D.TOi1 (sg.extBut _ _ D.TOz hTO);refine wpAny_bind (wpAny_seqItems o2 rfl (wpAny_bind (wpAny_updateSeq_pair o2 fun g3 o3 t3=>wpAny_bind (wpAny_letGo (wpAny_pure ?_)))));have o3:IsPair g3 TO x b:=o3;have t3:Heap.SameBut TO g2 g3:=t3;have to3:∀ c o,c≠z->c≠TO->c≠i1->hp.get? c=some o->g3.get? c=some o:=fun c o e1 e2 e3 q=>t3.extBut _ _ e2 (t2.extBut _ _ e3 (sg.extBut _ _ e1 q))
 refine wpAny_bind (wpAny_bind (wpAny_onRaise (wpAny_bind (m:=Builtin.SmallTypes.nextOf (.ref i2)) (n2.step _ _ _ (n2.fra hp g3 h2 fun c hc o=>to3 c o (hf2 c hc).1 (hf2 c hc).2.1 (hf2 c hc).2.2) fun y g4 k2 p2 b4 t4=>wpAny_pure ?_))));have t4:Heap.SameBut i2 g3 g4:=t4;have o4:IsPair g4 TO x b:=t4.extBut _ _ D.TOi2 o3;refine wpAny_bind (wpAny_seqItems o4 rfl (wpAny_bind (wpAny_updateSeq_pair o4 fun g5 o5 t5=>wpAny_bind (wpAny_letGo (wpAny_pure (wpAny_pure ?_))))));have o5:IsPair g5 TO x y:=o5;have t5:Heap.SameBut TO g4 g5:=t5;have size5:g5.objs.size=hp.objs.size:=t5.1.trans (t4.1.trans (t3.1.trans (t2.1.trans sg.1)));have z5:IsZip g5 z TI TO .ellipsis:=t5.extBut _ _ D.TOz.symm (t4.extBut _ _ D.i2z.symm (t3.extBut _ _ D.TOz.symm (t2.extBut _ _ D.i1z.symm zg)));have zlt:z < g5.objs.size:=Heap.lt_size z5;refine wpAny_bind (wpAny_seqItems o5 rfl (wpAny_bind (wpAny_newTuple (wpAny_bind (m:=Builtin.SmallTypes.ownedTupleHandOut _ _) ?_))));refine wpAny_bind (wpAny_setField_rec (Heap.get?_push_of_some _ z5) (by simp) fun g6 z6 t6=>wpAny_setField_rec z6 (by simp) fun g7 z7 t7=>wpAny_pure ⟨_,rfl,?_⟩);have t6:Heap.SameBut z (g5.push { cls:=.type "tuple",data:=.seq #[x,y] }) g6:=t6;have t7:Heap.SameBut z g6 g7:=t7;have z7:IsZip g7 z TI TO (rawInt g5.objs.size):=z7;have over:∀ c o,c≠z->g5.get? c=some o->g7.get? c=some o:=fun c o e q=>t7.extBut _ _ e (t6.extBut _ _ e (Heap.get?_push_of_some _ q))
 have pair7:IsPair g7 g5.objs.size x y:=t7.extBut _ _ (Nat.ne_of_gt zlt) (t6.extBut _ _ (Nat.ne_of_gt zlt) (Heap.get?_push_size _ rfl));have size7:g7.objs.size=g5.objs.size+1:=t7.1.trans (t6.1.trans (Heap.size_push ..));show Q (.ref g5.objs.size) _;rw [size5] at z7 pair7 size7 ⊢;refine hQ x y g7 k2 p1 p2 z7 (over _ _ D.TOz o5) (n1.frb g2 g7 b2 fun c hc o q=>?_) (n2.frb g4 g7 b4 fun c hc o q=>?_) pair7 size7 fun c o e1 e2 e3 e4 q=>over c o e1 (t5.extBut _ _ e2 (t4.extBut _ _ e4 (to3 c o e1 e2 e3 q)))
 ·obtain ⟨e1,e2,e3⟩:=hf1 c hc;exact over c o e1 (t5.extBut _ _ e2 (t4.extBut _ _ e3 (t3.extBut _ _ e2 q)))
 ·obtain ⟨e1,e2,_⟩:=hf2 c hc;exact over c o e1 (t5.extBut _ _ e2 q)
theorem jE {z TI TO i1 i2:Addr} {f1:List Addr} {Sa:Heap->Prop} {Q:Fin->Shared->Prop} (D:ZAp z TI TO i1 i2)
  (n1:Nd prog w A i1 f1 Sa) (hf1:∀ c ∈ f1,c≠z/\c≠TO/\c≠i2)
  (hz:IsZip s.heap z TI TO .none) (hTI:IsPair s.heap TI (.ref i1) (.ref i2)) (h1:Sa s.heap)
  (hE:∀ h' e tk,(∀ c o,c≠z->c≠TO->c≠i1->c≠i2->s.heap.get? c=some o->h'.get? c=some o)->(∃ o,h'.get? e=some o/\o.cls=.type "StopIteration")->E (.ref e) { s with heap:=h',toks:=tk }):
  wpAny (model prog w) A (Builtin.«zip.__next__» ⟨[.ref z],[]⟩) Q E s:=by
 obtain ⟨hp,gs,dr,k0,os⟩:=s;refine wpAny_bind (m:=slotArgs "__next__" 0 _) (wpAny_of_eq (a:=(Value.ref _,[])) rfl ?_);refine wpAny_bind (m:=field _ 2) (wpAny_field hz rfl (x:=Value.bool false) rfl (wpAny_bind (m:=field _ 3) (wpAny_field hz rfl (x:=Value.ref TI) rfl (wpAny_bind (m:=seqItems? _) (wpAny_seqItems hTI rfl ?_)))));refine wpAny_bind (m:=Builtin.SmallTypes.ownedTupleIsFree _) (wpAny_bind (wpAny_field hz rfl (x:=Value.none) rfl (wpAny_pure ?_)));refine wpAny_bind (wpAny_rule (wpAny_bind (wpAny_field hz rfl (x:=Value.ref TO) rfl (wpAny_bind (wpAny_setField_rec hz (by simp) fun g1 zg sg=>wpAny_bind ?_)))));simp only [List.zipIdx_cons,List.zipIdx_nil,List.forIn_cons,List.forIn_nil];have zg:IsZip g1 z TI TO .ellipsis:=zg;have sg:Heap.SameBut z hp g1:=sg;refine wpAny_bind (wpAny_bind (wpAny_onRaise (wpAny_bind (m:=Builtin.SmallTypes.nextOf (.ref i1)) (n1.step _ _ _ (n1.fra hp g1 h1 fun c hc o=>sg.extBut _ _ (hf1 c hc).1) fun g2 e t2 ⟨oe,qe,ce⟩=>?_))));have t2:Heap.ExtBut i1 g1 g2:=t2;have z2:IsZip g2 z TI TO .ellipsis:=t2 _ _ D.i1z.symm zg;have ne:e≠z:=fun q=>by subst q; rw [z2] at qe; cases qe; simp at ce
 refine wpAny_setField_rec z2 (by simp) fun g3 _ t3=>?_
 have t3:Heap.SameBut z g2 g3:=t3;exact hE g3 e k0 (fun c o e1 _ e3 _ q=>t3.extBut _ _ e1 (t2 _ _ e3 (sg.extBut _ _ e1 q))) ⟨oe,t3.extBut _ _ ne qe,ce⟩
theorem jD {z TI TO i1 i2:Addr} {f1 f2:List Addr} {Sa Sb Sc:Heap->Prop} {P1:Value->Prop} {a b:Value} {Q:Fin->Shared->Prop} (D:ZAp z TI TO i1 i2)
  (n1:Nx prog w A i1 f1 Sa Sb P1) (n2:Nd prog w A i2 f2 Sc) (hf1:∀ c ∈ f1,c≠z/\c≠TO/\c≠i2) (hf2:∀ c ∈ f2,c≠z/\c≠TO/\c≠i1)
  (hz:IsZip s.heap z TI TO .none) (hTI:IsPair s.heap TI (.ref i1) (.ref i2)) (hTO:IsPair s.heap TO a b) (h1:Sa s.heap) (h2:Sc s.heap)
  (hE:∀ h' e tk,(∀ c o,c≠z->c≠TO->c≠i1->c≠i2->s.heap.get? c=some o->h'.get? c=some o)->(∃ o,h'.get? e=some o/\o.cls=.type "StopIteration")->E (.ref e) { s with heap:=h',toks:=tk }):
  wpAny (model prog w) A (Builtin.«zip.__next__» ⟨[.ref z],[]⟩) Q E s:=by
 obtain ⟨hp,gs,dr,k0,os⟩:=s;refine wpAny_bind (m:=slotArgs "__next__" 0 _) (wpAny_of_eq (a:=(Value.ref _,[])) rfl ?_);refine wpAny_bind (m:=field _ 2) (wpAny_field hz rfl (x:=Value.bool false) rfl (wpAny_bind (m:=field _ 3) (wpAny_field hz rfl (x:=Value.ref TI) rfl (wpAny_bind (m:=seqItems? _) (wpAny_seqItems hTI rfl ?_)))));refine wpAny_bind (m:=Builtin.SmallTypes.ownedTupleIsFree _) (wpAny_bind (wpAny_field hz rfl (x:=Value.none) rfl (wpAny_pure ?_)));refine wpAny_bind (wpAny_rule (wpAny_bind (wpAny_field hz rfl (x:=Value.ref TO) rfl (wpAny_bind (wpAny_setField_rec hz (by simp) fun g1 zg sg=>wpAny_bind ?_)))));simp only [List.zipIdx_cons,List.zipIdx_nil,List.forIn_cons,List.forIn_nil];have zg:IsZip g1 z TI TO .ellipsis:=zg;have sg:Heap.SameBut z hp g1:=sg;refine wpAny_bind (wpAny_bind (wpAny_onRaise (wpAny_bind (m:=Builtin.SmallTypes.nextOf (.ref i1)) (n1.step _ _ _ (n1.fra hp g1 h1 fun c hc o=>sg.extBut _ _ (hf1 c hc).1) fun x g2 k1 p1 b2 t2=>wpAny_pure ?_))));have t2:Heap.SameBut i1 g1 g2:=t2;have o2:IsPair g2 TO a b:=t2.extBut _ _ D.TOi1 (sg.extBut _ _ D.TOz hTO);refine wpAny_bind (wpAny_seqItems o2 rfl (wpAny_bind (wpAny_updateSeq_pair o2 fun g3 _ t3=>wpAny_bind (wpAny_letGo (wpAny_pure ?_)))));have t3:Heap.SameBut TO g2 g3:=t3;have to3:∀ c o,c≠z->c≠TO->c≠i1->hp.get? c=some o->g3.get? c=some o:=fun c o e1 e2 e3 q=>t3.extBut _ _ e2 (t2.extBut _ _ e3 (sg.extBut _ _ e1 q))
 refine wpAny_bind (wpAny_bind (wpAny_onRaise (wpAny_bind (m:=Builtin.SmallTypes.nextOf (.ref i2)) (n2.step _ _ _ (n2.fra hp g3 h2 fun c hc o=>to3 c o (hf2 c hc).1 (hf2 c hc).2.1 (hf2 c hc).2.2) fun g4 e t4 ⟨oe,qe,ce⟩=>?_))));have t4:Heap.ExtBut i2 g3 g4:=t4;have z4:IsZip g4 z TI TO .ellipsis:=t4 _ _ D.i2z.symm (t3.extBut _ _ D.TOz.symm (t2.extBut _ _ D.i1z.symm zg));have ne:e≠z:=fun q=>by subst q; rw [z4] at qe; cases qe; simp at ce
 refine wpAny_setField_rec z4 (by simp) fun g5 _ t5=>?_
 have t5:Heap.SameBut z g4 g5:=t5;exact hE g5 e k1 (fun c o e1 e2 e3 e4 q=>t5.extBut _ _ e1 (t4 _ _ e4 (to3 c o e1 e2 e3 q))) ⟨oe,t5.extBut _ _ ne qe,ce⟩
theorem iF {z:Addr} {o:Obj} {Q:Option Value->Shared->Prop} (hz:s.heap.get? z=some o) (hc:o.cls=.type "zip")
  (h:wpAny (model prog w) A.in1 (Builtin.«zip.__next__» ⟨[.ref z],[]⟩) (fun fin s'=>∃ v,fin=.done (.ret v)/\Q (some v) s') (fun _ _=>False) s):wpAny (model prog w) A (pyNext (.ref z)) Q E s:=by
 have hT:s.TypeIs (.ref z) "zip" := ⟨_,hz,hc⟩;unfold pyNext;exact wpAny_bind (wpAny_attempt (wpAny_callSpecial?_slot (name:=Str.ofString "__next__") hT F.slot_zip_next
  (wpAny_call_entry F.slot_zip_next hT F.entry_zip_next (wpAny_mono h (fun fin s' ⟨v,e,q⟩=>⟨v,e,wpAny_pure q⟩) fun _ _ f=>f.elim) (F.args_zip_next_1 _))))
theorem c8 {z:Addr} {o:Obj} {Q:Option Value->Shared->Prop} (hz:s.heap.get? z=some o) (hc:o.cls=.type "zip")
  (h:wpAny (model prog w) A.in1 (Builtin.«zip.__next__» ⟨[.ref z],[]⟩) (fun _ _=>False) (fun e s'=>∃ a,e=.ref a/\(∃ o,s'.heap.get? a=some o/\o.cls=.type "StopIteration")/\Q none s') s):wpAny (model prog w) A (pyNext (.ref z)) Q E s:=by
 have hT:s.TypeIs (.ref z) "zip" := ⟨_,hz,hc⟩;unfold pyNext;refine wpAny_bind (wpAny_attempt (wpAny_callSpecial?_slot (name:=Str.ofString "__next__") hT F.slot_zip_next
  (wpAny_call_entry F.slot_zip_next hT F.entry_zip_next (wpAny_mono h (fun _ _ f=>f.elim) fun e s' he=>?_) (F.args_zip_next_1 _))))
 obtain ⟨a,rfl,⟨o,ho,hc⟩,q⟩:=he;refine wpAny_bind (wpAny_isInstance (T := "StopIteration") (b:=true) ⟨o,ho,hc⟩ isSubtype_stop ?_);exact wpAny_pure q
end
inductive Src where
 | str (x:Str) | lst (a:Addr)
noncomputable def SrcGo (K:Frag) (H:Hp):Src->Nat->Prop
 | .str x,i=>i < x.cps.size
 | .lst a,i=>∃ xs v,SqL K H a xs/\xs[i]? = some v
noncomputable def SrcAt (K:Frag) (H:Hp):Src->Nat->V->Prop
 | .str x,i,v=>∃ c,x.cps[i]? = some c/\v=.str ⟨#[c]⟩
 | .lst a,i,v=>∀ xs,SqL K H a xs->xs[i]? = some v
noncomputable def SrcEnd (K:Frag) (H:Hp):Src->Nat->Prop
 | .str x,i=>x.cps.size<=i
 | .lst a,i=>∃ xs,SqL K H a xs/\xs.length<=i
noncomputable def SrcIt (h:Heap):Src->Addr->Nat->Prop
 | .str x,it,i=>∃ t,h.IsStrIter it (strIterType x) x t i
 | .lst a,it,i=>h.IsListIter it a i
noncomputable def SrcOf (K:Frag) (H:Hp):Src->V->Prop
 | .str x,v=>v=.str x
 | .lst a,v=>v=.ref a/\∃ xs,SqL K H a xs
theorem SrcIt.obj {h:Heap} {S:Src} {it:Addr} {i:Nat} (st:SrcIt h S it i):∃ o,h.get? it=some o/\(∀ v,o.data≠.cell v)/\o.cls≠.type "list" /\ o.cls≠.type "zip" /\ o.cls≠.type "tuple" := by
 cases S with
 | str x=>
  obtain ⟨t,o,e,c,d⟩:=st;refine ⟨o,e,(fun v z=>by rw [d] at z; cases z),?_⟩;rw [c];rcases bi x with q | q <;> rw [q] <;> decide
 | lst a=>
  obtain ⟨o,e,c,d⟩:=(show h.IsListIter it a i from st);refine ⟨o,e,(fun v z=>by rw [d] at z; cases z),?_⟩;rw [c];decide
theorem SrcIt.keep {h h':Heap} {S:Src} {it:Addr} {i:Nat} (st:SrcIt h S it i) (k:∀ o,h.get? it=some o->h'.get? it=some o):SrcIt h' S it i:=by
 cases S with
 | str x=>
  obtain ⟨t,o,e,r⟩:=st;exact ⟨t,o,k o e,r⟩
 | lst a=>exact Heap.IsListIter.at (show h.IsListIter it a i from st) k
section
variable {X:Cx} {pins:List (Addr × Obj)} {σ:St} {H:Hp} {s:Shared} {A:Around}
theorem ud (I:Inv X pins σ H s) (S:Src) {it:Addr} {i:Nat} (st:SrcIt s.heap S it i) (go:SrcGo X.K H S i):
  ∃ (f:List Addr) (Sa Sb:Heap->Prop) (P:Value->Prop),Nx X.prog X.w A it f Sa Sb P/\Sa s.heap/\(∀ c ∈ f,c=it\/∃ o,s.heap.get? c=some o/\o.cls=.type "list")/\(∀ h,Sb h->SrcIt h S it (i+1))/\∀ v,P v->∃ x,RelV x v/\SrcAt X.K H S i x:=by
 cases S with
 | str x=>
  obtain ⟨t,st⟩:=st;have hi:i < x.cps.size:=go;refine ⟨[it],fun h=>h.IsStrIter it (strIterType x) x t i,fun h=>h.IsStrIter it (strIterType x) x t (i+1),fun v=>∃ u,v=.str ⟨#[x.cps[i]]⟩ u,⟨?_,?_,?_⟩,st,fun c hc=>.inl (by simpa using hc),fun h q=>⟨t,q⟩,?_⟩
  ·rintro h h' ⟨o,e,r⟩ k;exact ⟨o,k it (by simp) o e,r⟩
  ·rintro h h' ⟨o,e,r⟩ k;exact ⟨o,k it (by simp) o e,r⟩
  ·intro s Q E st hQ;exact lV st (c:=x.cps[i]) (by simp [hi]) fun h' st' sb=>hQ _ h' _ ⟨_,rfl⟩ st' sb
  ·rintro v ⟨u,rfl⟩;exact ⟨.str ⟨#[x.cps[i]]⟩,⟨u,rfl⟩,_,by simp [hi],rfl⟩
 | lst a=>
  obtain ⟨xs,v,hq,hv⟩:=go;obtain ⟨its,rv,pl,hz⟩:=I.list hq;obtain ⟨u,hu,ru⟩:=rv.get hv;have st':s.heap.IsListIter it a i:=st;obtain ⟨o,e,c,n,hd⟩:=id pl.isList;have hne:a≠it:=by
   rintro rfl;obtain ⟨o',e',c',_⟩:=st';rw [e] at e';cases e';rw [c] at c';exact absurd c' (by decide)
  refine ⟨[it,a],fun h=>h.IsListIter it a i/\h.IsList a its.toArray,fun h=>h.IsListIter it a (i+1)/\h.IsList a its.toArray,fun z=>z=u,⟨?_,?_,?_⟩,⟨st',pl.isList⟩,?_,fun h q=>q.1,?_⟩
  ·rintro h h' ⟨s1,s2⟩ k;exact ⟨s1.at fun o e=>k it (by simp) o e,s2.at fun o e=>k a (by simp) o e⟩
  ·rintro h h' ⟨s1,s2⟩ k;exact ⟨s1.at fun o e=>k it (by simp) o e,s2.at fun o e=>k a (by simp) o e⟩
  ·intro s Q E st hQ;exact wpAny_nextOf_list_item st.1 st.2 (x:=u) (by simpa using hu) fun h' st' sb=>hQ _ h' s.toks rfl ⟨st',st.2.extBut sb.extBut hne⟩ sb
  ·intro c' hc;rcases (by simpa using hc:c'=it\/c'=a) with z | z
   ·exact .inl z
   ·subst z;exact .inr ⟨o,e,c⟩
  ·rintro z rfl;exact ⟨v,ru,fun ys hy=>by rw [I.list_inj hy hq]; exact hv⟩
theorem yd (I:Inv X pins σ H s) (hh:A.handled=none) (S:Src) {it:Addr} {i:Nat} (st:SrcIt s.heap S it i) (en:SrcEnd X.K H S i):
  ∃ (f:List Addr) (Sa:Heap->Prop),Nd X.prog X.w A it f Sa/\Sa s.heap/\(∀ c ∈ f,c=it\/∃ o,s.heap.get? c=some o/\o.cls=.type "list"):=by
 cases S with
 | str x=>
  obtain ⟨t,st⟩:=st;have hi:x.cps.size<=i:=en;refine ⟨[it],fun h=>h.IsStrIter it (strIterType x) x t i,⟨?_,?_⟩,st,fun c hc=>.inl (by simpa using hc)⟩
  ·rintro h h' ⟨o,e,r⟩ k;exact ⟨o,k it (by simp) o e,r⟩
  ·intro s Q E st hE;exact mH hh st (by simp [hi]) hE
 | lst a=>
  obtain ⟨xs,hq,hv⟩:=en;obtain ⟨its,rv,pl,hz⟩:=I.list hq;have st':s.heap.IsListIter it a i:=st;obtain ⟨o,e,c,n,hd⟩:=id pl.isList;have hl:=rv.length;refine ⟨[it,a],fun h=>h.IsListIter it a i/\h.IsList a its.toArray,⟨?_,?_⟩,⟨st',pl.isList⟩,?_⟩
  ·rintro h h' ⟨s1,s2⟩ k;exact ⟨s1.at fun o e=>k it (by simp) o e,s2.at fun o e=>k a (by simp) o e⟩
  ·intro s Q E st hE;exact wpAny_nextOf_list_end hh st.1 st.2 (by simp; omega) hE
  ·intro c' hc;rcases (by simpa using hc:c'=it\/c'=a) with z | z
   ·exact .inl z
   ·subst z;exact .inr ⟨o,e,c⟩
theorem Inv.turnedLaid {t':Nat} {its:List Addr} {h':Heap} {a:Addr} {o:HO} (I:Inv X pins σ H s) (k:∀ b ob,b ∉ its->s.heap.get? b=some ob->h'.get? b=some ob) (hf:∀ b ∈ its,FpOk X pins H b) (hp:s.heap.objs.size<=a)
  (new:ObjOk X.prog X.w (upd H a o) h' a o) (ht:0 < t':=by first | assumption | exact Nat.succ_pos _ | (apply Inv.tk; assumption) | omega):Inv X pins σ (upd H a o) { s with heap:=h',toks:=t' }:=by
 have hn:H a=none:=I.hok.fresh hp;have nit:∀ b u,H b=some u->b ∉ its:=fun b u e z=>by
  have q:=(hf b z).1;rw [q] at e;cases e
 have nea:∀ b ob,s.heap.get? b=some ob->b≠a:=fun b ob e=>Nat.ne_of_lt (Nat.lt_of_lt_of_le (Heap.lt_size e) hp)
 refine I.step (g':=s.gens) (d':=s.drawn) (ch:=its) (fun b hb=>?_) (fun b o _ _ hc e _=>k b o hc e) (fun b o _ _ hc e _=>⟨o.slots,k b o hc e⟩) (fun b ob _ e n=>by rw [av (nea b ob e)]; exact n)
  (fun b o hc e=>⟨o,k b o hc e⟩) (fun _ _ e=>by rw [av (bq e hn)]; exact e) (fun _ _ _ e=>by rw [av (bq e hn)]; exact e) (fun b ps e=>⟨#[],by rw [av (bq e hn),e]; simp⟩) (fun m hm=>?_) (fun b u e=>?_) I.bare
 ·obtain ⟨f0,f1,f2,f3,f4,f5⟩:=hf b hb;exact ⟨f3,f1,f4,f5⟩
 ·obtain ⟨o,es,ep,ho,r⟩:=hm;exact ⟨o,es,ep,k _ o (fun z=>(hf _ z).2.1 rfl) ho,r⟩
 ·by_cases hb:b=a
  ·subst hb;rw [upd_same] at e;cases e;exact new
  ·rw [av hb] at e;refine (I.hok b u e).stay (fun c v hc q=>k c v ?_ q) (fun c q=>by rw [av (bq q hn)]; exact q) fun c xs q=>by rw [av (bq q hn)]; exact q
   rcases hc with z | z
   ·rw [z]; exact nit b u e
   ·exact nit c _ z
end
noncomputable def Itz (K:Frag) (S1 S2:Src):It:=⟨fun i H=>SrcGo K H S1 i/\SrcGo K H S2 i,fun i H v H'=>∃ T x y,v=.ref T/\H T=none/\H'=upd H T (.tup [x,y])/\SrcAt K H S1 i x/\SrcAt K H S2 i y,
 fun i H=>SrcEnd K H S1 i\/(SrcGo K H S1 i/\SrcEnd K H S2 i)⟩
def ZipSt (z TI TO i1 i2:Addr) (S1 S2:Src) (i:Nat) (h:Heap):Prop:=∃ a b,IsZip h z TI TO .none/\IsPair h TI (.ref i1) (.ref i2)/\IsPair h TO a b/\SrcIt h S1 i1 i/\SrcIt h S2 i2 i
theorem mw {h:Heap} {f:List Addr} {z TI TO i1 i2:Addr} {a b:Value} {S2:Src} {k:Nat} (hz:IsZip h z TI TO .none) (hTO:IsPair h TO a b) (h2:SrcIt h S2 i2 k) (n1:i1≠z) (n2:i1≠TO) (n3:i1≠i2)
  (m:∀ c ∈ f,c=i1\/∃ o,h.get? c=some o/\o.cls=.type "list"):∀ c ∈ f,c≠z/\c≠TO/\c≠i2:=fun c hc=>by
 rcases m c hc with e | ⟨o,e,c1⟩
 ·subst e;exact ⟨n1,n2,n3⟩
 ·refine ⟨?_,?_,?_⟩
  ·rintro rfl;rw [hz] at e;cases e;exact absurd (show Value.type "zip" = Value.type "list" from c1) (by decide)
  ·rintro rfl;rw [hTO] at e;cases e;exact absurd (show Value.type "tuple" = Value.type "list" from c1) (by decide)
  ·rintro rfl;obtain ⟨o',e',_,q,_⟩:=h2.obj;rw [e] at e';cases e';exact q c1
theorem rZ {P:Program} {w:World} {K:Frag} {elts:List Expr} {kk:Nat} {pos:Pos} {z TI TO i1 i2:Addr} (D:ZAp z TI TO i1 i2) (S1 S2:Src):
  Turn P w K (.Tuple elts kk pos) (Itz K S1 S2) [z,TI,TO,i1,i2] z (ZipSt z TI TO i1 i2 S1 S2) where
 mem:=by simp
 obj:=fun i h st b hb=>by
  obtain ⟨a,c,hz,hTI,hTO,h1,h2⟩:=st;simp only [List.mem_cons,List.not_mem_nil,or_false] at hb;rcases hb with rfl | rfl | rfl | rfl | rfl
  ·exact ⟨_,hz,fun v q=>by have q':Data.fields _=Data.cell v:=q; cases q'⟩
  ·exact ⟨_,hTI,fun v q=>by have q':Data.seq _ _=Data.cell v:=q; cases q'⟩
  ·exact ⟨_,hTO,fun v q=>by have q':Data.seq _ _=Data.cell v:=q; cases q'⟩
  ·obtain ⟨o,e,q,_⟩:=h1.obj;exact ⟨o,e,q⟩
  ·obtain ⟨o,e,q,_⟩:=h2.obj;exact ⟨o,e,q⟩
 keep:=fun i h h' st k=>by
  obtain ⟨a,c,hz,hTI,hTO,h1,h2⟩:=st;exact ⟨a,c,k z (by simp) _ hz,k TI (by simp) _ hTI,k TO (by simp) _ hTO,h1.keep fun o e=>k i1 (by simp) o e,h2.keep fun o e=>k i2 (by simp) o e⟩
 item:=by
  intro X hP hw hK hc i pins s σ H E I hf st hg;subst hP hw hK;obtain ⟨a,b,hz,hTI,hTO,h1,h2⟩:=st;obtain ⟨g1,g2⟩:=hg;obtain ⟨f1,Sa,Sb,P1,n1,a1,m1,b1,r1⟩:=ud (A:=X.A.in1) I S1 h1 g1;obtain ⟨f2,Sc,Sd,P2,n2,a2,m2,b2,r2⟩:=ud (A:=X.A.in1) I S2 h2 g2;refine tokQ I.tk (iF hz rfl (i7 D n1 n2 (mw hz hTO h2 D.i1z D.TOi1.symm D.i12 m1) (mw hz hTO h1 D.i2z D.TOi2.symm D.i12.symm m2) hz hTI hTO a1 a2 fun x y h' tk p1 p2 z1 z2 q1 q2 z3 z4 kp (htk:0 < tk)=>?_));obtain ⟨vx,rx,ax⟩:=r1 x p1;obtain ⟨vy,ry,ay⟩:=r2 y p2;have fresh:H s.heap.objs.size=none:=I.hok.fresh (Nat.le_refl _);have off:∀ {c o},s.heap.get? c=some o->c≠s.heap.objs.size:=fun e=>Nat.ne_of_lt (Heap.lt_size e)
  refine ⟨_,rfl,wpAny_letOwnedTupleGo_zip z1 fun h'' z1' sb=>?_⟩
  replace sb:Heap.SameBut z h' h'':=sb
  have hT:IsPair h'' s.heap.objs.size x y:=sb.extBut _ _ (Ne.symm (off hz)) z3;have I1:Inv X pins σ (upd H s.heap.objs.size (.tup [vx,vy])) { s with heap:=h'',toks:=tk }:=by
   refine I.turnedLaid (its:=[z,TO,i1,i2]) (fun c o hc' e=>?_) (fun c hc'=>hf c ?_) (Nat.le_refl _) ?_
   ·simp only [List.mem_cons,List.not_mem_nil,or_false,not_or] at hc';exact sb.extBut _ _ hc'.1 (kp c o hc'.1 hc'.2.1 hc'.2.2.1 hc'.2.2.2 e)
   ·simp only [List.mem_cons,List.not_mem_nil,or_false] at hc' ⊢;rcases hc' with q | q | q | q
    ·exact .inl q
    ·exact .inr (.inr (.inl q))
    ·exact .inr (.inr (.inr (.inl q)))
    ·exact .inr (.inr (.inr (.inr q)))
   ·exact ⟨by show 2<=sizeLine; decide,[x,y],.cons rx (.cons ry .nil),_,hT,rfl,_,rfl⟩
  refine ⟨.ref s.heap.objs.size,_,I1,rfl,⟨_,vx,vy,rfl,fresh,rfl,ax,ay⟩,⟨x,y,z1',?_,?_,?_,?_⟩,fun c hc'=>?_⟩
  ·exact sb.extBut _ _ D.TIz (kp _ _ D.TIz D.TITO D.TIi1 D.TIi2 hTI)
  ·exact sb.extBut _ _ D.TOz z2
  ·exact (b1 h' q1).keep fun o e=>sb.extBut _ _ D.i1z e
  ·exact (b2 h' q2).keep fun o e=>sb.extBut _ _ D.i2z e
  ·have ne:c≠s.heap.objs.size:=by
    simp only [List.mem_cons,List.not_mem_nil,or_false] at hc';rcases hc' with rfl | rfl | rfl | rfl | rfl
    ·exact off hz
    ·exact off hTI
    ·exact off hTO
    ·obtain ⟨o,e,_⟩:=h1.obj;exact off e
    ·obtain ⟨o,e,_⟩:=h2.obj;exact off e
   rw [av ne];exact (hf c hc').1
 done:=by
  intro X hP hw hK hc i pins s σ H E I hf st hg;subst hP hw hK;obtain ⟨a,b,hz,hTI,hTO,h1,h2⟩:=st;have hh:X.A.in1.handled=none:=I.ok.hd hc;have fin:∀ (h':Heap) (tk:Nat),0 < tk->(∀ c o,c≠z->c≠TO->c≠i1->c≠i2->s.heap.get? c=some o->h'.get? c=some o)->Inv X pins σ H { s with heap:=h',toks:=tk }:=fun h' tk htk kp=>
   I.turnedL (its:=[z,TO,i1,i2]) (fun c o hc' e=>by
    simp only [List.mem_cons,List.not_mem_nil,or_false,not_or] at hc';exact kp c o hc'.1 hc'.2.1 hc'.2.2.1 hc'.2.2.2 e) (fun c hc'=>hf c (by
    simp only [List.mem_cons,List.not_mem_nil,or_false] at hc' ⊢;rcases hc' with q | q | q | q
    ·exact .inl q
    ·exact .inr (.inr (.inl q))
    ·exact .inr (.inr (.inr (.inl q)))
    ·exact .inr (.inr (.inr (.inr q)))))
  rcases hg with e1 | ⟨g1,e2⟩
  ·obtain ⟨f1,Sa,n1,a1,m1⟩:=yd I hh S1 h1 e1;exact tokQ I.tk (c8 hz rfl (jE D n1 (mw hz hTO h2 D.i1z D.TOi1.symm D.i12 m1) hz hTI a1 fun h' e tk kp he=>⟨e,rfl,he,fun htk=>⟨rfl,fin h' tk htk kp⟩⟩))
  ·obtain ⟨f1,Sa,Sb,P1,n1,a1,m1,b1,r1⟩:=ud (A:=X.A.in1) I S1 h1 g1;obtain ⟨f2,Sc,n2,a2,m2⟩:=yd I hh S2 h2 e2;exact tokQ I.tk (c8 hz rfl (jD D n1 n2 (mw hz hTO h2 D.i1z D.TOi1.symm D.i12 m1) (mw hz hTO h1 D.i2z D.TOi2.symm D.i12.symm m2) hz hTI hTO a1 a2 fun h' e tk kp he=>⟨e,rfl,he,fun htk=>⟨rfl,fin h' tk htk kp⟩⟩))
 self:=fun _ _ _ _ _ st h=>by
  obtain ⟨a,b,hz,_⟩:=st;exact wpAny_pyIter_zip hz h
noncomputable def srcVal:Src->Tok->Value
 | .str x,t=>.str x t
 | .lst a,_=>.ref a
noncomputable def srcObj:Src->Tok->Obj
 | .str x,t=>{ cls:=.type (strIterType x),data:=.fields #[.str x t,.int 0 0] }
 | .lst a,_=>{ cls:=.type "list_iterator",data:=.fields #[.ref a,.int 0 0] }
noncomputable def srcOk (h:Heap):Src->Prop
 | .str _=>True
 | .lst a=>∃ its,h.IsList a its
theorem srcOk.push {h:Heap} {S:Src} (ok:srcOk h S) (o:Obj):srcOk (h.push o) S:=by
 cases S with
 | str x=>trivial
 | lst a=>
  obtain ⟨its,q⟩:=ok;exact ⟨its,Heap.IsList.push q _⟩
theorem ko (S:Src) (t:Tok):(srcObj S t).isFreed=false:=by cases S <;> rfl
theorem o7 {h:Heap} {S:Src} {t:Tok} {it:Addr} (e:h.get? it=some (srcObj S t)):SrcIt h S it 0:=by
 cases S with
 | str x=>exact ⟨t,_,e,rfl,rfl⟩
 | lst a=>exact ⟨_,e,rfl,rfl⟩
section
variable {prog:Program} {w:World} {A:Around} {E:Value->Shared->Prop} {s:Shared}
theorem nC {S:Src} {t:Tok} {Q:Value->Shared->Prop} (ok:srcOk s.heap S) (hQ:Q (.ref s.heap.objs.size) { s with heap:=s.heap.push (srcObj S t) }):wpAny (model prog w) A (pyIter (srcVal S t)) Q E s:=by
 cases S with
 | str x=>exact wpAny_pyIter_strU hQ
 | lst a=>
  obtain ⟨its,q⟩:=ok;exact wpAny_pyIter_list q hQ
end
noncomputable abbrev zH1 (h:Heap) (S1:Src) (t1:Tok):Heap:=h.push (srcObj S1 t1)
noncomputable abbrev zH2 (h:Heap) (S1 S2:Src) (t1 t2:Tok):Heap:=(zH1 h S1 t1).push (srcObj S2 t2)
noncomputable abbrev zH3 (h:Heap) (S1 S2:Src) (t1 t2:Tok):Heap:=(zH2 h S1 S2 t1 t2).push { cls:=.type "tuple",data:=.seq #[.ref h.objs.size,.ref (zH1 h S1 t1).objs.size] }
noncomputable abbrev zH4 (h:Heap) (S1 S2:Src) (t1 t2:Tok):Heap:=(zH3 h S1 S2 t1 t2).push { cls:=.type "tuple",data:=.seq #[.none,.none] }
noncomputable abbrev zH5 (h:Heap) (S1 S2:Src) (t1 t2:Tok):Heap:=(zH4 h S1 S2 t1 t2).push { cls:=.type "zip",data:=.fields #[.none,.bool false,.bool false,.ref (zH2 h S1 S2 t1 t2).objs.size,.ref (zH3 h S1 S2 t1 t2).objs.size] }
theorem nF (S1 S2:Src) (t1 t2:Tok):
  Meets (Builtin.«zip.__new__» ⟨[.type "zip",srcVal S1 t1,srcVal S2 t2],[]⟩) (fun _ R s=>srcOk s.heap S1/\srcOk s.heap S2 /\
   R (.ok (.ret (.ref (zH4 s.heap S1 S2 t1 t2).objs.size))) { s with heap:=zH5 s.heap S1 S2 t1 t2 }):=
 .of_wp fun prog w A R s h=>by
  obtain ⟨hp,g,d,tk,os⟩:=s; obtain ⟨hl1,hl2,h⟩:=h;have hsub:=sub_zip;have hL1:srcOk (Shared.heap ⟨hp,g,d,tk,os⟩) S1:=hl1;have hL2:srcOk (Shared.heap ⟨hp.push (srcObj S1 t1),g,d,tk,os⟩) S2:=hl2.push _
  wp_walk using nC hL1,nC hL2
  exact ⟨_,rfl,h⟩
section
variable {prog:Program} {w:World} {A:Around} {E:Value->Shared->Prop} {s:Shared}
theorem pz {S1 S2:Src} {t1 t2:Tok} {Q:Value->Shared->Prop} (hl1:srcOk s.heap S1) (hl2:srcOk s.heap S2)
  (h:∀ h',ZipSt (s.heap.objs.size+4) (s.heap.objs.size+2) (s.heap.objs.size+3) s.heap.objs.size (s.heap.objs.size+1) S1 S2 0 h'->(∀ c o,s.heap.get? c=some o->h'.get? c=some o)->Q (.ref (s.heap.objs.size+4)) { s with heap:=h' }):
  wpAny (model prog w) A (call (.type "zip") [srcVal S1 t1,srcVal S2 t2]) Q E s:=by
 refine callType_new F.called_zip (by decide) (F.typeCall_zip_2 _ _) (F.newCall_zip_2 _ _) (fun obj=>F.args_object_init_3 obj _ _) F.entry_zip_new
  (nF S1 S2 t1 t2) ⟨hl1,hl2,?_⟩
 have z1:(zH1 s.heap S1 t1).objs.size=s.heap.objs.size+1:=Heap.size_push ..;have z2:(zH2 s.heap S1 S2 t1 t2).objs.size=s.heap.objs.size+2:=by rw [Heap.size_push,z1]
 have z3:(zH3 s.heap S1 S2 t1 t2).objs.size=s.heap.objs.size+3:=by rw [Heap.size_push,z2]
 have z4:(zH4 s.heap S1 S2 t1 t2).objs.size=s.heap.objs.size+4:=by rw [Heap.size_push,z3]
 have g5:(zH5 s.heap S1 S2 t1 t2).get? (zH4 s.heap S1 S2 t1 t2).objs.size=some _:=Heap.get?_push_size _ rfl;have g4:(zH5 s.heap S1 S2 t1 t2).get? (zH3 s.heap S1 S2 t1 t2).objs.size=some _:=Heap.get?_push_of_some _ (Heap.get?_push_size _ rfl);have g3:(zH5 s.heap S1 S2 t1 t2).get? (zH2 s.heap S1 S2 t1 t2).objs.size=some _:=Heap.get?_push_of_some _ (Heap.get?_push_of_some _ (Heap.get?_push_size _ rfl));have g2:(zH5 s.heap S1 S2 t1 t2).get? (zH1 s.heap S1 t1).objs.size=some (srcObj S2 t2):=Heap.get?_push_of_some _ (Heap.get?_push_of_some _ (Heap.get?_push_of_some _ (Heap.get?_push_size _ (ko _ _))));have g1:(zH5 s.heap S1 S2 t1 t2).get? s.heap.objs.size=some (srcObj S1 t1):=Heap.get?_push_of_some _ (Heap.get?_push_of_some _ (Heap.get?_push_of_some _ (Heap.get?_push_of_some _ (Heap.get?_push_size _ (ko _ _)))));show _/\_;rw [z2,z3,z4] at g5;rw [z1,z2] at g3;rw [z3] at g4;rw [z1] at g2;rw [z4];exact ⟨⟨_,g5,rfl⟩,h _ ⟨_,_,g5,g3,g4,o7 g1,o7 g2⟩ fun c o x=>
  Heap.get?_push_of_some _ (Heap.get?_push_of_some _ (Heap.get?_push_of_some _ (Heap.get?_push_of_some _ (Heap.get?_push_of_some _ x))))⟩
theorem qL (n:Nat):ZAp (n+4) (n+2) (n+3) n (n+1):=by
 constructor <;> exact fun h=>absurd (show (_:Nat)=_ from h) (by omega)
end
noncomputable def iZip (K:Frag) (ta:TA):TI:=fun σ H R=>ta σ H fun vs H1=>∃ S1 S2 v1 v2,vs=[v1,v2]/\SrcOf K H1 S1 v1/\SrcOf K H1 S2 v2/\R (Itz K S1 S2) H1
section
variable {X:Cx}
theorem jk {pins:List (Addr × Obj)} {σ:St} {H:Hp} {s:Shared} {S:Src} {v:V} {u:Value} (I:Inv X pins σ H s) (h:SrcOf X.K H S v) (r:RelV v u):∃ t,u=srcVal S t/\srcOk s.heap S:=by
 cases S with
 | str x=>
  have e:v=.str x:=h;subst e;obtain ⟨t,rfl⟩:=r;exact ⟨t,rfl,trivial⟩
 | lst a=>
  obtain ⟨e,xs,hq⟩:=h;subst e;cases r;obtain ⟨its,rv,pl,hz⟩:=I.list hq;exact ⟨0,rfl,_,pl.isList⟩
theorem se:bootBuiltins "zip" = some (.type "zip"):=by decide +kernel
theorem Bp {a b:Expr} {ta:TA} {elts:List Expr} {kk:Nat} {tpos p pos:Pos} (hg:Gl X "zip") (hm:X.mg "zip" = none) (ha:PA X [a,b] ta) (hs:starEach [a,b] X.env=[(false,eval a X.env),(false,eval b X.env)]:=by rfl) (hs2:starEach [b] X.env=[(false,eval b X.env)]:=by rfl):
  PI X (.Tuple elts kk tpos) (.Call (.Name "zip" p) [a,b] [] pos) (iZip X.K ta):=by
 intro pins s σ H R I h;refine Call_ (dA I hg hm se (PyProof.Rows.callWith_type1 (thn (ha pos pins s σ H _ I h) fun us s1 ⟨vs,H1,I1,r1,q1⟩=>?_) (by rw [hs,hs2]) (by rw [hs2]; rfl)));obtain ⟨S1,S2,v1,v2,e,o1,o2,q⟩:=q1;subst e;cases r1 with
 | cons r rr=>
  cases rr with
  | cons r' rr=>
   cases rr;obtain ⟨t1,rfl,k1⟩:=jk I1 o1 r;obtain ⟨t2,rfl,k2⟩:=jk I1 o2 r';refine pz k1 k2 fun h' st kp=>?_
   have I2:Inv X pins σ H1 { s1 with heap:=h' }:=I1.kept (t':=s1.toks) kp;have st':=st;obtain ⟨_,_,hz,_⟩:=st';refine wpAny_pyIter_zip hz ?_;refine ⟨_,_,_,Itz X.K S1 S2,H1,rfl,I2,rZ (qL _) S1 S2,st,fun c hc=>?_,q⟩;have hc':s1.heap.objs.size<=c:=by
    simp only [List.mem_cons,List.not_mem_nil,or_false] at hc;rcases hc with rfl | rfl | rfl | rfl | rfl <;> omega
   exact I1.fpOk hc' (I1.hok.fresh hc')
end
noncomputable def clOf (cells:List (Str × Addr)):List (Str × NameKind)->List (Str × Addr)->List (Str × Addr)
 | [],cs=>cs
 | (n,k)::r,cs=>clOf cells r (if (k == NameKind.free)=true then (n,(cells.lookup n).getD 0)::cs else cs)
theorem iE {scope:Scope} {env:Env} (h:∀ y ∈ scope.names,y.2=.free->∃ c,env.cells.lookup y.1=some c):closureFor scope env=pure (clOf env.cells scope.names []):=by
 unfold closureFor;have key:∀ (names:List (Str × NameKind)) (cs:List (Str × Addr)),(∀ y ∈ names,y.2=.free->∃ c,env.cells.lookup y.1=some c) ->
   (forIn names cs (fun x r=>match x with
    | (name,kind)=>if (kind == NameKind.free)=true then (do let __do_lift <- cellOf env name; pure (ForInStep.yield ((name,__do_lift)::r))) else pure (ForInStep.yield r)):Sem (List (Str × Addr)))=pure (clOf env.cells names cs):=by
  intro names
  induction names with
  | nil=>intro cs _; rfl
  | cons y r ih=>
   intro cs hy;obtain ⟨n,k⟩:=y;rw [List.forIn_cons];have hr:∀ y ∈ r,y.2=.free->∃ c,env.cells.lookup y.1=some c:=fun y hm=>hy y (List.mem_cons_of_mem _ hm)
   cases hk:(k == NameKind.free) with
   | true=>
    have hk':k=.free:=by simpa using hk
    obtain ⟨c,hc⟩:=hy (n,k) List.mem_cons_self hk';have ec:cellOf env n=pure c:=by unfold cellOf; rw [hc]
    have e1:(clOf env.cells ((n,k)::r) cs)=clOf env.cells r ((n,c)::cs):=by
     show clOf env.cells r (if (k == NameKind.free)=true then (n,(env.cells.lookup n).getD 0)::cs else cs)=_;rw [hk,if_pos rfl,show env.cells.lookup n=some c from hc];rfl
    rw [e1,<- ih _ hr];simp only [ec,hk,if_true,pure_bind]
   | false=>
    have e1:(clOf env.cells ((n,k)::r) cs)=clOf env.cells r cs:=by
     show clOf env.cells r (if (k == NameKind.free)=true then (n,(env.cells.lookup n).getD 0)::cs else cs)=_;rw [hk,if_neg Bool.false_ne_true]
    rw [e1,<- ih _ hr];simp only [hk,Bool.false_eq_true,if_false,pure_bind]
 have q:=key scope.names [] h
 first
  | exact q
  | (simp only [bind_pure]; exact q)
  | (rw [q]; rfl)
theorem mU {cells:List (Str × Addr)} {x:Str} {c:Addr}:∀ (names:List (Str × NameKind)) (cs:List (Str × Addr)),(∀ y ∈ names,y.2=.free->∃ c,cells.lookup y.1=some c)->(∀ x c,cs.lookup x=some c->cells.lookup x=some c) ->
  (clOf cells names cs).lookup x=some c->cells.lookup x=some c
 | [],cs,_,h,e=>h x c e
 | (n,k)::r,cs,hn,h,e=>by
  unfold clOf at e;refine mU r _ (fun y hm=>hn y (List.mem_cons_of_mem _ hm)) (fun x c q=>?_) e;split at q
  ·rename_i hk;have hk':k=.free:=by simpa using hk
   obtain ⟨c',hc⟩:=hn (n,k) List.mem_cons_self hk';rw [List.lookup_cons] at q;cases hx:(x == n) with
   | true=>
    rw [hx] at q;have hx':x=n:=by simpa using hx
    subst hx';rw [hc] at q;simp at q;rw [hc,q]
   | false=>
    rw [hx] at q;exact h x c q
  ·exact h x c q
theorem nI {cells:List (Str × Addr)} {x:Str}:∀ (names:List (Str × NameKind)) (cs:List (Str × Addr)),(cs.lookup x).isSome=true->((clOf cells names cs).lookup x).isSome=true
 | [],cs,h=>h
 | (n,k)::r,cs,h=>by
  unfold clOf;refine nI r _ ?_;split
  ·rw [List.lookup_cons];split
   ·rfl
   ·exact h
  ·exact h
theorem mt {cells:List (Str × Addr)} {x:Str}:∀ (names:List (Str × NameKind)) (cs:List (Str × Addr)),(x,NameKind.free) ∈ names->((clOf cells names cs).lookup x).isSome=true
 | [],_,h=>by cases h
 | (n,k)::r,cs,h=>by
  unfold clOf;rcases List.mem_cons.mp h with e | e
  ·cases e;refine nI r _ ?_;simp
  ·exact mt r _ e
theorem fj (env:Env) (x:Str):∀ names:List (Str × NameKind),
  (names.map fun (n,k)=>if (k == NameKind.free && env.scope.kind == .function && env.kindOf n == some .cell) then (n,NameKind.cell) else (n,k)).lookup x =
   (names.lookup x).map fun k=>if (k == NameKind.free && env.scope.kind == .function && env.kindOf x == some .cell)=true then .cell else k
 | []=>rfl
 | (n,k)::r=>by
  have ih:=fj env x r;simp only [List.map_cons];cases hx:(x == n) with
  | true=>
   have hx':x=n:=by simpa using hx
   subst hx';by_cases hc:(k == NameKind.free && env.scope.kind == .function && env.kindOf x == some .cell)=true
   ·rw [if_pos hc,List.lookup_cons,List.lookup_cons,hx];show some NameKind.cell=some (if (k == NameKind.free && env.scope.kind == .function && env.kindOf x == some .cell)=true then NameKind.cell else k);rw [if_pos hc]
   ·rw [if_neg hc,List.lookup_cons,List.lookup_cons,hx];show some k=some (if (k == NameKind.free && env.scope.kind == .function && env.kindOf x == some .cell)=true then NameKind.cell else k);rw [if_neg hc]
  | false=>
   by_cases hc:(k == NameKind.free && env.scope.kind == .function && env.kindOf n == some .cell)=true
   ·rw [if_pos hc];simp only [List.lookup_cons,hx];exact ih
   ·rw [if_neg hc];simp only [List.lookup_cons,hx];exact ih
structure CScope (scope:Scope):Prop where
 kind:scope.kind=.function
 nocell:∀ y ∈ scope.names,y.2≠.cell
 loc:∀ y ∈ scope.names,y.2=.local->scope.names.lookup y.1=some .local
noncomputable def cxC (X:Cx) (scope:Scope) (cl:List (Str × Addr)) (N':List Str) (C:Addr) (s:Shared) (H:Hp) (ex:List Addr):Cx:=
 { X with N:=N',s₀:=s,H₀:=H,env:=compEnvC scope cl C X.env,outer:=X.stack,ex:=ex,fn:=fun _=>false,pn:=[],xe:=fun _ _=>False }
noncomputable def compσ (nt:Nat) (fi:List Nat) (σ:St):St:=List.replicate nt none++fi.map fun j=>(σ[j]?).getD none
structure CNames (X:Cx) (scope:Scope) (nt:Nat) (fi:List Nat) (N':List Str):Prop where
 len:N'.length=nt+fi.length
 cap:∀ k j:Nat,fi[k]? = some j->∃ x,N'[nt+k]? = some x/\X.N[j]? = some x/\scope.names.lookup x=some .free
 fre:∀ y ∈ scope.names,y.2=.free->X.env.scope.names.lookup y.1=some .cell\/X.env.scope.names.lookup y.1=some .free
def GK (nt:Nat) (g:TG):Prop:=∀ x σ H Q,g x σ H Q->g x σ H fun σ' H'=>Q σ' H'/\σ'.length=σ.length/\σ'.drop nt=σ.drop nt
def PIf (X:Cx) (ifs:List Expr) (t:TT):Prop:=
 ∀ (pins:List (Addr × Obj)) (s:Shared) (σ:St) (H:Hp) (Q:Bool->Hp->Prop),Inv X pins σ H s->t σ H Q ->
  wpAny (model X.prog X.w) X.A (forIn ifs true fun c r=>if r=true then do let ok <- isTrue c X.env (eval c X.env); pure (ForInStep.yield ok) else pure (ForInStep.yield r)) (TP X pins σ Q) X.xe s
noncomputable def tYes:TT:=fun _ H Q=>Q true H
theorem aZ {X:Cx}:PIf X [] tYes:=fun pins s σ H Q I h=>wpAny_tests_nil ⟨H,I,h⟩
theorem qS {X:Cx} {c:Expr} {t:TT} (h:PT X c t):PIf X [c] t:=fun pins s σ H Q I q=>wpAny_tests_one (h pins s σ H Q I q)
theorem bw {nt i:Nat} (hi:i < nt):GK nt (gName i):=fun x σ H Q h=>by
 refine ⟨h,?_,?_⟩
 ·rw [List.length_set]
 ·rw [List.drop_set_of_lt hi]
theorem j5 {K:Frag} {nt i j n:Nat} (hi:i < nt) (hj:j < nt):GK nt (gTup K n (gCons (gName i) (gCons (gName j) gNil))):=fun x σ H Q h=>by
 obtain ⟨a,xs,e,hq,hl,v,r,e1,v',r',e2,e3,q⟩:=h;refine ⟨a,xs,e,hq,hl,v,r,e1,v',r',e2,e3,q,?_,?_⟩
 ·rw [List.length_set,List.length_set]
 ·rw [List.drop_set_of_lt hj,List.drop_set_of_lt hi]
section
variable {prog:Program} {w:World} {A:Around} {R:Result->Shared->Prop} {s:Shared}
theorem thnF {α:Type} {t:Sem α} {Q Q':α -> Shared->Prop} {M:Model} {E:Value->Shared->Prop} (h:wpAny M A t Q (fun _ _=>False) s) (hQ:∀ a s,Q a s->Q' a s):wpAny M A t Q' E s:=wpAny_mono h hQ fun _ _ f=>f.elim
theorem kc {elt target iter:Expr} {ifs:List Expr} {scope:Scope} {pos:Pos} {it acc:Value} {env:Env} (I:Nat->Shared->Prop)
  (turn:∀ n s,I n s->wpAny (model prog w) A (pyNext it) (fun r s₁=>match r with
   | none=>R (.ok .next) s₁
   | some v=>wpAny (model prog w) A (letOwnedTupleGo target it v) (fun _ s₂=>wpAny (model prog w) A (assign target env v) (fun _ s₃=>
     wpAny (model prog w) A (forIn ifs true fun c r=>if r=true then do let ok <- isTrue c env (eval c env); pure (ForInStep.yield ok) else pure (ForInStep.yield r)) (fun ok s₄=>
      if ok=true then wpAny (model prog w) A (eval elt env) (fun x s₅=>wpAny (model prog w) A (call (.builtin "list.append") [acc,x]) (fun _ s₆=>∃ m,m < n/\I m s₆) (fun _ _=>False) s₅) (fun _ _=>False) s₄
      else ∃ m,m < n/\I m s₄) (fun _ _=>False) s₃) (fun _ _=>False) s₂) (fun _ _=>False) s₁) (fun _ _=>False) s)
  (n:Nat) (h:I n s):codeAny (model prog w) A (.compLoop (.ListComp elt [⟨target,iter,ifs,0⟩] scope pos) 0 it acc env) R s:=by
 refine codeAny_loop rfl I (fun n s hI=>?_) n h;show wpAny _ A ((compTurn (.ListComp elt [⟨target,iter,ifs,0⟩] scope pos) 0 it acc env).onRaise (fun x=>do noteFrame x env; theTreesLotGoes x)) _ _ s;refine wpAny_noted ?_;rw [compTurn_list];refine wpAny_bind (wpAny_standAt (wpAny_bind (thnF (turn n s hI) fun r s₁ h₁=>?_)));cases r with
 | none=>exact wpAny_pure h₁
 | some v=>
  refine wpAny_bind (thnF h₁ fun _ s₂ h₂=>wpAny_bind (thnF h₂ fun _ s₃ h₃=>wpAny_bind (thnF h₃ fun ok s₄ h₄=>?_)));cases ok with
  | false=>exact wpAny_pure ⟨rfl,h₄⟩
  | true=>exact wpAny_bind (wpAny_bind (thnF h₄ fun x s₅ h₅=>wpAny_bind (thnF h₅ fun _ s₆ h₆=>wpAny_pure (wpAny_pure ⟨rfl,h₆⟩))))
end
noncomputable def tComp (nt:Nat) (fi:List Nat) (wi:TI) (g:TG) (tc:TT) (te:TE):TE:=fun σ H Q=>wi σ H fun J H1=>∀ D,H1 D=none ->
 ∃ W:Nat->Nat->List V->Hp->Prop,(∃ m,W 0 m [] (upd H1 D (.lst [])))/\∀ i m acc H2,W i m acc H2 ->
  (J.stop i H2/\Q (.ref D) H2)\/(J.go i H2/\∀ x H3,J.yld i H2 x H3->g x (compσ nt fi σ) H3 fun σ4 H4=>tc σ4 H4 fun b H5=>if b=true then
   te σ4 H5 fun v H6=>H6 D=some (.lst acc)/\acc.length < sizeLine/\∃ m',m' < m/\W (i+1) m' (acc++[v]) (upd H6 D (.lst (acc++[v]))) else ∃ m',m' < m/\W (i+1) m' acc H5)
theorem compσ_weak {nt:Nat} {fi:List Nat} {σ σ':St} (hl:σ'.length=(compσ nt fi σ).length) (hd:σ'.drop nt=(compσ nt fi σ).drop nt):∀ (i:Nat) v,(compσ nt fi σ)[i]? = some (some v)->σ'[i]? = some (some v):=fun i v e=>by
 by_cases hi:i < nt
 ·unfold compσ at e;rw [List.getElem?_append_left (by simpa using hi),List.getElem?_replicate] at e;split at e <;> cases e
 ·have ei:i=nt+(i - nt):=by omega
  have q:=congrArg (fun l=>l[i - nt]?) hd;simp only [List.getElem?_drop] at q;rw [<- ei] at q;rw [q];exact e
section
variable {X:Cx}
theorem ra {pins:List (Addr × Obj)} {σ:St} {H:Hp} {s:Shared} {scope:Scope} {nt:Nat} {fi:List Nat} {N':List Str} {fp:List Addr} {h₁:Heap} {m:Str->Option Value} {tk:Nat}
  (I:Inv X pins σ H s) (S:CScope scope) (cn:CNames X scope nt fi N') (hf:∀ b ∈ fp,FpOk X pins H b) (ho:∀ b ∈ fp,∃ o,s.heap.get? b=some o)
  (hns:h₁.Ns s.heap.objs.size m) (kp:∀ b o,s.heap.get? b=some o->h₁.get? b=some o) (htk:0 < tk):
  Inv (cxC X scope (clOf X.env.cells scope.names []) N' s.heap.objs.size s H fp) (X.pn++pins) (compσ nt fi σ) H { s with heap:=h₁,toks:=tk }:=by
 have hfr:∀ y ∈ scope.names,y.2=.free->∃ c,X.env.cells.lookup y.1=some c:=fun y hy e=>I.ok.has y.1 (cn.fre y hy e)
 have snd:∀ x c,(clOf X.env.cells scope.names []).lookup x=some c->X.env.cells.lookup x=some c:=fun x c e=>mU scope.names [] hfr (fun _ _ q=>by simp at q) e
 have offstk:∀ b,b≠X.env.locals->b ∉ X.fs->b ∉ frs X.stack:=fun b h1 h2 h3=>by
  rcases List.mem_cons.mp (I.stkSub b h3) with e | e
  ·exact h1 e
  ·exact h2 e
 have lt:∀ {b o},s.heap.get? b=some o->b≠s.heap.objs.size:=fun e=>Nat.ne_of_lt (Heap.lt_size e)
 have kinds:∀ x k,(relabel scope X.env).names.lookup x=some k->(k=.cell\/k=.free)->(x,NameKind.free) ∈ scope.names:=fun x k e hk=>by
  have e':(scope.names.map fun (n,k)=>if (k == NameKind.free && X.env.scope.kind == .function && X.env.kindOf n == some .cell) then (n,NameKind.cell) else (n,k)).lookup x=some k:=e;rw [fj] at e';cases q:scope.names.lookup x with
  | none=>rw [q] at e'; cases e'
  | some k'=>
   have mem:(x,k') ∈ scope.names:=PySem.mem_of_lookup q;rw [q] at e';simp only [Option.map_some,Option.some.injEq] at e';split at e'
   ·rename_i hc;simp only [Bool.and_eq_true,beq_iff_eq] at hc;rw [hc.1.1] at mem;exact mem
   ·subst e';rcases hk with z | z
    ·subst z;exact absurd rfl (S.nocell _ mem)
    ·subst z;exact mem
 refine ⟨⟨I.ok.mod,S.kind,I.ok.glob,I.ok.blt,Nat.le_refl _,fun x y c e1 e2=>I.ok.inj x y c (snd x c e1) (snd y c e2),fun x hx=>?_,fun x c e=>(nomatch e),I.ok.hd,I.ok.frames,.inl rfl,fun b hb=>⟨?_,fun x c e=>(hf b hb).2.2.2.2.1 x c (snd x c e)⟩,I.bs,?_,fun b o e hb=>?_,fun b hb=>offstk b (hf b hb).2.1 (hf b hb).2.2.1,I.stack,I.stkFree⟩,
  rfl,I.bare,Un.kept kp,⟨m,hns,fun i x v e1 e2 e3=>?_⟩,fun x c e=>?_,I.hok.fresh (Nat.le_refl _),fun x c e=>I.freeC x c (snd x c e),fun p hp=>?_,I.hok.kept kp,?_,htk⟩
 ·have hx':(relabel scope X.env).names.lookup x=some .cell\/(relabel scope X.env).names.lookup x=some .free:=hx;have mem:(x,NameKind.free) ∈ scope.names:=by
   rcases hx' with q | q
   ·exact kinds x _ q (.inl rfl)
   ·exact kinds x _ q (.inr rfl)
  exact Option.isSome_iff_exists.mp (mt scope.names [] mem)
 ·obtain ⟨o,e⟩:=ho b hb;exact lt e
 ·exact Nat.le_trans I.ok.bsz I.sz
 ·rcases (hf b hb).2.2.2.1 with q | q
  ·exact I.ok.noex b o e q
  ·exact absurd (Nat.lt_of_lt_of_le (Heap.lt_size e) (Nat.le_trans I.ok.bsz q)) (Nat.lt_irrefl _)
 ·have hi:¬ i < nt:=fun hi=>by
   unfold compσ at e2;rw [List.getElem?_append_left (by simpa using hi),List.getElem?_replicate] at e2;split at e2 <;> cases e2
  have ei:i=nt+(i - nt):=by omega
  have e2':(fi.map fun j=>(σ[j]?).getD none)[i - nt]? = some (some v):=by
   unfold compσ at e2;rw [List.getElem?_append_right (by simpa using Nat.le_of_not_lt hi)] at e2;simpa using e2
  rw [List.getElem?_map] at e2';cases ej:fi[i - nt]? with
  | none=>rw [ej] at e2'; cases e2'
  | some j=>
   rw [ej] at e2';obtain ⟨x',n1,n2,n3⟩:=cn.cap (i - nt) j ej;rw [<- ei] at n1;have e1':N'[i]? = some x:=e1;rw [n1] at e1';cases e1';have ev:σ[j]? = some (some v):=by
    have e2':some ((σ[j]?).getD none)=some (some v):=e2';cases q:σ[j]? with
    | none=>rw [q] at e2'; simp at e2'
    | some w=>rw [q] at e2'; simp at e2'; rw [e2']
   have mem:(x,NameKind.free) ∈ scope.names:=PySem.mem_of_lookup n3;have vis:=cn.fre _ mem rfl;obtain ⟨m0,hn0,hl0⟩:=I.loc;obtain ⟨u,ru,lk⟩:=hl0 j x v n2 ev (.inr vis);refine ⟨u,ru,?_⟩;rcases lk with ⟨q,_⟩ | ⟨q,c,ec,o,hoc,hod⟩
   ·have q':X.env.scope.names.lookup x=some .local:=q;rcases vis with z | z
    ·have z':X.env.scope.names.lookup x=some .cell:=z;rw [q'] at z'; cases z'
    ·have z':X.env.scope.names.lookup x=some .free:=z;rw [q'] at z'; cases z'
   ·obtain ⟨c',ec'⟩:=Option.isSome_iff_exists.mp (mt (cells:=X.env.cells) scope.names [] mem);have ecc:=snd x c' ec';rw [ec] at ecc;cases ecc;refine .inr ⟨?_,c,ec',o,kp c o hoc,hod⟩;show (relabel scope X.env).names.lookup x=some .cell\/(relabel scope X.env).names.lookup x=some .free;have e4:(relabel scope X.env).names.lookup x=(scope.names.lookup x).map fun k=>if (k == NameKind.free && X.env.scope.kind == .function && X.env.kindOf x == some .cell)=true then .cell else k:=fj X.env x scope.names
    rw [e4,n3];simp only [Option.map_some];split
    ·exact .inl rfl
    ·exact .inr rfl
 ·obtain ⟨v,o,hoc,hod⟩:=I.cell x c (snd x c e);exact ⟨v,o,kp c o hoc,hod⟩
 ·have hp':p ∈ X.pn++pins:=by
   have hp'':p ∈ ([]:List (Addr × Obj))++(X.pn++pins):=hp;simpa using hp''
  obtain ⟨e,n,ne,nf,d⟩:=I.pin p hp';exact ⟨kp _ _ e,n,lt e,offstk _ ne nf,d⟩
 ·show (compσ nt fi σ).length=N'.length;unfold compσ;rw [cn.len,List.length_append,List.length_replicate,List.length_map]
theorem su {pins:List (Addr × Obj)} {σ σ':St} {H H':Hp} {s s':Shared} {scope:Scope} {cl:List (Str × Addr)} {N':List Str} {fp:List Addr} {C:Addr} {P:List (Addr × Obj)} {h'':Heap}
  (I:Inv X pins σ H s) (hf:∀ b ∈ fp,FpOk X pins H b) (hC:s.heap.objs.size<=C) (J:Inv (cxC X scope cl N' C s H fp) P σ' H' s') (sb:Heap.SameBut C s'.heap h''):Inv X pins σ H' { s' with heap:=h'' }:=by
 have ne:∀ {b o},s.heap.get? b=some o->b≠C:=fun e=>Nat.ne_of_lt (Nat.lt_of_lt_of_le (Heap.lt_size e) hC)
 have u:Un (frs X.stack) fp H H' s.heap s'.heap:=J.base;refine I.call' (s':={ s' with heap:=h'' }) (ch:=fp) J.os ⟨fun b o e n hb hx=>?_,fun b o e n hb hx=>?_,u.free,fun b o e hx=>?_,u.tups,u.frzs,u.tbls⟩ (fun b o e=>?_) J.bare (fun b hb=>?_) J.tk
 ·exact (sb.2 b (ne e)).trans (u.keep b o e n hb hx)
 ·obtain ⟨sl,q⟩:=u.slot b o e n hb hx;exact ⟨sl,(sb.2 b (ne e)).trans q⟩
 ·obtain ⟨o',q⟩:=u.there b o e hx;exact ⟨o',(sb.2 b (ne e)).trans q⟩
 ·have fr:H' C=none:=J.free;refine (J.hok b o e).stay (fun c v hc q=>(sb.2 c ?_).trans q) (fun _ q=>q) fun _ _ q=>q
  rintro rfl;rcases hc with z | z
  ·subst z;rw [fr] at e;cases e
  ·rw [fr] at z;cases z
 ·obtain ⟨f0,f1,f2,f3,f4,f5⟩:=hf b hb;exact ⟨f3,f1,f4,f5⟩
theorem y6 {elt tg iter:Expr} {ifs:List Expr} {scope:Scope} {pos:Pos} {wi:TI} {g:TG} {tc:TT} {te:TE} {nt:Nat} {fi:List Nat} {N':List Str} (hcalm:X.calm=true)
  (S:CScope scope) (cn:CNames X scope nt fi N') (gk:GK nt g) (hi:PI X tg iter wi)
  (hg:∀ cl C s H ex,PG (cxC X scope cl N' C s H ex) tg g) (hc:∀ cl C s H ex,PIf (cxC X scope cl N' C s H ex) ifs tc) (he:∀ cl C s H ex,PE (cxC X scope cl N' C s H ex) elt te)
  (hs:∀ x,foldedSetIterable iter X.env x=pure x:=by intro _; rfl):PE X (.ListComp elt [⟨tg,iter,ifs,0⟩] scope pos) (tComp nt fi wi g tc te):=by
 intro pins s σ H Q I h;have hfr:∀ y ∈ scope.names,y.2=.free->∃ c,X.env.cells.lookup y.1=some c:=fun y hy e=>I.ok.has y.1 (cn.fre y hy e)
 rw [eval_ListComp];refine wpAny_comprehension_free (use:=none) rfl hs (iE hfr) S.kind S.loc (thn (hi pins s σ H _ I h) fun v s1 h1=>thn h1 fun itv s2 h2=>?_);obtain ⟨it,fp,tn,J,H2,e,I2,T,st2,f2,hW⟩:=h2;subst e;have fD:H2 s2.heap.objs.size=none:=I2.hok.fresh (Nat.le_refl _);obtain ⟨W,⟨m0,w0⟩,turn⟩:=hW s2.heap.objs.size fD;refine wpAny_newObj_type (wpAny_newFunctionEnv S.nocell (by intro y hy; simp at hy) (fun h₁ hns₁ hsb₁=>?_) S.kind);have I3:Inv X pins σ (upd H2 s2.heap.objs.size (.lst [])) { s2 with heap:=s2.heap.push { cls:=.type "list",dict:=none,data:=.seq ([]:List Value).toArray } }:=I2.lnew (its:=[]) (t':=s2.toks) .nil (Nat.zero_le _);generalize hs3:({ s2 with heap:=s2.heap.push { cls:=.type "list",dict:=none,data:=.seq ([]:List Value).toArray } }:Shared)=s3 at I3 hns₁ hsb₁ ⊢;have hsz:s3.heap.objs.size=s2.heap.objs.size+1:=by rw [<- hs3]; exact Heap.size_push ..
 have ob2:∀ b ∈ fp,∃ o,s3.heap.get? b=some o:=fun b hb=>by
  obtain ⟨o,e,_⟩:=T.obj _ _ st2 b hb;rw [<- hs3];exact ⟨o,Heap.get?_push_of_some _ e⟩
 have f3:∀ b ∈ fp,FpOk X pins (upd H2 s2.heap.objs.size (.lst [])) b:=fun b hb=>by
  obtain ⟨o,e,_⟩:=T.obj _ _ st2 b hb;refine ⟨?_,(f2 b hb).2⟩;rw [av (Nat.ne_of_lt (Heap.lt_size e))];exact (f2 b hb).1
 have kp:∀ b o,s3.heap.get? b=some o->h₁.get? b=some o:=fun b o e=>hsb₁.extBut b o (Nat.ne_of_lt (Heap.lt_size e)) (Heap.get?_push_of_some _ e)
 have st3:tn 0 h₁:=T.keep _ _ _ st2 fun b _ o e=>kp b o (by rw [<- hs3]; exact Heap.get?_push_of_some _ e)
 have J4:Inv (cxC X scope (clOf X.env.cells scope.names []) N' s3.heap.objs.size s3 (upd H2 s2.heap.objs.size (.lst [])) fp) (X.pn++pins) (compσ nt fi σ) (upd H2 s2.heap.objs.size (.lst [])) { s3 with heap:=h₁,toks:=s3.toks+([]:List (Str × Value)).length }:=
  ra I3 S cn f3 ob2 hns₁ kp I3.tk
 generalize hcl:clOf X.env.cells scope.names []=cl at J4 ⊢;generalize hH3:upd H2 s2.heap.objs.size (.lst [])=H3 at J4 I3 f3 w0;have stat:∀ {H':Hp},(∀ b ∈ fp,H' b=none)->∀ b ∈ fp,FpOk (cxC X scope cl N' s3.heap.objs.size s3 H3 fp) (X.pn++pins) H' b:=fun {H'} hn b hb=>by
  obtain ⟨g0,g1,g2,g3,g4,g5⟩:=f3 b hb;have ok:=J4.ok;refine ⟨hn b hb,(ok.exf b hb).1,ok.exfs b hb,.inl hb,(ok.exf b hb).2,fun p hp=>g5 p ?_⟩;have hp':p ∈ ([]:List (Addr × Obj))++(X.pn++pins):=hp;simpa using hp'
 have loop:∀ s₃:Shared,s₃ = { s3 with heap:=h₁,toks:=s3.toks+([]:List (Str × Value)).length } ->
   codeAny (model X.prog X.w) X.A (.compLoop (.ListComp elt [⟨tg,iter,ifs,0⟩] scope pos) 0 (.ref it) (.ref s2.heap.objs.size) (compEnvC scope cl s3.heap.objs.size X.env))
    (compPost (model X.prog X.w) X.A X.xe none (EP X pins σ Q) (.ref s2.heap.objs.size) s3.heap.objs.size) s₃:=by
  rintro s₃ rfl;refine kc (fun n s'=>∃ i acc H',Inv (cxC X scope cl N' s3.heap.objs.size s3 H3 fp) (X.pn++pins) (compσ nt fi σ) H' s'/\tn i s'.heap/\(∀ b ∈ fp,H' b=none)/\W i n acc H') ?_ m0
   ⟨0,[],H3,J4,st3,fun b hb=>(f3 b hb).1,w0⟩
  rintro n s5 ⟨i,acc,H5,I5,st5,fr5,w5⟩;rcases turn i n acc H5 w5 with ⟨stop,qn⟩ | ⟨go,step⟩
  ·refine thn (T.done (cxC X scope cl N' s3.heap.objs.size s3 H3 fp) rfl rfl rfl hcalm i (X.pn++pins) s5 (compσ nt fi σ) H5 (fun _ _=>False) I5 (stat fr5) st5 stop) fun r s6 ⟨hr,I6⟩=>?_
   subst hr;obtain ⟨m6,hn6,_⟩:=I6.loc;exact ⟨m6,hn6,fun h' sb=>⟨.ref s2.heap.objs.size,H5,su I3 f3 (Nat.le_refl _) I6 sb,rfl,qn⟩⟩
  ·refine thn (T.item (cxC X scope cl N' s3.heap.objs.size s3 H3 fp) rfl rfl rfl hcalm i (X.pn++pins) s5 (compσ nt fi σ) H5 (fun _ _=>False) I5 (stat fr5) st5 go) fun r s6 ⟨u,hr,h6⟩=>?_
   subst hr;refine thn h6 fun _ s7 ⟨x,H7,I7,r7,y7,st7,fr7⟩=>?_
   have I7':=I7.pinned (stat fr7) (T.obj _ _ st7);refine thn (hg _ _ _ _ _ _ s7 (compσ nt fi σ) H7 x u _ I7' r7 (gk _ _ _ _ (step x H7 y7))) fun _ s8 ⟨σ8,H8,I8,q8,l8,d8⟩=>?_
   refine thn (hc _ _ _ _ _ _ s8 σ8 H8 _ I8 q8) fun b s9 ⟨H9,I9,q9⟩=>?_
   have again:∀ {s':Shared} {H':Hp} {m':Nat} {acc':List V},Inv (cxC X scope cl N' s3.heap.objs.size s3 H3 fp) ((X.pn++pins)++pinsAt fp s7.heap) σ8 H' s'->m' < n->W (i+1) m' acc' H' ->
     ∃ m,m < n/\∃ i acc H',Inv (cxC X scope cl N' s3.heap.objs.size s3 H3 fp) (X.pn++pins) (compσ nt fi σ) H' s'/\tn i s'.heap/\(∀ b ∈ fp,H' b=none)/\W i m acc H':=fun {s' H' m' acc'} I' hm w'=>by
    refine ⟨m',hm,i+1,acc',H',I'.unpinned.weak l8.symm (compσ_weak l8 d8),T.keep _ _ _ st7 fun b hb o e=>(I'.pin (b,o) (List.mem_append_right _ (List.mem_append_right _ (dz hb e)))).1,fun b hb=>?_,w'⟩;obtain ⟨o,e,d⟩:=T.obj _ _ st7 b hb;exact (I'.pin (b,o) (List.mem_append_right _ (List.mem_append_right _ (dz hb e)))).2.1
   cases b with
   | false=>
    rw [if_neg Bool.false_ne_true] at q9 ⊢;obtain ⟨m',hm,w'⟩:=q9;exact again I9 hm w'
   | true=>
    rw [if_pos rfl] at q9 ⊢;refine thn (he _ _ _ _ _ _ s9 σ8 H9 _ I9 q9) fun uv s10 ⟨v10,H10,I10,r10,hD,hlt,m',hm,w'⟩=>?_
    refine thn (li (X:=cxC X scope cl N' s3.heap.objs.size s3 H3 fp) _ s10 σ8 H10 (.ref s2.heap.objs.size) [v10] (.ref s2.heap.objs.size) [uv] (fun _ H'=>H'=upd H10 s2.heap.objs.size (.lst (acc++[v10]))) I10 rfl (.cons r10 .nil) ⟨_,acc,v10,rfl,rfl,hD,hlt,rfl⟩) fun _ s11 ⟨_,H11,I11,_,e11⟩=>?_
    subst e11;exact again I11 hm w'
 exact codeAny_compStart_list (loop _ rfl) (T.self _ 0 _ _ _ st3 (loop _ rfl))
end
noncomputable abbrev st (l:List Nat):Str:=⟨l.toArray⟩
theorem fc (l:List Nat):(st l).length=l.length:=by simp [Str.length]
theorem am (l:List Nat):(st l).cps.toList=l:=rfl
theorem Bb (l m:List Nat):st l++st m=st (l++m):=by
 show Str.append (st l) (st m)=_;simp [Str.append]
theorem dh {l m:List Nat}:st l=st m ↔ l=m:=by simp
theorem tK {ys:List Str}:∀ {us:List Value},Vals (ys.map V.str) us->StrsAre us ys:=by
 induction ys with
 | nil=>intro us r; cases r; exact .nil
 | cons y r ih=>
  intro us h;cases h with
  | cons r1 r2=>
   obtain ⟨t,rfl⟩:=r1;exact .cons y t (ih r2)
theorem oa (l:List Nat):Txt.join ⟨#[]⟩ (l.map fun k=>(⟨#[k]⟩:Str))=st l:=by
 have h:=join_plain_closes ⟨#[]⟩ (l.map fun k=>(⟨#[k]⟩:Str));rw [eq_of_beq h];exact join_ones l
section
variable {X:Cx}
noncomputable def rJoin (K:Frag):V->List V->Hp->VK->Prop:=fun x vs H Q=>∃ sep l ys,x=.str sep/\vs=[.ref l]/\SqL K H l (ys.map V.str)/\(ys.map (·.length)).sum+ys.length*sep.length<=16777216/\Q (.str (Txt.join sep ys)) H
theorem yG:MtR X "str.join" (rJoin X.K):=by
 intro pins s σ H x vs v us Q I rx rv h;obtain ⟨sep,l,ys,rfl,rfl,hq,hz,q⟩:=h;obtain ⟨t,rfl⟩:=rx;obtain ⟨u,rfl,ru⟩:=rv.one;cases ru;obtain ⟨its,r,pl,_⟩:=I.list hq;exact tokQ I.tk (join_list pl.isList (tK r) hz fun t' k (htk:0 < k)=>⟨.str _,H,I.tok _,⟨_,rfl⟩,q⟩)
theorem yb (l:List Nat):((l.map fun k=>(⟨#[k]⟩:Str)).map (·.length)).sum=l.length:=by
 induction l with
 | nil=>rfl
 | cons a r ih=>
  rw [List.map_cons,List.map_cons,List.sum_cons,ih,List.length_cons];show 1+r.length=r.length+1;omega
noncomputable def rJoin1 (K:Frag):V->List V->Hp->VK->Prop:=fun x vs H Q=>∃ l cs,x=.str (Str.ofString "")/\vs=[.ref l]/\SqL K H l (cs.map fun k=>V.str ⟨#[k]⟩)/\cs.length<=10000/\Q (.str (st cs)) H
theorem kh:Str.ofString "" = ⟨#[]⟩:=by decide +kernel
theorem xC:MtR X "str.join" (rJoin1 X.K):=by
 intro pins s σ H x vs v us Q I rx rv h;obtain ⟨l,cs,rfl,rfl,hq,hz,q⟩:=h;refine yG pins s σ H _ _ v us Q I rx rv ⟨_,l,cs.map fun k=>⟨#[k]⟩,rfl,rfl,?_,?_,?_⟩
 ·rw [List.map_map];exact hq
 ·rw [yb,List.length_map,kh];show cs.length+cs.length*0<=16777216;omega
 ·rw [kh,oa];exact q
noncomputable def rSlS:V->Option Int->Option Int->Hp->VK->Prop:=fun x lo hi H Q=>∃ z,x=.str z/\z.length<=sizeLine/\Q (.str (Txt.slice z lo hi)) H
theorem sV:SlR X rSlS:=by
 intro pins s σ H x v vl vu lo hi sl Q I rx hs pl pu h;obtain ⟨z,rfl,hz,q⟩:=h;obtain ⟨t,rfl⟩:=rx;have fin:∀ t' k,0 < k->EP X pins σ Q (.str (Txt.slice z lo hi) t') { s with toks:=k }:=fun t' k htk=>⟨.str _,H,I.tok _,⟨_,rfl⟩,q⟩
 refine ⟨"str",_,F.slot_str_getitem.lookup,typeIs_str _ _ _,tokQ I.tk ?_⟩;obtain ⟨o,e1,e2,e3⟩:=id hs;cases pl with
 | none=>
  cases pu with
  | none=>exact wpAny_getItem_str_slice (l:=none) (u:=none) (st:=none) ⟨o,e1,e2,e3⟩ rfl (post_val_or_str ⟨Nat.le_trans (Txt.slice_le z _ _) hz,fin⟩)
  | int j tj=>exact wpAny_getItem_str_slice (l:=none) (u:=some (j,tj)) (st:=none) ⟨o,e1,e2,e3⟩ rfl (post_val_or_str ⟨Nat.le_trans (Txt.slice_le z _ _) hz,fin⟩)
 | int i ti=>
  cases pu with
  | none=>exact wpAny_getItem_str_slice (l:=some (i,ti)) (u:=none) (st:=none) ⟨o,e1,e2,e3⟩ rfl (post_val_or_str ⟨Nat.le_trans (Txt.slice_le z _ _) hz,fin⟩)
  | int j tj=>exact wpAny_getItem_str_slice (l:=some (i,ti)) (u:=some (j,tj)) (st:=none) ⟨o,e1,e2,e3⟩ rfl (post_val_or_str ⟨Nat.le_trans (Txt.slice_le z _ _) hz,fin⟩)
theorem mC (l:List Nat) (k:Nat) (h:k<=l.length):Txt.slice (st l) none (some (k:Int))=st (l.take k):=by
 have q:=slice_closes_to (x:=st l) (j:=(k:Int)) ⟨by omega,by simpa using h⟩;rw [eq_of_beq q];simp
theorem sW (l:List Nat) (k:Nat) (h:k<=l.length):Txt.slice (st l) (some (k:Int)) none=st (l.drop k):=by
 have q:=slice_from_eq (x:=st l) (i:=(k:Int)) (b:=(l.length:Int)) (by omega) (by simpa [Str.length] using h) (by simp [Str.length]);rw [q];simp only [am,Int.toNat_natCast];rw [List.take_of_length_le (by rw [List.length_drop]; omega)]
theorem uk:OpR X (binaryOp .Mult) (fun x y H Q=>∃ z n,x=.str z/\y=.int n/\MulOk z n/\Q (.str (Txt.mul z n)) H):=by
 intro pins s σ H x y v u Q I rx ry h;obtain ⟨z,n,rfl,rfl,hok,q⟩:=h;obtain ⟨t,rfl⟩:=rx;obtain ⟨t',rfl⟩:=ry;exact tokQ I.tk (SB.mul hok fun t' k (htk:0 < k)=>⟨.str _,H,I.tok _,⟨_,rfl⟩,q⟩)
theorem mul1 (k n:Nat):Txt.mul ⟨#[k]⟩ (n:Int)=st (List.replicate n k):=by
 have q:=mul_one_list k (n:Int);rw [Int.toNat_natCast] at q;have e:∀ x:Str,x=⟨x.cps.toList.toArray⟩:=fun x=>by simp
 rw [e (Txt.mul ⟨#[k]⟩ (n:Int)),q]
theorem r9:CallR X (.builtin "isinstance") (fun xs H Q=>∃ x n t b,xs=[x,.ty n]/\TyOf X.K H x t/\PySem.W.kitOne X.K t (.type n)=some b/\Q (.bl b) H):=by
 intro pins s σ H xs us Q I r h;obtain ⟨x,n,t,b,rfl,ty,e,q⟩:=h;obtain ⟨u,w',rfl,r1,r2⟩:=vals2 r;cases r2;exact tokQ I.tk (vM I r1 ty e fun tk (htk:0 < tk)=>⟨.bl b,H,I.tok _,rfl,q⟩)
theorem vz (hu:X.A.units < cLine):OpR X (compareOp .Eq) (fun x y H Q=>∃ a b xs,x=.ref a/\y=.ref b/\SqL X.K H a xs/\SqL X.K H b []/\Q (.bl (decide (xs=[]))) H):=by
 intro pins s σ H x y v u Q I rx ry h;obtain ⟨a,b,xs,rfl,rfl,ha,hb,q⟩:=h;cases rx;cases ry;obtain ⟨its,r1,p1,_⟩:=I.list ha;obtain ⟨its2,r2,p2,_⟩:=I.list hb;cases r2;cases r1 with
 | nil=>exact SeqAt.eq_listAt (e:=fun _=>true) p1.isList p2.isList rfl hu (fun j h1 _=>absurd h1 (by simp)) ⟨.bl true,H,I,rfl,q⟩
 | cons rx rr=>exact SeqAt.eq_list_lengthsAt p1.isList p2.isList (by simp) hu ⟨.bl false,H,I,rfl,by simpa using q⟩
end
def Fn (K:Frag) (mg:Str->Option Value) (x:Str) (st:Stmt):Prop:=∃ f fd,Fun K x x st f fd/\mg x=some (.ref f)
def Callee (P:Program) (w:World) (K:Frag) (mg:Str->Option Value) (base:Heap) (k:Nat) (x:Str) (ps:List Str) (sp:Sp):Prop:=
 ∃ f fd,FnOk P w K mg base CX0 k f fd ps sp/\Binds K fd ps []/\keepIn K (.ref f)=true/\mg x=some (.ref f)
theorem Fn.cal {P:Program} {w:World} {K:Frag} {mg:Str->Option Value} {base:Heap} {x:Str} {st:Stmt} {N ps:List Str} {k:Nat} {sp:Sp} (F:Fn K mg x st) (S:FnScope N ps (defScope st)) (len:∀ vs H Q E,sp vs H Q E->vs.length=ps.length)
  (hb:∀ (kV doc pm:Value) (an:Option Addr) (cdv ct:Value) (us:List Value),us.length=ps.length->bindArgs (fnOf x x (defArgs st) (defBody st) (defScope st) .none kV doc pm an cdv ct) ⟨us,[]⟩=pure (ps.zip us))
  (hbody:∀ (f:Addr) (cdv:Value) (A:Around) (outer:List Env) (s:Shared) (H:Hp) (vs:List V) (Q:VK) (E:XK),Room k (A.deeper (envOfC x (defScope st) s.heap.objs.size f cdv))->sp vs H Q E ->
   ∃ t,PSs (cxOf CX0 P w K mg base N x (defScope st) f cdv A outer s H E).nox (defBody st) t/\t { nx:=fun _ H'=>Q .non H',rt:=Q } (start N vs) H):Callee P w K mg base (k+1) x ps sp:=by
 obtain ⟨f,fd,F,m⟩:=F;exact ⟨f,fd,F.ok S len (hbody f),F.binds hb,F.kp,m⟩
section
variable {X:Cx} {k:Nat} {x:Str} {ps:List Str} {sp:Sp} {p pos:Pos} {e:Expr} {es:List Expr} {t:TA}
theorem au (C:Callee X.prog X.w X.K X.mg X.base k x ps sp) (hr:Room k X.A) (hg:Gl X x) (ha:PA X (e::es) t)
  (he:starEach (e::es) X.env=(false,eval e X.env)::starEach es X.env:=by rfl) (hpl:(backTo pos (starEach es X.env)).any (·.1)=false:=by rfl) (hd:(x == ("__debug__" : Str))=false:=by decide):PE X (.Call (.Name x p) (e::es) [] pos) (tCall sp [] E0 t):=by
 obtain ⟨f,fd,F,b,kp,m⟩:=C;exact uK F hr hg m kp b .nil pass0 ha (hdb:=hd) (he:=he) (hpl:=hpl)
end
noncomputable def tJoin (t u:TS):TS:=fun D σ H=>∃ J:St->Hp->Prop,t { D with nx:=J } σ H/\∀ σ' H',J σ' H'->u D σ' H'
theorem fq {X:Cx} {st:Stmt} {rest:List Stmt} {t u:TS} (h1:PS X st t) (h2:PSs X rest u):PSs X (st::rest) (tJoin t u):=by
 intro pins s σ H D I h;obtain ⟨J,hj,hr⟩:=h;refine wpAny_execs_cons (thn (h1 pins s σ H { D with nx:=J } I hj) fun f s1 q=>?_);cases f with
 | next=>
  obtain ⟨σ',H',I',q⟩:=q;exact h2 pins s1 σ' H' D I' (hr σ' H' q)
 | ret v=>exact q
 | brk=>exact q
 | cont=>exact q
theorem ah {H:Hp} {p:Addr} (h:H p=none) (o:HO):Same H (upd H p o):=fun b u q=>by rw [av (bq q h)]; exact q
theorem aK {H H':Hp} {p:Addr} {o:HO} (s:Same H H') (h:H p=none):Same H (upd H' p o):=fun b u q=>by rw [av (bq q h)]; exact s b u q
theorem sizeBig {n:Nat} (h:n<=100000):n < sizeLine:=Nat.lt_of_le_of_lt h (by decide)
def RowL (l:List Nat):Prop:=∀ c ∈ l,c=48\/c=49\/c=45
section
variable {X:Cx}
theorem PE.imp {e:Expr} {t t':TE} (h:PE X e t) (k:∀ σ H Q,t' σ H Q->t σ H Q):PE X e t':=fun pins s σ H Q I q=>h pins s σ H Q I (k σ H Q q)
theorem PT.imp {e:Expr} {t t':TT} (h:PT X e t) (k:∀ σ H Q,t' σ H Q->t σ H Q):PT X e t':=fun pins s σ H Q I q=>h pins s σ H Q I (k σ H Q q)
theorem PI.imp {tg e:Expr} {t t':TI} (h:PI X tg e t) (k:∀ σ H Q,t' σ H Q->t σ H Q):PI X tg e t':=fun pins s σ H Q I q=>h pins s σ H Q I (k σ H Q q)
theorem OpR.imp {f:Value->Value->Sem Value} {r r':R2} (h:OpR X f r) (k:∀ x y H Q,r' x y H Q->r x y H Q):OpR X f r':=fun pins s σ H x y v u Q I rx ry q=>h pins s σ H x y v u Q I rx ry (k x y H Q q)
theorem IxR.imp {r r':R2} (h:IxR X r) (k:∀ x y H Q,r' x y H Q->r x y H Q):IxR X r':=fun a b pins s σ H x y v u Q I rx ry q=>h a b pins s σ H x y v u Q I rx ry (k x y H Q q)
theorem SlR.imp {r r':V->Option Int->Option Int->Hp->VK->Prop} (h:SlR X r) (k:∀ x a b H Q,r' x a b H Q->r x a b H Q):SlR X r':=fun pins s σ H x v vl vu lo hi sl Q I rx hs pl pu q=>h pins s σ H x v vl vu lo hi sl Q I rx hs pl pu (k x lo hi H Q q)
noncomputable def cVar (i:Nat):TE:=fun σ H Q=>match σ[i]? with | some (some v)=>Q v H | _=>False
theorem qv (i:Nat) {x:Str} {pos:Pos} (hN:X.N[i]? = some x:=by rfl) (hv:Vis X.env.scope x:=by first | exact Or.inl rfl | exact Or.inr (Or.inl rfl) | exact Or.inr (Or.inr rfl)) (hd:(x == ("__debug__" : Str))=false:=by decide)
  (hcd:(x == ("__classdict__" : Str))=false:=by decide):PE X (.Name x pos) (cVar i):=(xi hN hv hd hcd).imp fun σ H Q q=>by
 unfold cVar at q;split at q
 ·exact ⟨_,by assumption,q⟩
 ·exact q.elim
theorem qs (l:List Nat) {x:Str} {j pos} (h:x=st l:=by decide +kernel):PE X (.Constant (.str x) j pos) (tC (.str (st l))):=by
 rw [<- h];exact xu
theorem aF (a:Str):st a.cps.toList=a:=by simp
noncomputable def kAdd:R2:=fun x y H Q=>match x,y with
 | .int i,.int j=>Q (.int (i+j)) H
 | .str a,.str b=>a.cps.toList.length+b.cps.toList.length<=100000/\Q (.str (st (a.cps.toList++b.cps.toList))) H
 | .ref l,.ref b=>∃ xs zs,H l=some (.lst xs)/\H b=some (.lst zs)/\xs.length+zs.length<=sizeLine/\∀ p,H p=none->Q (.ref p) (upd H p (.lst (xs++zs)))
 | _,_=>False
theorem ap:OpR X (binaryOp .Add) kAdd:=by
 intro pins s σ H x y v u Q I rx ry q;unfold kAdd at q;split at q
 ·exact A1 pins s σ H _ _ v u Q I rx ry ⟨_,_,rfl,rfl,q⟩
 ·obtain ⟨h,q⟩:=q;refine tM pins s σ H _ _ v u Q I rx ry ⟨_,_,rfl,rfl,?_,?_⟩
  ·have:(100000:Nat)<=sizeLine:=by decide
   simp only [Array.length_toList] at h;simp only [Str.length];omega
  ·rename_i a b;have e:a++b=st (a.cps.toList++b.cps.toList):=by
    rw [<- Bb,aF,aF]
   rw [e];exact q
 ·obtain ⟨xs,zs,h1,h2,h3,q⟩:=q;exact AZ pins s σ H _ _ v u Q I rx ry ⟨_,_,_,_,rfl,rfl,h1,h2,h3,q⟩
 ·exact q.elim
noncomputable def kI (C:Int->Int->Prop) (g:Int->Int->V):R2:=fun x y H Q=>match x,y with
 | .int i,.int j=>C i j/\Q (g i j) H
 | _,_=>False
noncomputable def kI0 (g:Int->Int->V):R2:=fun x y H Q=>match x,y with
 | .int i,.int j=>Q (g i j) H
 | _,_=>False
theorem xJ {C:Int->Int->Prop} {g:Int->Int->V}:∀ x y H Q,kI C g x y H Q->rI C g x y H Q:=fun x y H Q q=>by
 unfold kI at q;split at q
 ·exact ⟨_,_,rfl,rfl,q.1,q.2⟩
 ·exact q.elim
theorem qJ {g:Int->Int->V}:∀ x y H Q,kI0 g x y H Q->rI0 g x y H Q:=fun x y H Q q=>by
 unfold kI0 at q;split at q
 ·exact ⟨_,_,rfl,rfl,q⟩
 ·exact q.elim
noncomputable abbrev kSub:R2:=kI0 fun i j=>.int (i - j)
noncomputable abbrev kMod:R2:=kI (fun _ j=>0 < j) fun i j=>.int (i % j)
noncomputable abbrev kFdiv:R2:=kI CDiv fun i j=>.int (i / j)
theorem zG:OpR X (binaryOp .Sub) kSub:=Ar.imp qJ
theorem cN:OpR X (binaryOp .Mod) kMod:=Ax.imp xJ
theorem gz:OpR X (binaryOp .FloorDiv) kFdiv:=zN.imp xJ
noncomputable def kMul:R2:=fun x y H Q=>match x,y with
 | .int i,.int j=>CMul i j/\Q (.int (i*j)) H
 | .str a,.int n=>∃ c,a.cps.toList=[c]/\0<=n/\n<=10000/\Q (.str (st (List.replicate n.toNat c))) H
 | .ref l,.int k=>∃ xs,H l=some (.lst xs)/\0<=k/\k<=10000/\xs.length=1/\∀ p,H p=none->Q (.ref p) (upd H p (.lst (List.replicate k.toNat xs).flatten))
 | _,_=>False
theorem vY (k n:Nat) (hn:n<=10000):MulOk ⟨#[k]⟩ (n:Int):=by
 have hl:(⟨#[k]⟩:Str).length=1:=rfl;refine ⟨?_,fun _ _=>?_,fun _ _=>?_⟩
 ·rw [decide_eq_false (by omega),decide_eq_false (by omega)];rfl
 ·rw [hl];intro z;have:(2 ^ 63 - 1) / (n:Int) < 1:=by omega
  have h2:(n:Int)<=10000:=by omega
  have h1:¬ (n:Int) < 1:=by assumption
  have h3:1<=(2 ^ 63 - 1) / (n:Int):=by
   rw [Int.le_ediv_iff_mul_le (by omega)];omega
  omega
 ·rw [hl];unfold PySem.Builtin.Str.tooLong sizeLine;exact decide_eq_false (by rw [Int.toNat_natCast]; have:(2:Nat) ^ 24=16777216:=(by decide); omega)
theorem cD:OpR X (binaryOp .Mult) kMul:=by
 intro pins s σ H x y v u Q I rx ry q;unfold kMul at q;split at q
 ·exact Am pins s σ H _ _ v u Q I rx ry ⟨_,_,rfl,rfl,q.1,q.2⟩
 ·obtain ⟨c,e,h0,h1,q⟩:=q;rename_i a n;obtain ⟨k,rfl⟩:∃ k:Nat,n=k:=⟨n.toNat,by omega⟩;have ea:a=⟨#[c]⟩:=by rw [<- aF a,e]
  subst ea;refine uk pins s σ H _ _ v u Q I rx ry ⟨_,_,rfl,rfl,vY c k (by omega),?_⟩;rw [mul1];exact q
 ·obtain ⟨xs,h1,h2,h3,h4,q⟩:=q;refine wR pins s σ H _ _ v u Q I rx ry ⟨_,_,_,rfl,rfl,h1,by omega,by omega,?_,q⟩;have:(10000:Nat)<=sizeLine:=by decide
  rw [h4];omega
 ·exact q.elim
noncomputable def kEq (neg:Bool):R2:=fun x y H Q=>match x,y with
 | .int i,.int j=>Q (.bl (neg ^^ decide (i=j))) H
 | .str a,.str b=>Q (.bl (neg ^^ decide (a.cps.toList=b.cps.toList))) H
 | .bl a,.bl b=>Q (.bl (neg ^^ decide (a=b))) H
 | .non,.non=>Q (.bl (neg ^^ true)) H
 | .non,.int _=>Q (.bl (neg ^^ false)) H
 | .int _,.non=>Q (.bl (neg ^^ false)) H
 | .non,.str _=>Q (.bl (neg ^^ false)) H
 | .str _,.non=>Q (.bl (neg ^^ false)) H
 | _,_=>False
theorem rW (a b:Str):decide (V.str a=V.str b)=decide (a.cps.toList=b.cps.toList):=by
 by_cases h:a.cps.toList=b.cps.toList
 ·have:a=b:=by rw [<- aF a,h,aF]
  subst this;simp
 ·rw [decide_eq_false h,decide_eq_false (fun z=>h (by cases z; rfl))]
theorem By:∀ x y H Q,kEq false x y H Q->rEq x y H Q:=fun x y H Q q=>by
 unfold kEq at q;split at q <;> first
  | exact q.elim
  | (refine ⟨rfl,?_⟩; first | (rw [rW]; simpa using q) | simpa using q)
theorem A6:∀ x y H Q,kEq true x y H Q->rNe x y H Q:=fun x y H Q q=>by
 unfold kEq at q;split at q <;> first
  | exact q.elim
  | (refine ⟨rfl,?_⟩; first | (rw [rW]; simpa using q) | simpa using q)
theorem bf:OpR X (compareOp .Eq) (kEq false):=BF.imp By
theorem jN:OpR X (compareOp .NotEq) (kEq true):=BU.imp A6
noncomputable abbrev kLe:R2:=kI0 fun i j=>.bl (decide (i<=j))
noncomputable abbrev kGt:R2:=kI0 fun i j=>.bl (decide (j < i))
theorem Bw:OpR X (compareOp .LtE) kLe:=BA.imp qJ
theorem ja:OpR X (compareOp .Gt) kGt:=BG.imp qJ
noncomputable def kIs (neg:Bool):R2:=fun x y H Q=>match y with
 | .non=>Q (.bl (neg ^^ decide (x=.non))) H
 | _=>False
theorem qx:OpR X (compareOp .Is) (kIs false):=Ah.imp fun x y H Q q=>by
 unfold kIs at q;split at q
 ·exact ⟨rfl,by simpa using q⟩
 ·exact q.elim
theorem vP:OpR X (compareOp .IsNot) (kIs true):=yV.imp fun x y H Q q=>by
 unfold kIs at q;split at q
 ·exact ⟨rfl,by simpa using q⟩
 ·exact q.elim
noncomputable def kIn (K:Frag) (neg:Bool):R2:=fun x y H Q=>match x,y with
 | .str a,.str b=>∃ c,a.cps.toList=[c]/\Q (.bl (neg ^^ decide (c ∈ b.cps.toList))) H
 | x,.ref p=>∃ xs,(SqL K H p xs\/SqT K H p xs)/\flatV x=true/\xs.all flatV=true/\Q (.bl (neg ^^ inV x xs)) H
 | _,_=>False
theorem vT:OpR X (compareOp .NotIn) (kIn X.K true):=by
 intro pins s σ H x y v u Q I rx ry q;unfold kIn at q;split at q
 ·obtain ⟨c,e,q⟩:=q;rename_i a b;have ea:a=⟨#[c]⟩:=by rw [<- aF a,e]
  subst ea;refine qF pins s σ H _ _ v u Q I rx ry ⟨_,_,rfl,rfl,?_⟩;rw [StrLaws.found_one];simpa using q
 ·obtain ⟨xs,h1,h2,h3,q⟩:=q;exact pM pins s σ H _ _ v u Q I rx ry ⟨_,_,rfl,h1,h2,h3,by simpa using q⟩
 ·exact q.elim
noncomputable def kIx (K:Frag):R2:=fun x y H Q=>match x,y with
 | .str z,.int i=>z.cps.toList.length<=100000/\∃ c,atI z.cps.toList i=some c/\Q (.str (st [c])) H
 | .ref p,.int i=>∃ xs v,(SqL K H p xs\/SqT K H p xs)/\atI xs i=some v/\Q v H
 | _,_=>False
theorem big5:(100000:Nat)<=sizeLine:=by decide
theorem strlen (z:Str):z.length=z.cps.toList.length:=by simp [Str.length]
theorem B0:IxR X (kIx X.K):=Bk.imp fun x y H Q q=>by
 unfold kIx at q;split at q
 ·obtain ⟨h,c,e,q⟩:=q;exact .inr (.inr ⟨_,_,c,rfl,rfl,by rw [strlen]; exact Nat.le_trans h big5,e,q⟩)
 ·obtain ⟨xs,v,h | h,e,q⟩:=q
  ·exact .inl ⟨_,_,_,_,rfl,rfl,h,e,q⟩
  ·exact .inr (.inl ⟨_,_,_,_,rfl,rfl,h,e,q⟩)
 ·exact q.elim
noncomputable def kLen (K:Frag):List V->Hp->VK->Prop:=fun xs H Q=>match xs with
 | [.str z]=>z.cps.toList.length<=100000/\Q (.int z.cps.toList.length) H
 | [.ref p]=>∃ ys,(SqL K H p ys\/SqT K H p ys)/\Q (.int ys.length) H
 | _=>False
theorem vp:CallR X (.builtin "len") (kLen X.K):=by
 intro pins s σ H xs us Q I r q;unfold kLen at q;split at q
 ·obtain ⟨h,q⟩:=q;refine qk pins s σ H _ us Q I r ⟨_,rfl,by rw [strlen]; exact Nat.le_trans h big5,?_⟩;rw [strlen];exact q
 ·obtain ⟨ys,h,q⟩:=q;exact qh pins s σ H _ us Q I r ⟨_,_,rfl,h,q⟩
 ·exact q.elim
noncomputable def up (t:TE):TE:=fun σ H Q=>∃ Q0:VK,t σ H Q0/\∀ v H',Q0 v H'->Q v H'
noncomputable def up2 (r:R2):R2:=fun x y H Q=>∃ Q0:VK,r x y H Q0/\∀ v H',Q0 v H'->Q v H'
theorem EP.imp {pins:List (Addr × Obj)} {σ:St} {Q Q':VK} {u:Value} {s:Shared} (h:EP X pins σ Q u s) (k:∀ v H',Q v H'->Q' v H'):EP X pins σ Q' u s:=by
 obtain ⟨v,H',I,r,q⟩:=h;exact ⟨v,H',I,r,k v H' q⟩
theorem PE.mono {e:Expr} {t:TE} (h:PE X e t):PE X e (up t):=fun pins s σ H Q I ⟨Q0,q,k⟩=>thn (h pins s σ H Q0 I q) fun u s' z=>z.imp k
theorem OpR.mono {f:Value->Value->Sem Value} {r:R2} (h:OpR X f r):OpR X f (up2 r):=fun pins s σ H x y v u Q I rx ry ⟨Q0,q,k⟩=>thn (h pins s σ H x y v u Q0 I rx ry q) fun u s' z=>z.imp k
noncomputable def blK (Q:Bool->Hp->Prop):VK:=fun x H'=>match x with | .bl k=>Q k H' | _=>False
theorem kS {Q:Bool->Hp->Prop} {x:V} {H':Hp} (h:blK Q x H'):∃ k,x=.bl k/\Q k H':=by
 unfold blK at h;split at h
 ·exact ⟨_,rfl,h⟩
 ·exact h.elim
noncomputable def cTest (t:TE):TT:=fun σ H Q=>t σ H (blK Q)
theorem cG {e:Expr} {t:TE} (h:PE X e t) (he:∀ whole,isTrue e X.env whole=(do let v <- whole; standAt e.pos; holding [v] (truthy v)):=by intro _; rfl):PT X e (cTest t):=
 (Bc h.mono he).imp fun σ H Q q=>⟨_,q,fun v H' z=>kS z⟩
variable {a b c:Expr} {ta tb tc:TE} {pos:Pos} {rest:List Expr}
theorem aC {op:CmpOp} {r:R2} (ho:OpR X (compareOp op) r) (ha:PE X a ta) (hb:PE X b tb) (hm:behindInMarks op b=false:=by first | exact nomark _ | rfl):PT X (.Compare a [op] [b] pos) (cTest (tOp r ta tb)):=
 (yU ho.mono ha.mono hb.mono hm).imp fun σ H Q q=>⟨_,q,fun x H1 z=>⟨_,z,fun y H2 z2=>⟨_,z2,fun v H' z3=>kS z3⟩⟩⟩
theorem jM {op:CmpOp} {r:R2} (ho:OpR X (compareOp op) r) (ha:PE X a ta) (hb:PE X b tb) (hm:behindInMarks op b=false:=by first | exact nomark _ | rfl):PE X (.Compare a [op] [b] pos) (tOp r ta tb):=zz ho ha hb hm
noncomputable def cAndV (ta tb:TE):TE:=fun σ H Q=>ta σ H (blK fun c H1=>if c=true then tb σ H1 Q else Q (.bl false) H1)
noncomputable def cOrV (ta tb:TE):TE:=fun σ H Q=>ta σ H (blK fun c H1=>if c=true then Q (.bl true) H1 else tb σ H1 Q)
theorem pO (ha:PE X a ta) (hb:PE X (.BoolOp .And (b::rest) pos) tb):PE X (.BoolOp .And (a::b::rest) pos) (cAndV ta tb):=(Ak ha.mono hb).imp fun σ H Q q=>⟨_,q,fun v H' z=>kS z⟩
theorem BM (ha:PE X a ta) (hb:PE X (.BoolOp .Or (b::rest) pos) tb):PE X (.BoolOp .Or (a::b::rest) pos) (cOrV ta tb):=(BL ha.mono hb).imp fun σ H Q q=>⟨_,q,fun v H' z=>kS z⟩
variable {o e:Expr} {to te:TE} {apos cpos:Pos}
noncomputable def cApp (to te:TE):TE:=fun σ H Q=>to σ H fun x H1=>match x with
 | .ref l=>(∃ xs,H1 l=some (.lst xs))/\te σ H1 fun y H2=>∃ xs,H2 l=some (.lst xs)/\xs.length < sizeLine/\Q .non (upd H2 l (.lst (xs++[y])))
 | _=>False
theorem dC (ho:PE X o to) (he:PE X e te) (hbase:attributeBase o "append" X.env (eval o X.env)=eval o X.env:=by rfl)
  (hfew:((backTo cpos (starEach [e] X.env)).all (fun x=>!x.1) && (backToKw cpos (keywordEach [] X.env)).all (fun x=>x.1.isSome)
   && decide ([e].length+([]:List Keyword).length+(if ([]:List Keyword).isEmpty then 0 else 1) < 30))=true:=by rfl)
  (hline:(apos.endLine == cpos.line)=true:=by rfl) (hs:starEach [e] X.env=(false,eval e X.env)::starEach [] X.env:=by rfl) (hplain:(backTo cpos (starEach [] X.env)).any (·.1)=false:=by rfl):
  PE X (.Call (.Attribute o "append" apos) [e] [] cpos) (cApp to te):=
 (ny PySem.F.plainAttrs_list PySem.F.slot_list_append PySem.F.type_list_append li ho.mono (aa he.mono ad hs) hbase hfew hline hs hplain).imp fun σ H Q q=>⟨_,q,fun x H1 z=>by
  split at z
  ·rename_i l;obtain ⟨⟨xs,h⟩,z⟩:=z;refine ⟨.inl ⟨rfl,_,SqL.of h⟩,_,z,fun y H2 z2=>?_⟩;obtain ⟨xs2,h2,h3,z3⟩:=z2;exact ⟨l,xs2,y,rfl,rfl,h2,h3,z3⟩
  ·exact z.elim⟩
noncomputable def cJoin1 (K:Frag) (te:TE):TE:=fun σ H Q=>te σ H fun x H1=>match x with
 | .ref l=>∃ cs:List Nat,SqL K H1 l (cs.map fun k=>V.str (st [k]))/\cs.length<=10000/\Q (.str (st cs)) H1
 | _=>False
theorem wZ {j:Nat} {p1:Pos} (he:PE X e te) (hfew:((backTo cpos (starEach [e] X.env)).all (fun x=>!x.1) && (backToKw cpos (keywordEach [] X.env)).all (fun x=>x.1.isSome)
   && decide ([e].length+([]:List Keyword).length+(if ([]:List Keyword).isEmpty then 0 else 1) < 30))=true:=by rfl)
  (hline:(apos.endLine == cpos.line)=true:=by rfl) (hs:starEach [e] X.env=(false,eval e X.env)::starEach [] X.env:=by rfl) (hplain:(backTo cpos (starEach [] X.env)).any (·.1)=false:=by rfl)
  (hbase:attributeBase (.Constant (.str (Str.ofString "")) j p1) "join" X.env (eval (.Constant (.str (Str.ofString "")) j p1) X.env)=eval (.Constant (.str (Str.ofString "")) j p1) X.env:=by rfl):
  PE X (.Call (.Attribute (.Constant (.str (Str.ofString "")) j p1) "join" apos) [e] [] cpos) (cJoin1 X.K te):=
 (ny PySem.F.plainAttrs_str PySem.F.slot_str_join PySem.F.type_str_join xC xu (aa he.mono ad hs) hbase hfew hline hs hplain).imp fun σ H Q q=>⟨rfl,_,q,fun x H1 z=>by
  split at z
  ·obtain ⟨cs,h,h2,z⟩:=z;exact ⟨_,cs,rfl,rfl,h,h2,z⟩
  ·exact z.elim⟩
end
section
variable {X:Cx} {tg a b e:Expr} {te ta tb:TE} {pos p:Pos}
noncomputable def cIter (K:Frag) (te:TE):TI:=fun σ H R=>te σ H fun x H1=>match x with
 | .str z=>R (Its z) H1
 | .ref a=>((∃ xs,SqL K H1 a xs)/\R (Itl K a) H1)\/((∃ xs,SqT K H1 a xs)/\R (Itt K a) H1)
 | _=>False
theorem yQ (he:PE X e te):PI X tg e (cIter X.K te):=by
 intro pins s σ H R I h;refine thn (he pins s σ H _ I h) fun v s1 ⟨y,H1,I1,r1,q1⟩=>?_
 dsimp only at q1;split at q1
 ·rename_i x;obtain ⟨t,rfl⟩:=r1;refine wpAny_pyIter_strU ?_;refine ⟨s1.heap.objs.size,[s1.heap.objs.size],_,Its x,H1,rfl,I1.kept (t':=s1.toks) fun b o e=>Heap.get?_push_of_some _ e,wG x t _,⟨_,Heap.get?_push_size _ rfl,rfl,rfl⟩,fun b hb=>?_,q1⟩;have e:b=s1.heap.objs.size:=by simpa using hb
  subst e;exact I1.fpOk (Nat.le_refl _) (I1.hok.fresh (Nat.le_refl _))
 ·rename_i l;cases r1;rcases q1 with ⟨⟨xs,hq⟩,q⟩ | ⟨⟨xs,hq⟩,q⟩
  ·obtain ⟨its,rv,p,hz⟩:=I1.list hq;refine wpAny_pyIter_list p.isList ?_;refine ⟨s1.heap.objs.size,[s1.heap.objs.size],_,_,H1,rfl,I1.kept (t':=s1.toks) fun b o e=>Heap.get?_push_of_some _ e,vU l _,⟨_,Heap.get?_push_size _ rfl,rfl,rfl⟩,fun b hb=>?_,q⟩;have e:b=s1.heap.objs.size:=by simpa using hb
   subst e;exact I1.fpOk (Nat.le_refl _) (I1.hok.fresh (Nat.le_refl _))
  ·obtain ⟨its,rv,p,hz⟩:=I1.tuple hq;refine wpAny_pyIter_tuple (show s1.heap.IsTuple l its.toArray from p) ?_;refine ⟨s1.heap.objs.size,[s1.heap.objs.size],_,_,H1,rfl,I1.kept (t':=s1.toks) fun b o e=>Heap.get?_push_of_some _ e,um l _,⟨_,Heap.get?_push_size _ rfl,rfl,rfl⟩,fun b hb=>?_,q⟩;have e:b=s1.heap.objs.size:=by simpa using hb
   subst e;exact I1.fpOk (Nat.le_refl _) (I1.hok.fresh (Nat.le_refl _))
 ·exact q1.elim
noncomputable def cRng1 (te:TE):TI:=fun σ H R=>te σ H fun x H1=>match x with
 | .int j=>-1000000<=j/\j<=1000000/\R (Itr 0 j.toNat) H1
 | _=>False
theorem bB (hg:Gl X "range") (hm:X.mg "range" = none) (ha:PE X a ta) (hs:starEach [a] X.env=[(false,eval a X.env)]:=by rfl):PI X tg (.Call (.Name "range" p) [a] [] pos) (cRng1 ta):=
 (wo hg hm (aa ha.mono ad hs) hs).imp fun σ H R q=>⟨_,q,fun x H1 z=>by
  split at z
  ·exact ⟨_,rfl,by omega,by omega,z.2.2⟩
  ·exact z.elim⟩
def srcK (K:Frag) (H:Hp) (v:V) (R:Src->Prop):Prop:=match v with
 | .str x=>R (.str x)
 | .ref a=>(∃ xs,SqL K H a xs)/\R (.lst a)
 | _=>False
theorem mh {K:Frag} {H:Hp} {v:V} {R:Src->Prop} (h:srcK K H v R):∃ S,SrcOf K H S v/\R S:=by
 unfold srcK at h;split at h
 ·exact ⟨.str _,rfl,h⟩
 ·exact ⟨.lst _,⟨rfl,h.1⟩,h.2⟩
 ·exact h.elim
noncomputable def cZip (K:Frag) (ta tb:TE):TI:=fun σ H R=>ta σ H fun x H1=>tb σ H1 fun y H2=>srcK K H2 x fun S1=>srcK K H2 y fun S2=>R (Itz K S1 S2) H2
theorem AI {elts:List Expr} {kk:Nat} {tpos:Pos} (hg:Gl X "zip") (hm:X.mg "zip" = none) (ha:PE X a ta) (hb:PE X b tb) (hs:starEach [a,b] X.env=[(false,eval a X.env),(false,eval b X.env)]:=by rfl) (hs2:starEach [b] X.env=[(false,eval b X.env)]:=by rfl):
  PI X (.Tuple elts kk tpos) (.Call (.Name "zip" p) [a,b] [] pos) (cZip X.K ta tb):=
 (Bp hg hm (aa ha.mono (aa hb.mono ad hs2) (by rw [hs,hs2])) hs hs2).imp fun σ H R q=>⟨_,q,fun x H1 z=>⟨_,z,fun y H2 z=>by
  obtain ⟨S1,o1,z⟩:=mh z;obtain ⟨S2,o2,z⟩:=mh z;exact ⟨S1,S2,x,y,rfl,o1,o2,z⟩⟩⟩
end
def loopW (J:It) (g:TG) (tb:TS) (D:Ends) (σ:St) (H:Hp):Prop:=∃ W:Nat->Nat->St->Hp->Prop,(∃ m,W 0 m σ H)/\∀ i m σ H,W i m σ H ->
 (J.stop i H/\D.nx σ H)\/(J.go i H/\∃ N:St->Hp->Prop,(∀ σ' H',N σ' H'->∃ m',m' < m/\W (i+1) m' σ' H')/\∀ x H',J.yld i H x H'->g x σ H' fun σ2 H2=>tb { D with nx:=N,ct:=N,bk:=D.nx } σ2 H2)
noncomputable def cFor (wi:TI) (g:TG) (tb:TS):TS:=fun D σ H=>wi σ H fun J H1=>loopW J g tb D σ H1
theorem aU {X:Cx} {tg iter:Expr} {body:List Stmt} {wi:TI} {g:TG} {tb:TS} {pos:Pos} (hp:PassesOwn (model X.prog X.w) X.A X.env X.xe) (hc:X.calm=true) (hi:PI X tg iter wi) (hg:PG X tg g) (hb:PSs X body tb)
  (hs:∀ x,foldedSetIterable iter X.env x=pure x:=by intro _; rfl):PS X (.For tg iter body [] pos) (cFor wi g tb):=A3 hp hc hi hg hb hs
section
variable {K:Frag} {g:TG} {tb:TS} {D:Ends} {σ:St} {H:Hp}
noncomputable abbrev Ends.turn (D:Ends) (N:St->Hp->Prop):Ends:={ D with nx:=N,ct:=N,bk:=D.nx }
theorem wK {l:List Nat} (Pv:Nat->St->Hp->Prop) (h0:Pv 0 σ H) (hs:∀ i c σ H,l[i]? = some c->Pv i σ H->g (.str (st [c])) σ H fun σ2 H2=>tb (D.turn (Pv (i+1))) σ2 H2) (hd:∀ σ H,Pv l.length σ H->D.nx σ H):
  loopW (Its (st l)) g tb D σ H:=
 tN (n:=l.length) Pv h0 (fun i σ H hi _=>by show i < (st l).cps.size; simpa using hi) (fun σ H _=>by show (st l).cps.size<=l.length; simp)
  (fun i σ H x H' hi p y=>by
   obtain ⟨rfl,c,hc,rfl⟩:=y;exact hs i c σ _ (by simpa using hc) p) hd
theorem bj {p:Addr} {xs:List V} (Pv:Nat->St->Hp->Prop) (h0:Pv 0 σ H) (hl:∀ i σ H,i<=xs.length->Pv i σ H->SqL K H p xs)
  (hs:∀ i x σ H,xs[i]? = some x->Pv i σ H->g x σ H fun σ2 H2=>tb (D.turn (Pv (i+1))) σ2 H2) (hd:∀ σ H,Pv xs.length σ H->D.nx σ H):loopW (Itl K p) g tb D σ H:=xR Pv h0 hl hs hd
theorem eY {α:Type} (item:α -> V) (xs:List α) {p:Addr} (Pv:Nat->St->Hp->Prop) (h0:Pv 0 σ H) (hl:∀ i σ H,i<=xs.length->Pv i σ H->SqL K H p (xs.map item))
  (hs:∀ i x σ H,xs[i]? = some x->Pv i σ H->g (item x) σ H fun σ2 H2=>tb (D.turn (Pv (i+1))) σ2 H2) (hd:∀ σ H,Pv xs.length σ H->D.nx σ H):loopW (Itl K p) g tb D σ H:=
 bj (xs:=xs.map item) Pv h0 (fun i σ H hi=>hl i σ H (by simpa using hi)) (fun i x σ H hx p=>by
  rw [List.getElem?_map] at hx;obtain ⟨y,hy,rfl⟩:=Option.map_eq_some_iff.mp hx;exact hs i y σ H hy p) (fun σ H p=>hd σ H (by simpa using p))
theorem dt {lo:Int} {n:Nat} (Pv:Nat->St->Hp->Prop) (h0:Pv 0 σ H) (hs:∀ i σ H,i < n->Pv i σ H->g (.int (lo+i)) σ H fun σ2 H2=>tb (D.turn (Pv (i+1))) σ2 H2) (hd:∀ σ H,Pv n σ H->D.nx σ H):
  loopW (Itr lo n) g tb D σ H:=vh Pv h0 hs hd
noncomputable def SrcVals (K:Frag) (H:Hp):Src->List V->Prop
 | .str x,xs=>xs=x.cps.toList.map fun c=>V.str (st [c])
 | .lst a,xs=>SqL K H a xs
theorem SrcVals.go {S:Src} {xs:List V} {i:Nat} (h:SrcVals K H S xs) (hi:i < xs.length):SrcGo K H S i:=by
 cases S with
 | str x=>
  have e:xs=x.cps.toList.map fun c=>V.str (st [c]):=h
  subst e;show i < x.cps.size;simpa using hi
 | lst a=>exact ⟨xs,xs[i],h,by simp [hi]⟩
theorem SrcVals.stop {S:Src} {xs:List V} {i:Nat} (h:SrcVals K H S xs) (hi:xs.length<=i):SrcEnd K H S i:=by
 cases S with
 | str x=>
  have e:xs=x.cps.toList.map fun c=>V.str (st [c]):=h
  subst e;show x.cps.size<=i;simpa using hi
 | lst a=>exact ⟨xs,h,hi⟩
theorem SrcVals.at {S:Src} {xs:List V} {i:Nat} {v:V} (h:SrcVals K H S xs) (q:SrcAt K H S i v):xs[i]? = some v:=by
 cases S with
 | str x=>
  have e:xs=x.cps.toList.map fun c=>V.str (st [c]):=h
  subst e;obtain ⟨c,hc,rfl⟩:=q;simp [hc]
 | lst a=>exact q xs h
theorem SqT.upd_same {p:Addr} {xs:List V}:SqT K (upd H p (.tup xs)) p xs:=SqT.of L2.upd_same
theorem rD {S1 S2:Src} {xs ys:List V} {j k:Nat} (Pv:Nat->St->Hp->Prop) (h0:Pv 0 σ H) (hl:∀ i σ H,Pv i σ H->SrcVals K H S1 xs/\SrcVals K H S2 ys)
  (hs:∀ i x y σ H T,xs[i]? = some x->ys[i]? = some y->Pv i σ H->H T=none->tb (D.turn (Pv (i+1))) ((σ.set j (some x)).set k (some y)) (upd H T (.tup [x,y]))) (hd:∀ σ H,Pv (min xs.length ys.length) σ H->D.nx σ H):
  loopW (Itz K S1 S2) (gTup K 2 (gCons (gName j) (gCons (gName k) gNil))) tb D σ H:=
 tN (n:=min xs.length ys.length) Pv h0 (fun i σ H hi p=>by
   obtain ⟨q1,q2⟩:=hl i σ H p;exact ⟨q1.go (by omega),q2.go (by omega)⟩)
  (fun σ H p=>by
   obtain ⟨q1,q2⟩:=hl _ σ H p;by_cases h:xs.length<=ys.length
   ·exact .inl (q1.stop (by omega))
   ·exact .inr ⟨q1.go (by omega),q2.stop (by omega)⟩)
  (fun i σ H v H' hi p y=>by
   obtain ⟨T,x,y,rfl,hT,rfl,s1,s2⟩:=y;obtain ⟨q1,q2⟩:=hl i σ H p;exact ⟨T,[x,y],rfl,SqT.upd_same,rfl,x,[y],rfl,y,[],rfl,rfl,hs i x y σ H T (q1.at s1) (q2.at s2) p hT⟩) hd
end
def compW (J:It) (g:TG) (tc:TT) (te:TE) (σc:St) (D:Addr) (Q:VK) (H:Hp):Prop:=
 ∃ W:Nat->Nat->List V->Hp->Prop,(∃ m,W 0 m [] (upd H D (.lst [])))/\∀ i m acc H2,W i m acc H2 ->
  (J.stop i H2/\Q (.ref D) H2)\/(J.go i H2/\∀ x H3,J.yld i H2 x H3->g x σc H3 fun σ4 H4=>tc σ4 H4 fun b H5=>if b=true then
   te σ4 H5 fun v H6=>H6 D=some (.lst acc)/\acc.length < sizeLine/\∃ m',m' < m/\W (i+1) m' (acc++[v]) (upd H6 D (.lst (acc++[v]))) else ∃ m',m' < m/\W (i+1) m' acc H5)
noncomputable def cComp (nt:Nat) (fi:List Nat) (wi:TI) (g:TG) (tc:TT) (te:TE):TE:=fun σ H Q=>wi σ H fun J H1=>∀ D,H1 D=none->compW J g tc te (compσ nt fi σ) D Q H1
theorem bZ {X:Cx} {elt tg iter:Expr} {ifs:List Expr} {scope:Scope} {pos:Pos} {wi:TI} {g:TG} {tc:TT} {te:TE} {nt:Nat} {fi:List Nat} {N':List Str} (hcalm:X.calm=true)
  (S:CScope scope) (cn:CNames X scope nt fi N') (gk:GK nt g) (hi:PI X tg iter wi)
  (hg:∀ cl C s H ex,PG (cxC X scope cl N' C s H ex) tg g) (hc:∀ cl C s H ex,PIf (cxC X scope cl N' C s H ex) ifs tc) (he:∀ cl C s H ex,PE (cxC X scope cl N' C s H ex) elt te)
  (hs:∀ x,foldedSetIterable iter X.env x=pure x:=by intro _; rfl):PE X (.ListComp elt [⟨tg,iter,ifs,0⟩] scope pos) (cComp nt fi wi g tc te):=y6 hcalm S cn gk hi hg hc he hs
section
variable {K:Frag} {J:It} {g:TG} {tc:TT} {te:TE} {σc:St} {D:Addr} {Q:VK} {H:Hp}
theorem dZ {α:Type} (f:Nat->List α) (n:Nat):(List.range (n+1)).flatMap f=(List.range n).flatMap f++f n:=by
 rw [List.range_succ,List.flatMap_append];simp
theorem nz {α:Type} (f:Nat->List α) (hf:∀ i,(f i).length<=1) (n:Nat):((List.range n).flatMap f).length<=n:=by
 induction n with
 | zero=>simp
 | succ n ih=>
  rw [dZ,List.length_append];have:=hf n;omega
theorem qa {n:Nat} (f:Nat->List V) (hfree:H D=none) (hn:n<=100000) (hf:∀ i,(f i).length<=1) (hy:∀ i H x H',J.yld i H x H'->Same H H')
  (hgo:∀ i H',i < n->Same H H'->J.go i H') (hst:∀ H',Same H H'->J.stop n H')
  (hs:∀ i H1 x H2 (out:VK) (non:Hp->Prop),i < n->Same H H1->J.yld i H1 x H2->(∀ v H6,f i=[v]->Same H2 H6->out v H6)->(∀ H5,f i=[]->Same H2 H5->non H5) ->
   g x σc H2 fun σ4 H4=>tc σ4 H4 fun b H5=>if b=true then te σ4 H5 out else non H5)
  (hq:∀ H',Same H H'->H' D=some (.lst ((List.range n).flatMap f))->Q (.ref D) H'):compW J g tc te σc D Q H:=by
 refine ⟨fun i m acc H2=>m=n - i/\i<=n/\acc=(List.range i).flatMap f/\Same H H2/\H2 D=some (.lst acc),⟨n,by simp,Nat.zero_le _,by simp,ah hfree _,upd_same⟩,?_⟩;rintro i m acc H2 ⟨rfl,hi,rfl,sm,hD⟩;by_cases hlt:i < n
 ·refine .inr ⟨hgo i H2 hlt sm,fun x H3 y=>?_⟩;have s23:=hy i H2 x H3 y;refine hs i H2 x H3 _ _ hlt sm y (fun v H6 e s6=>?_) fun H5 e s5=>?_
  ·refine ⟨s6 _ _ (s23 _ _ hD),Nat.lt_of_le_of_lt (nz f hf i) (sizeBig (by omega)),n - (i+1),by omega,rfl,hlt,?_,?_,upd_same⟩
   ·rw [dZ,e]
   ·exact aK (sm.trans (s23.trans s6)) hfree
  ·refine ⟨n - (i+1),by omega,rfl,hlt,?_,sm.trans (s23.trans s5),s5 _ _ (s23 _ _ hD)⟩;rw [dZ,e,List.append_nil]
 ·have e:i=n:=by omega
  subst e;exact .inl ⟨hst H2 sm,hq H2 sm hD⟩
noncomputable def atH {α β:Type} (xs:List α) (h:α -> List β) (i:Nat):List β:=((xs[i]?).map h).getD []
theorem q5 {α β:Type} {xs:List α} {h:α -> List β} {i:Nat} {x:α} (e:xs[i]? = some x):atH xs h i=h x:=by simp [atH,e]
theorem uG {α β:Type} {xs:List α} {h:α -> List β} (hf:∀ x,(h x).length<=1) (i:Nat):(atH xs h i).length<=1:=by
 unfold atH;cases xs[i]? with
 | none=>simp
 | some x=>simpa using hf x
theorem uM {α β:Type} (xs:List α) (h:α -> List β):(List.range xs.length).flatMap (atH xs h)=xs.flatMap h:=by
 induction xs with
 | nil=>rfl
 | cons a xs ih=>
  rw [List.length_cons,List.range_succ_eq_map,List.flatMap_cons,List.flatMap_map,List.flatMap_cons,<- ih];rfl
section
variable {α:Type} (item:α -> V) (xs:List α) (h:α -> List V)
theorem cc {p:Addr} (hfree:H D=none) (hl:SqL K H p (xs.map item)) (hn:xs.length<=100000) (hf:∀ x,(h x).length<=1)
  (hs:∀ x H1 (out:VK) (non:Hp->Prop),x ∈ xs->Same H H1->(∀ v H6,h x=[v]->Same H1 H6->out v H6)->(∀ H5,h x=[]->Same H1 H5->non H5) ->
   g (item x) σc H1 fun σ4 H4=>tc σ4 H4 fun b H5=>if b=true then te σ4 H5 out else non H5)
  (hq:∀ H',Same H H'->H' D=some (.lst (xs.flatMap h))->Q (.ref D) H'):compW (Itl K p) g tc te σc D Q H:=by
 refine qa (n:=xs.length) (atH xs h) hfree hn (uG hf) (fun i H x H' y=>?_) (fun i H' hi s=>?_) (fun H' s=>?_) (fun i H1 x H2 out non hi s y ho hnn=>?_) fun H' s q=>?_
 ·rw [y.1];exact Same.refl _
 ·exact ⟨_,item xs[i],s.seq hl,by simp [hi]⟩
 ·exact ⟨_,s.seq hl,by simp⟩
 ·obtain ⟨rfl,y⟩:=y;have e:=y _ (s.seq hl);rw [List.getElem?_map,List.getElem?_eq_getElem hi] at e;have e2:item xs[i]=x:=Option.some.inj e;subst e2;simp only [q5 (List.getElem?_eq_getElem hi)] at ho hnn;exact hs xs[i] _ out non (List.getElem_mem hi) s ho hnn
 ·rw [uM] at q;exact hq H' s q
theorem jY {lo:Int} {n:Nat} {h:Nat->List V} (hfree:H D=none) (hn:n<=100000) (hf:∀ x,(h x).length<=1)
  (hs:∀ i H1 (out:VK) (non:Hp->Prop),i < n->Same H H1->(∀ v H6,h i=[v]->Same H1 H6->out v H6)->(∀ H5,h i=[]->Same H1 H5->non H5) ->
   g (.int (lo+i)) σc H1 fun σ4 H4=>tc σ4 H4 fun b H5=>if b=true then te σ4 H5 out else non H5)
  (hq:∀ H',Same H H'->H' D=some (.lst ((List.range n).flatMap h))->Q (.ref D) H'):compW (Itr lo n) g tc te σc D Q H:=by
 refine qa (n:=n) h hfree hn hf (fun i H x H' y=>?_) (fun i H' hi s=>hi) (fun H' s=>Nat.le_refl _) (fun i H1 x H2 out non hi s y ho hnn=>?_) hq
 ·rw [y.1];exact Same.refl _
 ·obtain ⟨rfl,rfl⟩:=y;exact hs i _ out non hi s ho hnn
theorem rk {S1 S2:Src} {us ws:List V} {j k:Nat} {h:V->V->List V} (hfree:H D=none) (h1:∀ H',Same H H'->SrcVals K H' S1 us) (h2:∀ H',Same H H'->SrcVals K H' S2 ws) (hn:us.length<=100000) (hf:∀ x y,(h x y).length<=1)
  (hs:∀ x y H1 (out:VK) (non:Hp->Prop),(x,y) ∈ us.zip ws->Same H H1->(∀ v H6,h x y=[v]->Same H1 H6->out v H6)->(∀ H5,h x y=[]->Same H1 H5->non H5) ->
   tc ((σc.set j (some x)).set k (some y)) H1 fun b H5=>if b=true then te ((σc.set j (some x)).set k (some y)) H5 out else non H5)
  (hq:∀ H',Same H H'->H' D=some (.lst ((us.zip ws).flatMap fun p=>h p.1 p.2))->Q (.ref D) H'):compW (Itz K S1 S2) (gTup K 2 (gCons (gName j) (gCons (gName k) gNil))) tc te σc D Q H:=by
 refine qa (n:=(us.zip ws).length) (atH (us.zip ws) fun p=>h p.1 p.2) hfree (by rw [List.length_zip]; omega) (uG fun p=>hf p.1 p.2) (fun i H x H' y=>?_) (fun i H' hi s=>?_) (fun H' s=>?_) (fun i H1 x H2 out non hi s y ho hnn=>?_) fun H' s q=>?_
 ·obtain ⟨T,x,y,_,hT,rfl,_⟩:=y;exact ah hT _
 ·rw [List.length_zip] at hi;exact ⟨(h1 H' s).go (by omega),(h2 H' s).go (by omega)⟩
 ·rw [List.length_zip];by_cases h:us.length<=ws.length
  ·exact .inl ((h1 H' s).stop (by omega))
  ·exact .inr ⟨(h1 H' s).go (by omega),(h2 H' s).stop (by omega)⟩
 ·obtain ⟨T,x,y,rfl,hT,rfl,s1,s2⟩:=y;have q1:=(h1 _ s).at s1;have q2:=(h2 _ s).at s2;have e:(us.zip ws)[i]? = some (x,y):=by
   rw [List.getElem?_zip_eq_some];exact ⟨q1,q2⟩
  simp only [q5 e] at ho hnn;exact ⟨T,[x,y],rfl,SqT.upd_same,rfl,x,[y],rfl,y,[],rfl,rfl,hs x y _ out non (List.mem_of_getElem? e) (s.trans (ah hT _)) ho hnn⟩
 ·rw [uM (us.zip ws) fun p=>h p.1 p.2] at q;exact hq H' s q
end
end
noncomputable def cnOk (N:List Str) (sc scope:Scope) (nt:Nat) (fi:List Nat) (N':List Str):Bool:=
 N'.length == nt+fi.length && ((List.range fi.length).all fun k=>match fi[k]? with
  | some j=>match N'[nt+k]?,N[j]? with
   | some x,some y=>x == y && scope.names.lookup x == some NameKind.free
   | _,_=>false
  | none=>false) && scope.names.all fun y=>y.2 != NameKind.free || (sc.names.lookup y.1 == some NameKind.cell || sc.names.lookup y.1 == some NameKind.free)
theorem cnames {X:Cx} {N:List Str} {sc scope:Scope} {nt:Nat} {fi:List Nat} {N':List Str} (hN:X.N=N) (hsc:X.env.scope=sc) (h:cnOk N sc scope nt fi N'=true):CNames X scope nt fi N':=by
 unfold cnOk at h;simp only [Bool.and_eq_true,List.all_eq_true,List.mem_range,beq_iff_eq] at h;obtain ⟨⟨h1,h2⟩,h3⟩:=h;refine ⟨h1,fun k j e=>?_,fun y hy e=>?_⟩
 ·have hk:k < fi.length:=(List.getElem?_eq_some_iff.mp e).1;have q:=h2 k hk;rw [e] at q;dsimp only at q;split at q
  ·rename_i x y e1 e2;simp only [Bool.and_eq_true,beq_iff_eq] at q;obtain ⟨rfl,q⟩:=q;exact ⟨_,e1,by rw [hN]; exact e2,q⟩
  ·cases q
 ·have q:=h3 y hy;rw [e] at q;rw [hsc];simpa using q
theorem cscope {scope:Scope} (hk:scope.kind=.function) (h:(scope.names.all fun y=>y.2 != NameKind.cell && (y.2 != NameKind.local || scope.names.lookup y.1 == some NameKind.local))=true):CScope scope:=by
 simp only [List.all_eq_true,Bool.and_eq_true] at h;refine ⟨hk,fun y hy e=>?_,fun y hy e=>?_⟩
 ·have:=(h y hy).1;rw [e] at this;exact absurd this (by decide)
 ·have:=(h y hy).2;rw [e] at this;simpa using this
theorem aW:bootBuiltins "len" = some (.builtin "len"):=by decide +kernel
theorem xa:bootBuiltins "sum" = some (.builtin "sum"):=by decide +kernel
theorem ni:bootBuiltins "min" = some (.builtin "min"):=by decide +kernel
theorem Ay:bootBuiltins "max" = some (.builtin "max"):=by decide +kernel
theorem u3:bootBuiltins "sorted" = some (.builtin "sorted"):=by decide +kernel
theorem jw:bootBuiltins "isinstance" = some (.builtin "isinstance"):=by decide +kernel
theorem mQ:bootBuiltins "str" = some (.type "str"):=by decide +kernel
theorem xh:bootBuiltins "int" = some (.type "int"):=by decide +kernel
theorem mi:bootBuiltins "bool" = some (.type "bool"):=by decide +kernel
theorem fv:bootBuiltins "list" = some (.type "list"):=by decide +kernel
theorem kg:bootBuiltins "tuple" = some (.type "tuple"):=by decide +kernel
theorem An:bootBuiltins "set" = some (.type "set"):=by decide +kernel
inductive Ty where
 | bool | int | str | list | tuple
noncomputable def Ty.nm:Ty->String
 | .bool => "bool" | .int => "int" | .str => "str" | .list => "list" | .tuple => "tuple"
noncomputable def Ty.isBl:Ty->Bool
 | .bool=>true | .int=>true | _=>false
noncomputable def Ty.isInt:Ty->Bool
 | .int=>true | _=>false
noncomputable def Ty.isStr:Ty->Bool
 | .str=>true | _=>false
noncomputable def Ty.isLst:Ty->Bool
 | .list=>true | _=>false
noncomputable def Ty.isTup:Ty->Bool
 | .tuple=>true | _=>false
section
variable {K:Frag}
theorem za (n:Ty):PySem.W.kitOne K (.type "NoneType") (.type n.nm)=some false:=by cases n <;> with_unfolding_all rfl
theorem AO (n:Ty):PySem.W.kitOne K (.type "bool") (.type n.nm)=some n.isBl:=by cases n <;> with_unfolding_all rfl
theorem zM (n:Ty):PySem.W.kitOne K (.type "int") (.type n.nm)=some n.isInt:=by cases n <;> with_unfolding_all rfl
theorem yE (n:Ty):PySem.W.kitOne K (.type "str") (.type n.nm)=some n.isStr:=by cases n <;> with_unfolding_all rfl
theorem zy (n:Ty):PySem.W.kitOne K (.type "list") (.type n.nm)=some n.isLst:=by cases n <;> with_unfolding_all rfl
theorem zc (n:Ty):PySem.W.kitOne K (.type "tuple") (.type n.nm)=some n.isTup:=by cases n <;> with_unfolding_all rfl
end
section
variable {X:Cx} {a b e:Expr} {ta tb te:TE} {pos p p2:Pos}
theorem Ab {x:Str} {n:String} (hg:Gl X x) (hm:X.mg x=none) (hv:bootBuiltins x=some (.type n)) (hn:x ≠ "__name__" := by decide) (hd:(x == ("__debug__" : Str))=false:=by decide):PE X (.Name x pos) (tC (.ty n)):=y0 (v:=.ty n) hg hm hv rfl hn hd
noncomputable def cIsI (n:Ty) (ta:TE):TE:=fun σ H Q=>ta σ H fun x H1=>match x with
 | .non=>Q (.bl false) H1
 | .bl _=>Q (.bl n.isBl) H1
 | .int _=>Q (.bl n.isInt) H1
 | .str _=>Q (.bl n.isStr) H1
 | .ref p=>((∃ xs,H1 p=some (.lst xs))/\Q (.bl n.isLst) H1)\/((∃ xs,H1 p=some (.tup xs))/\Q (.bl n.isTup) H1)
 | _=>False
theorem bh {x:Str} (n:Ty) (hg:Gl X "isinstance") (hm:X.mg "isinstance" = none) (ha:PE X a ta) (hg2:Gl X x) (hm2:X.mg x=none) (hv2:bootBuiltins x=some (.type n.nm)) (hn2:x ≠ "__name__" := by decide) (hd2:(x == ("__debug__" : Str))=false:=by decide)
  (hs:starEach [a,.Name x p2] X.env=(false,eval a X.env)::starEach [.Name x p2] X.env:=by rfl) (hpl:(backTo pos (starEach [.Name x p2] X.env)).any (·.1)=false:=by rfl):PE X (.Call (.Name "isinstance" p) [a,.Name x p2] [] pos) (cIsI n ta):=
 (aB r9 hg hm jw (aa ha.mono (aa (Ab hg2 hm2 hv2 hn2 hd2) ad) hs) (he:=hs) (hpl:=hpl)).imp fun σ H Q q=>⟨_,q,fun v H1 z=>by
  show ∃ x n t b,[v,V.ty _]=[x,.ty n]/\TyOf X.K H1 x t/\PySem.W.kitOne X.K t (.type n)=some b/\Q (.bl b) H1;split at z
  ·exact ⟨_,_,_,_,rfl,.non,za n,z⟩
  ·exact ⟨_,_,_,_,rfl,.bl _,AO n,z⟩
  ·exact ⟨_,_,_,_,rfl,.int _,zM n,z⟩
  ·exact ⟨_,_,_,_,rfl,.str _,yE n,z⟩
  ·rcases z with ⟨⟨xs,h⟩,z⟩ | ⟨⟨xs,h⟩,z⟩
   ·exact ⟨_,_,_,_,rfl,.lst h,zy n,z⟩
   ·exact ⟨_,_,_,_,rfl,.tup h,zc n,z⟩
  ·exact z.elim⟩
noncomputable def kSl (K:Frag):V->Option Int->Option Int->Hp->VK->Prop:=fun x lo hi H Q=>match x with
 | .str z=>match lo,hi with
  | none,some j=>z.cps.toList.length<=100000/\0<=j/\j<=z.cps.toList.length/\Q (.str (st (z.cps.toList.take j.toNat))) H
  | some i,none=>z.cps.toList.length<=100000/\0<=i/\i<=z.cps.toList.length/\Q (.str (st (z.cps.toList.drop i.toNat))) H
  | _,_=>False
 | .ref a=>∃ xs,SqL K H a xs/\∀ p,H p=none->Q (.ref p) (upd H p (.lst (cutV xs lo hi)))
 | _=>False
theorem BY:SlR X (kSl X.K):=by
 refine (SlR.or sV yy).imp fun x lo hi H Q q=>?_
 unfold kSl at q;split at q
 ·rename_i z;split at q
  ·obtain ⟨h,h0,h1,q⟩:=q;rename_i j;obtain ⟨k,rfl⟩:∃ k:Nat,j=k:=⟨j.toNat,by omega⟩;refine .inl ⟨z,rfl,by rw [strlen]; exact Nat.le_trans h big5,?_⟩;have e:=mC z.cps.toList k (by omega);rw [aF] at e;rw [e];simpa using q
  ·obtain ⟨h,h0,h1,q⟩:=q;rename_i j;obtain ⟨k,rfl⟩:∃ k:Nat,j=k:=⟨j.toNat,by omega⟩;refine .inl ⟨z,rfl,by rw [strlen]; exact Nat.le_trans h big5,?_⟩;have e:=sW z.cps.toList k (by omega);rw [aF] at e;rw [e];simpa using q
  ·exact q.elim
 ·obtain ⟨xs,h,q⟩:=q;exact .inr ⟨_,_,rfl,h,q⟩
 ·exact q.elim
noncomputable def kEqNil (K:Frag):R2:=fun x y H Q=>match x,y with
 | .ref a,.ref b=>∃ xs,SqL K H a xs/\SqL K H b []/\Q (.bl (decide (xs=[]))) H
 | _,_=>False
theorem Bq (hu:X.A.units < cLine):OpR X (compareOp .Eq) (kEqNil X.K):=(vz hu).imp fun x y H Q q=>by
 unfold kEqNil at q;split at q
 ·obtain ⟨xs,h1,h2,q⟩:=q;exact ⟨_,_,_,rfl,rfl,h1,h2,q⟩
 ·exact q.elim
theorem hu1 {k:Nat} {A:Around} (hr:Room k A):A.units < cLine:=hr.units0
noncomputable def cNeg (ta:TE):TE:=fun σ H Q=>ta σ H fun x H1=>match x with
 | .int i=>Q (.int (-i)) H1
 | _=>False
theorem wz (ha:PE X a ta):PE X (.UnaryOp .USub a pos) (cNeg ta):=(BR AR ha.mono).imp fun σ H Q q=>⟨_,q,fun v H1 z=>by
 split at z
 ·exact ⟨_,rfl,z⟩
 ·exact z.elim⟩
end
section
variable {X:Cx} {a b e:Expr} {ta tb te:TE} {pos p apos cpos:Pos}
theorem ixE (K:Frag) (h:X.K=K):IxR X (kIx K):=by subst h; exact B0
theorem slE (K:Frag) (h:X.K=K):SlR X (kSl K):=by subst h; exact BY
theorem lenE (K:Frag) (h:X.K=K):CallR X (.builtin "len") (kLen K):=by subst h; exact vp
theorem notinE (K:Frag) (h:X.K=K):OpR X (compareOp .NotIn) (kIn K true):=by subst h; exact vT
theorem eqNilE (K:Frag) (h:X.K=K) (hu:X.A.units < cLine):OpR X (compareOp .Eq) (kEqNil K):=by subst h; exact Bq hu
theorem joinE (K:Frag) (h:X.K=K) {j:Nat} {p1:Pos} (he:PE X e te) (hfew:((backTo cpos (starEach [e] X.env)).all (fun x=>!x.1) && (backToKw cpos (keywordEach [] X.env)).all (fun x=>x.1.isSome)
   && decide ([e].length+([]:List Keyword).length+(if ([]:List Keyword).isEmpty then 0 else 1) < 30))=true:=by rfl)
  (hline:(apos.endLine == cpos.line)=true:=by rfl) (hs:starEach [e] X.env=(false,eval e X.env)::starEach [] X.env:=by rfl) (hplain:(backTo cpos (starEach [] X.env)).any (·.1)=false:=by rfl)
  (hbase:attributeBase (.Constant (.str (Str.ofString "")) j p1) "join" X.env (eval (.Constant (.str (Str.ofString "")) j p1) X.env)=eval (.Constant (.str (Str.ofString "")) j p1) X.env:=by rfl):
  PE X (.Call (.Attribute (.Constant (.str (Str.ofString "")) j p1) "join" apos) [e] [] cpos) (cJoin1 K te):=by subst h; exact wZ he hfew hline hs hplain hbase
theorem iterE (K:Frag) (h:X.K=K) {tg:Expr} (he:PE X e te):PI X tg e (cIter K te):=by subst h; exact yQ he
theorem zipE (K:Frag) (h:X.K=K) {elts:List Expr} {kk:Nat} {tpos:Pos} (hg:Gl X "zip") (hm:X.mg "zip" = none) (ha:PE X a ta) (hb:PE X b tb) (hs:starEach [a,b] X.env=[(false,eval a X.env),(false,eval b X.env)]:=by rfl) (hs2:starEach [b] X.env=[(false,eval b X.env)]:=by rfl):
  PI X (.Tuple elts kk tpos) (.Call (.Name "zip" p) [a,b] [] pos) (cZip K ta tb):=by subst h; exact AI hg hm ha hb hs hs2
theorem tupE (K:Frag) (h:X.K=K) {es:List Expr} {k:Nat} {t:TGs} {n:Nat} (hc:X.calm=true) (hp:PGs X es t) (hn:(assignEach es X.env).length=n:=by rfl) (hst:(assignEach es X.env).findIdx? (·.1)=none:=by rfl):PG X (.Tuple es k pos) (gTup K n t):=by subst h; exact xM hc hp hn hst
end
section
variable {t u:TS} {te ta tb:TE} {tc:TT} {D:Ends} {σ:St} {H:Hp} {Q:VK} {R:Bool->Hp->Prop} {i:Nat} {v:V}
theorem AU:cVar i σ H Q=(match σ[i]? with | some (some v)=>Q v H | _=>False):=rfl
theorem BX:tC v σ H Q=Q v H:=rfl
theorem BB {r:R2}:tOp r ta tb σ H Q=ta σ H fun x H1=>tb σ H1 fun y H2=>r x y H2 Q:=rfl
theorem yT {a b:Int}:kAdd (.int a) (.int b) H Q=Q (.int (a+b)) H:=rfl
theorem zP {a b:List Nat}:kAdd (.str (st a)) (.str (st b)) H Q=(a.length+b.length<=100000/\Q (.str (st (a++b))) H):=rfl
theorem y3 {a b:Addr}:kAdd (.ref a) (.ref b) H Q=∃ xs zs,H a=some (.lst xs)/\H b=some (.lst zs)/\xs.length+zs.length<=sizeLine/\∀ p,H p=none->Q (.ref p) (upd H p (.lst (xs++zs))):=rfl
theorem BW {C:Int->Int->Prop} {g:Int->Int->V} {a b:Int}:kI C g (.int a) (.int b) H Q=(C a b/\Q (g a b) H):=rfl
theorem BJ {g:Int->Int->V} {a b:Int}:kI0 g (.int a) (.int b) H Q=Q (g a b) H:=rfl
theorem zE {a b:Int}:kMul (.int a) (.int b) H Q=(CMul a b/\Q (.int (a*b)) H):=rfl
theorem zi {c:Nat} {n:Int}:kMul (.str (st [c])) (.int n) H Q=(0<=n/\n<=10000/\Q (.str (st (List.replicate n.toNat c))) H):=by
 show (∃ d,[c]=[d]/\0<=n/\n<=10000/\Q (.str (st (List.replicate n.toNat d))) H)=_;refine propext ⟨?_,fun h=>⟨c,rfl,h⟩⟩;rintro ⟨d,e,h⟩;cases e;exact h
theorem Aw {n:Bool} {a b:Int}:kEq n (.int a) (.int b) H Q=Q (.bl (n ^^ decide (a=b))) H:=rfl
theorem xQ {n:Bool} {a b:List Nat}:kEq n (.str (st a)) (.str (st b)) H Q=Q (.bl (n ^^ decide (a=b))) H:=rfl
theorem AW {n:Bool} {a b:Bool}:kEq n (.bl a) (.bl b) H Q=Q (.bl (n ^^ decide (a=b))) H:=rfl
theorem zV {n:Bool} {b:Str}:kEq n .non (.str b) H Q=Q (.bl (n ^^ false)) H:=rfl
theorem zn {n:Bool} {b:Str}:kEq n (.str b) .non H Q=Q (.bl (n ^^ false)) H:=rfl
theorem zH {n:Bool}:kEq n .non .non H Q=Q (.bl (n ^^ true)) H:=rfl
theorem BK {n:Bool} {x:V}:kIs n x .non H Q=Q (.bl (n ^^ decide (x=.non))) H:=rfl
theorem Bm {K:Frag} {n:Bool} {c:Nat} {b:List Nat}:kIn K n (.str (st [c])) (.str (st b)) H Q=Q (.bl (n ^^ decide (c ∈ b))) H:=by
 show (∃ d,[c]=[d]/\Q (.bl (n ^^ decide (d ∈ b))) H)=_;refine propext ⟨?_,fun h=>⟨c,rfl,h⟩⟩;rintro ⟨d,e,h⟩;cases e;exact h
theorem A9 {K:Frag} {n:Bool} {x:V} {p:Addr}:kIn K n x (.ref p) H Q=∃ xs,(SqL K H p xs\/SqT K H p xs)/\flatV x=true/\xs.all flatV=true/\Q (.bl (n ^^ inV x xs)) H:=by
 cases x <;> rfl
theorem Bf {K:Frag} {l:List Nat} {j:Int}:kIx K (.str (st l)) (.int j) H Q=(l.length<=100000/\∃ c,atI l j=some c/\Q (.str (st [c])) H):=rfl
theorem Bh {K:Frag} {p:Addr} {j:Int}:kIx K (.ref p) (.int j) H Q=∃ xs v,(SqL K H p xs\/SqT K H p xs)/\atI xs j=some v/\Q v H:=rfl
theorem zK {K:Frag} {l:List Nat}:kLen K [.str (st l)] H Q=(l.length<=100000/\Q (.int l.length) H):=rfl
theorem yW {K:Frag} {p:Addr}:kLen K [.ref p] H Q=∃ ys,(SqL K H p ys\/SqT K H p ys)/\Q (.int ys.length) H:=rfl
theorem zJ {K:Frag} {l:List Nat} {j:Int}:kSl K (.str (st l)) none (some j) H Q=(l.length<=100000/\0<=j/\j<=l.length/\Q (.str (st (l.take j.toNat))) H):=rfl
theorem v6 {K:Frag} {l:List Nat} {j:Int}:kSl K (.str (st l)) (some j) none H Q=(l.length<=100000/\0<=j/\j<=l.length/\Q (.str (st (l.drop j.toNat))) H):=rfl
theorem AT {K:Frag} {p:Addr} {lo hi:Option Int}:kSl K (.ref p) lo hi H Q=∃ xs,SqL K H p xs/\∀ q,H q=none->Q (.ref q) (upd H q (.lst (cutV xs lo hi))):=rfl
theorem BP {r:V->Option Int->Option Int->Hp->VK->Prop} {tl th:TO}:tSl r te tl th σ H Q=te σ H fun x H1=>tl σ H1 fun l H2=>th σ H2 fun u H3=>r x l u H3 Q:=rfl
theorem vK {Q:Option Int->Hp->Prop}:tNoPart σ H Q=Q none H:=rfl
noncomputable def cPart (t:TE):TO:=fun σ H Q=>t σ H fun x H1=>match x with | .int i=>Q (some i) H1 | _=>False
theorem y4 {Q:Option Int->Hp->Prop}:cPart te σ H Q=te σ H fun x H1=>match x with | .int i=>Q (some i) H1 | _=>False:=rfl
theorem Bu:cNeg ta σ H Q=ta σ H fun x H1=>match x with | .int i=>Q (.int (-i)) H1 | _=>False:=rfl
theorem xK {K:Frag} {a b:Addr}:kEqNil K (.ref a) (.ref b) H Q=∃ xs,SqL K H a xs/\SqL K H b []/\Q (.bl (decide (xs=[]))) H:=rfl
theorem Bt {n:Ty}:cIsI n ta σ H Q=ta σ H fun x H1=>match x with
 | .non=>Q (.bl false) H1
 | .bl _=>Q (.bl n.isBl) H1
 | .int _=>Q (.bl n.isInt) H1
 | .str _=>Q (.bl n.isStr) H1
 | .ref p=>((∃ xs,H1 p=some (.lst xs))/\Q (.bl n.isLst) H1)\/((∃ xs,H1 p=some (.tup xs))/\Q (.bl n.isTup) H1)
 | _=>False:=rfl
theorem zI:cTest te σ H R=te σ H (blK R):=rfl
theorem BV {b:Bool}:blK R (.bl b) H=R b H:=rfl
theorem zr:cAndV ta tb σ H Q=ta σ H (blK fun c H1=>if c=true then tb σ H1 Q else Q (.bl false) H1):=rfl
theorem AJ:cOrV ta tb σ H Q=ta σ H (blK fun c H1=>if c=true then Q (.bl true) H1 else tb σ H1 Q):=rfl
theorem Bn {t u:TT}:tAnd t u σ H R=t σ H fun c H1=>if c=true then u σ H1 R else R false H1:=rfl
theorem BQ {t u:TT}:tOr t u σ H R=t σ H fun c H1=>if c=true then R true H1 else u σ H1 R:=rfl
theorem Bd {t:TT}:tNot t σ H R=t σ H fun c H1=>R (!c) H1:=rfl
theorem Br:tYes σ H R=R true H:=rfl
theorem BN:tIf tc ta tb σ H Q=tc σ H fun c H1=>if c=true then ta σ H1 Q else tb σ H1 Q:=rfl
theorem AV:cApp ta te σ H Q=ta σ H fun x H1=>match x with
 | .ref l=>(∃ xs,H1 l=some (.lst xs))/\te σ H1 fun y H2=>∃ xs,H2 l=some (.lst xs)/\xs.length < sizeLine/\Q .non (upd H2 l (.lst (xs++[y])))
 | _=>False:=rfl
theorem xZ {K:Frag}:cJoin1 K te σ H Q=te σ H fun x H1=>match x with
 | .ref l=>∃ cs:List Nat,SqL K H1 l (cs.map fun k=>V.str (st [k]))/\cs.length<=10000/\Q (.str (st cs)) H1
 | _=>False:=rfl
theorem Bx {R:List V->Hp->Prop}:tNil σ H R=R [] H:=rfl
theorem zT {t:TA} {R:List V->Hp->Prop}:tCons ta t σ H R=ta σ H fun x H1=>t σ H1 fun xs H2=>R (x::xs) H2:=rfl
theorem yL {sp:Sp} {E:XK} {t:TA}:tCall sp [] E t σ H Q=t σ H fun vs H1=>sp vs H1 Q E:=by
 unfold tCall;simp only [List.append_nil]
theorem BI {r:List V->Hp->VK->Prop} {t:TA}:tCB r t σ H Q=t σ H fun vs H1=>r vs H1 Q:=rfl
theorem Aq {t:TA}:tLst t σ H Q=t σ H fun xs H1=>xs.length<=sizeLine/\∀ p,H1 p=none->Q (.ref p) (upd H1 p (.lst xs)):=rfl
theorem AX {t:TA}:tTup t σ H Q=t σ H fun xs H1=>xs.length<=sizeLine/\∀ p,H1 p=none->Q (.ref p) (upd H1 p (.tup xs)):=rfl
theorem zu:tNext D σ H=D.nx σ H:=rfl
theorem Al:tSeq t u D σ H=t { D with nx:=u D } σ H:=rfl
theorem yZ:tDrop te D σ H=te σ H fun _ H1=>D.nx σ H1:=rfl
theorem A8:tRet te D σ H=te σ H D.rt:=rfl
theorem Bl:tIfS tc t u D σ H=tc σ H fun b H1=>if b=true then t D σ H1 else u D σ H1:=rfl
theorem At {g:TG}:tAsg te g D σ H=te σ H fun x H1=>g x σ H1 D.nx:=rfl
theorem y9 {R:St->Hp->Prop}:gName i v σ H R=R (σ.set i (some v)) H:=rfl
theorem zm:tJoin t u D σ H=∃ J:St->Hp->Prop,t { D with nx:=J } σ H/\∀ σ' H',J σ' H'->u D σ' H':=rfl
theorem AH {wi:TI} {g:TG}:cFor wi g t D σ H=wi σ H fun J H1=>loopW J g t D σ H1:=rfl
theorem yN {K:Frag} {R:It->Hp->Prop}:cIter K te σ H R=te σ H fun x H1=>match x with
 | .str z=>R (Its z) H1
 | .ref a=>((∃ xs,SqL K H1 a xs)/\R (Itl K a) H1)\/((∃ xs,SqT K H1 a xs)/\R (Itt K a) H1)
 | _=>False:=rfl
theorem zU {R:It->Hp->Prop}:cRng1 te σ H R=te σ H fun x H1=>match x with
 | .int j=>-1000000<=j/\j<=1000000/\R (Itr 0 j.toNat) H1
 | _=>False:=rfl
theorem Bi {K:Frag} {R:It->Hp->Prop}:cZip K ta tb σ H R=ta σ H fun x H1=>tb σ H1 fun y H2=>srcK K H2 x fun S1=>srcK K H2 y fun S2=>R (Itz K S1 S2) H2:=rfl
theorem yO {K:Frag} {z:Str} {R:Src->Prop}:srcK K H (.str z) R=R (.str z):=rfl
theorem zq {K:Frag} {p:Addr} {R:Src->Prop}:srcK K H (.ref p) R=((∃ xs,SqL K H p xs)/\R (.lst p)):=rfl
theorem yr {nt:Nat} {fi:List Nat} {wi:TI} {g:TG}:cComp nt fi wi g tc te σ H Q=wi σ H fun J H1=>∀ D,H1 D=none->compW J g tc te (compσ nt fi σ) D Q H1:=rfl
end
theorem BS {CX:CXT} {P:Program} {w:World} {K:Frag} {mg:Str->Option Value} {base:Heap} {N:List Str} {qual:Str} {scope:Scope} {f:Addr} {cd:Value} {A:Around} {outer:List Env} {s:Shared} {H:Hp} {E:XK}:(cxOf CX P w K mg base N qual scope f cd A outer s H E).K=K:=rfl
theorem AC {X:Cx} {scope:Scope} {cl:List (Str × Addr)} {N':List Str} {C:Addr} {s:Shared} {H:Hp} {ex:List Addr}:(cxC X scope cl N' C s H ex).K=X.K:=rfl
theorem BT {a b:Nat}:(([a]:List Nat)=[b])=(a=b):=by simp
theorem cE {X:Cx} {e:Expr} {te:TE} (h:PE X e te):PO X (some e) (cPart te):=fun pins s σ H Q I q=>zl h.mono pins s σ H Q I ⟨_,q,fun v H1 z=>by
 split at z
 ·exact ⟨_,rfl,z⟩
 ·exact z.elim⟩
end L2
namespace Mir
open PySem L2
noncomputable def cell (ns:List Int) (k:Nat):Int:=(ns[k]?).getD 0
noncomputable def num (c:Int):Nat->Int
 | 0=>c % 2147483647+1
 | i+1=>(num c i*48271+7*(i:Int)*(i:Int)+3) % 2147483647
noncomputable def stream (c:Int) (n:Nat):List Int:=(List.range n).map fun i=>num c (i+1) / 16
noncomputable def bit (m:Int):Nat:=if m % 2=0 then 48 else 49
noncomputable def rowSign (l e:Int):Nat:=if e % l > 0 then 45 else bit (e / 64)
noncomputable def row (c:Int) (w:Nat) (l:Int):List Nat:=(stream c w).map (rowSign l)
noncomputable def within (one other:List Nat):Bool:=(one.zip other).all fun p=>p.2 == 45 || p.2 == p.1
end Mir
namespace L2
open PySem PySem.Spec PyProof.Rows
theorem z_pos {K:Params->Frag} {as:List Addr} {n t:Nat} {w:World} {s:Shared} (y:PySem.W.X.obsZ as s=PySem.W.X.valZ K n t w) (e:∀ P,as=(K P).map (·.1)) (ht:0 < t):(K w.params).In s.heap/\0 < s.toks:=by
 obtain ⟨_,h,_,q⟩:=PySem.W.X.z_facts e y;exact ⟨h,by rw [q]; exact ht⟩
section
variable {prog:Program} {w:World} {A:Around} {E:Value->Shared->Prop} {s:Shared}
theorem IsList.extBut' {h h':Heap} {a l:Addr} {items:Array Value} (hl:h.IsList l items) (he:Heap.ExtBut a h h') (hne:l≠a):h'.IsList l items:=by
 obtain ⟨o,ho,r⟩:=hl;exact ⟨o,he l o hne ho,r⟩
theorem rV {it t:Addr} {items:Array Value} (apart:t≠it):∀ (mid front back:List Value) (s:Shared) (Q:List Value->Shared->Prop),items.toList=front++(mid++back)->s.heap.IsListIter it t front.length->s.heap.IsList t items ->
  (∀ g:Heap,g.IsListIter it t (front.length+mid.length)->Heap.SameBut it s.heap g->Q mid { s with heap:=g })->wpAny (model prog w) A (draw (.ref it) mid.length) Q E s
 | [],front,_,s,Q,_,at0,_,k=>wpAny_pure (k s.heap at0 (Heap.SameBut.refl ..))
 | x::mid,front,back,s,Q,e,at0,il,k=>by
  have here:items[front.length]? = some x:=by
   rw [<- Array.getElem?_toList,e,List.getElem?_append_right (Nat.le_refl _),Nat.sub_self];rfl
  refine wpAny_bind (m:=pyNext (.ref it)) (wpAny_pyNext_list_item at0 il here fun g1 at1 t1=>?_);refine wpAny_bind (wpAny_holding (rV apart mid (front++[x]) back _ _ (by rw [e]; simp) (by rw [List.length_append]; exact at1) (IsList.extBut' il t1.extBut apart) fun g2 at2 t2=>wpAny_pure (k g2 ?_ (t1.trans t2))));have sum:(front++[x]).length+mid.length=front.length+(x::mid).length:=by
   simp only [List.length_append,List.length_cons,List.length_nil];omega
  rw [sum] at at2;exact at2
theorem lg {t:Addr} {items:Array Value} {Q:List Value->Shared->Prop} (hh:A.handled=none) (ht:s.heap.IsList t items)
  (k:∀ g,Heap.ExtBut s.heap.objs.size s.heap g->Q items.toList { s with heap:=g }):wpAny (model prog w) A (unpackItems (.ref t) items.size none) Q E s:=by
 have below:t≠s.heap.objs.size:=Nat.ne_of_lt (let ⟨_,q,_⟩:=ht; Heap.lt_size q);have still:(s.heap.push { cls:=.type "list_iterator",data:=.fields #[.ref t,.int 0 0] }).IsList t items:=let ⟨o,q,r⟩:=ht; ⟨o,Heap.get?_push_of_some _ q,r⟩
 unfold unpackItems notIterableAtAll;refine wpAny_bind (wpAny_bind (wpAny_specialOf ht.typeIs slot_list_iter.lookup (wpAny_pure ?_)));rw [if_neg (by decide)];refine wpAny_bind (wpAny_holding (wpAny_pyIter_list ht ?_));have whole:=rV (prog:=prog) (w:=w) (A:=A) (E:=E) (items:=items) below items.toList [] [] { s with heap:=s.heap.push { cls:=.type "list_iterator",data:=.fields #[.ref t,.int 0 0] } };rw [Array.length_toList] at whole;refine wpAny_bind (wpAny_holding (whole _ (by simp) ⟨_,Heap.get?_push_size _ rfl,rfl,rfl⟩ still fun g1 at1 t1=>?_));rw [if_neg (by simp)];refine wpAny_bind (wpAny_holding (wpAny_pyNext_list_end hh at1 (IsList.extBut' still t1.extBut below) (by simp) fun g2 t2=>?_));rw [if_neg (by simp)];exact wpAny_pure (k g2 fun b o nb q=>t2 b o nb (t1.extBut b o nb (Heap.get?_push_of_some _ q)))
theorem kf {env:Env} {elts:List Expr} {x1} {pos:Pos} {t:Addr} {items:Array Value} {Q:Unit->Shared->Prop} (hh:A.handled=none) (ht:s.heap.IsList t items)
  (hn:(assignEach elts env).length=items.size) (hstar:(assignEach elts env).findIdx? (·.1)=none)
  (h:∀ h',Heap.ExtBut s.heap.objs.size s.heap h'->wpAny (model prog w) A (assignInOrder ((assignEach elts env).map (·.2)) items.toList) Q E { s with heap:=h' }):
  wpAny (model prog w) A (assign (.Tuple elts x1 pos) env (.ref t)) Q E s:=by
 rw [assign_Tuple];refine wpAny_bind (wpAny_standAt ?_);unfold unpack;rw [hn,hstar];exact wpAny_bind (wpAny_holding (lg hh ht h))
end
section
variable {X:Cx} {pos:Pos}
noncomputable def gSeq (K:Frag) (n:Nat) (t:TGs):TG:=fun v σ H Q=>match v with
 | .ref a=>∃ xs,(SqL K H a xs\/SqT K H a xs)/\xs.length=n/\t xs σ H Q
 | _=>False
theorem seqE (K:Frag) (hK:X.K=K) {es:List Expr} {k:Nat} {t:TGs} {n:Nat} (hc:X.calm=true) (h:PGs X es t)
  (hn:(assignEach es X.env).length=n:=by rfl) (hst:(assignEach es X.env).findIdx? (·.1)=none:=by rfl):PG X (.Tuple es k pos) (gSeq K n t):=by
 subst hK;intro pins s σ H v u Q I r hw;unfold gSeq at hw;split at hw
 ·rename_i a;obtain ⟨xs,hq,hl,hw⟩:=hw;rcases hq with hq | hq
  ·cases r;obtain ⟨its,rv,ht,hz⟩:=I.list hq;refine kf (I.ok.hd hc) ht.isList (by simp [hn,<- hl,rv.length]) hst fun h' hx=>?_
   have I1:Inv X pins σ H { s with heap:=h' }:=I.kept (t':=s.toks) fun b o e=>hx b o (Nat.ne_of_lt (Heap.lt_size e)) e
   exact h pins _ σ H xs _ Q I1 (by simpa using rv) hw
  ·exact xM hc h hn hst pins s σ H _ u Q I r ⟨_,xs,rfl,hq,hl,hw⟩
 ·exact hw.elim
end
section
variable {t:TG} {u:TGs} {σ:St} {H:Hp} {Q:St->Hp->Prop} {v:V} {r:List V} {K:Frag} {n:Nat} {p:Addr}
theorem yz:gCons t u (v::r) σ H Q=t v σ H fun σ' H'=>u r σ' H' Q:=by
 refine propext ⟨?_,fun h=>⟨v,r,rfl,h⟩⟩;rintro ⟨v',r',e,h⟩;cases e;exact h
theorem Be:gNil [] σ H Q=Q σ H:=propext ⟨fun h=>h.2,fun h=>⟨rfl,h⟩⟩
theorem AA:gSeq K n u (.ref p) σ H Q=∃ xs,(SqL K H p xs\/SqT K H p xs)/\xs.length=n/\u xs σ H Q:=rfl
end
noncomputable def rep (c d:Nat) (l:List Nat):List Nat:=l.map fun k=>if k=c then d else k
section
variable {X:Cx} {o e:Expr} {to te:TE} {apos cpos p1 p2:Pos} {j1 j2:Nat}
noncomputable def kList (K:Frag):List V->Hp->VK->Prop:=fun xs H Q=>match xs with
 | [.str z]=>z.cps.toList.length<=100000/\∀ p,H p=none->Q (.ref p) (upd H p (.lst (z.cps.toList.map fun c=>V.str (st [c]))))
 | [.ref a]=>∃ ys,(SqL K H a ys\/SqT K H a ys)/\∀ p,H p=none->Q (.ref p) (upd H p (.lst ys))
 | _=>False
theorem tV {x:Str} {acc:Array Value} (h:ItemsOf (SignAt x) acc x.cps.size):Vals (x.cps.toList.map fun c=>V.str (st [c])) acc.toList:=by
 obtain ⟨hs,hi⟩:=h;have key:∀ (l:List Nat) (us:List Value),l.length=us.length->(∀ (j:Nat) (v:Value),us[j]? = some v->∃ (c:Nat) (u:Tok),l[j]? = some c/\v=Value.str ⟨#[c]⟩ u)->Vals (l.map fun c=>V.str (st [c])) us:=by
  intro l
  induction l with
  | nil=>
   intro us hl _;cases us with
   | nil=>exact .nil
   | cons=>cases hl
  | cons a l ih=>
   intro us hl hq;cases us with
   | nil=>cases hl
   | cons v us=>
    obtain ⟨c,u,e,rfl⟩:=hq 0 v rfl;cases e;exact .cons ⟨u,rfl⟩ (ih us (by simpa using hl) fun j w hj=>hq (j+1) w hj)
 refine key _ _ (by simp [hs]) fun j v hj=>?_
 obtain ⟨c,u,e,rfl⟩:=hi j v (by simpa using hj);exact ⟨c,u,by simpa using e,rfl⟩
theorem uy (K:Frag) (hK:X.K=K) (hc:X.calm=true):CallR X (.type "list") (kList K):=by
 subst hK;intro pins s σ H xs us Q I r q;unfold kList at q;split at q
 ·obtain ⟨hl,q⟩:=q;rename_i z;obtain ⟨u,rfl,t,rfl⟩:=vals1 r;have hz:z.cps.size<=sizeLine:=by
   have:=big5;simp only [Array.length_toList] at hl;omega
  refine tokQ I.tk (call_list_str (I.ok.hd hc) z t (fun h' tk acc c' kp ho hi (htk:0 < tk)=>?_) hz);refine ⟨.ref s.heap.objs.size,_,I.laid (a:=s.heap.objs.size) (o:=.lst (z.cps.toList.map fun c=>V.str (st [c]))) kp (Nat.le_refl _) ⟨?_,acc.toList,c',tV hi,by simpa using ho⟩,rfl,q _ I.fresh⟩;rw [List.length_map];simpa using hz
 ·obtain ⟨ys,h,q⟩:=q;exact qP pins s σ H _ us Q I r ⟨_,ys,rfl,h,q⟩
 ·exact q.elim
theorem x9 {K:Frag} {l:List Nat} {H:Hp} {Q:VK}:kList K [.str (st l)] H Q=(l.length<=100000/\∀ p,H p=none->Q (.ref p) (upd H p (.lst (l.map fun c=>V.str (st [c]))))):=rfl
theorem xj {K:Frag} {a:Addr} {H:Hp} {Q:VK}:kList K [.ref a] H Q=∃ ys,(SqL K H a ys\/SqT K H a ys)/\∀ p,H p=none->Q (.ref p) (upd H p (.lst ys)):=rfl
end
section
variable {X:Cx} {a:Expr} {ta:TE} {p pos:Pos}
theorem qo:bootBuiltins "enumerate" = some (.type "enumerate"):=by decide +kernel
end
section
variable {X:Cx}
noncomputable def kSum (K:Frag):List V->Hp->VK->Prop:=fun xs H Q=>match xs with
 | [.ref p]=>∃ ns:List Int,SqL K H p (ns.map V.int)/\Q (.int ns.sum) H
 | _=>False
theorem oT (K:Frag) (hK:X.K=K) (hc:X.calm=true):CallR X (.builtin "sum") (kSum K):=by
 subst hK;intro pins s σ H xs us Q I r q;unfold kSum at q;split at q
 ·obtain ⟨ns,hq,q⟩:=q;obtain ⟨u,rfl,ru⟩:=vals1 r;cases ru;obtain ⟨its,rv,pl,_⟩:=I.list hq;have hi:=nE rv;obtain ⟨xs,e⟩:=hi.allInts.items;have hn:=hi.numsOf;refine tokQ I.tk (sum_intListG (I.ok.hd hc) (xs:=xs) (by rw [<- e]; exact pl.isList) fun h' tk t' kp (htk:0 < tk)=>?_);have e2:preSum (numAt xs) xs.size=ns.sum:=by
   rw [preSum_eq,List.take_of_length_le (by simp),<- nums_intItems,<- e];show (numsOf its).sum=ns.sum;rw [hn]
  rw [e2];exact ⟨.int ns.sum,H,I.kept kp,⟨_,rfl⟩,q⟩
 ·exact q.elim
theorem As {K:Frag} {p:Addr} {H:Hp} {Q:VK}:kSum K [.ref p] H Q=∃ ns:List Int,SqL K H p (ns.map V.int)/\Q (.int ns.sum) H:=rfl
end
theorem tU (t:SetTable) (es:Array (Int × Value)) (h:Int) (x:Value):(layNew t es h x).2.1.led=t.led/\(t.plain=false->(layNew t es h x).2.1.plain=false):=by
 unfold layNew;split
 ·rename_i slot wd e;show ((t.put slot).1.orStandIn _).led=_/\(_->((t.put slot).1.orStandIn _).plain=false);unfold SetTable.orStandIn;split
  ·exact ⟨rfl,fun q=>q⟩
  ·exact ⟨rfl,fun _=>rfl⟩
 ·exact ⟨rfl,fun _=>rfl⟩
theorem wQ {mask finger moves:Nat} {led plain:Bool} {hs:Array Int} {r:SetTable × Array Nat} (h:SetTable.laid mask finger moves led plain hs=some r):r.1.led=led/\r.1.plain=plain:=by
 unfold SetTable.laid at h;cases q:SetTable.layClean mask hs with
 | none=>rw [q] at h; cases h
 | some ow=>
  rw [q] at h;cases h;exact ⟨rfl,rfl⟩
theorem px (t:SetTable) (es:Array (Int × Value)) (n:Nat):(relayAll t es n).2.1.led=t.led/\(t.plain=false->(relayAll t es n).2.1.plain=false):=by
 unfold relayAll;split
 ·rename_i t' order e;have q:=wQ e;dsimp only;split
  ·exact ⟨q.1,fun z=>q.2.trans z⟩
  ·exact ⟨rfl,fun _=>rfl⟩
 ·exact ⟨rfl,fun _=>rfl⟩
section
variable {prog:Program} {w:World} {A:Around} {E:Value->Shared->Prop} {s:Shared}
noncomputable def addT (ss:List Str) (x:Str):List Str:=if x ∈ ss then ss else ss++[x]
theorem mj {a:Addr} {es es':Array (Int × Value)} {ep:Nat} {t t':SetTable} (ho:s.heap.get? a=some { cls:=.type "set",dict:=none,data:=.set es ep t,slots:=#[] }):
  (s.heap.update a (Obj.putSet es' t')).get? a=some { cls:=.type "set",dict:=none,data:=.set es' (ep+1) t',slots:=#[] }:=
 Heap.get?_update_self (Obj.putSet es' t') ho rfl
end
noncomputable def dd (l:List Str):List Str:=l.foldl addT []
section
variable {prog:Program} {w:World} {A:Around} {R:Result->Shared->Prop} {I:Addr} {fp wr:List Addr} {G:Array GenState->Array GenState->Prop} {n:Nat} {P:Nat->Value->Prop} {St:Nat->Shared->Prop}
end
noncomputable abbrev ledW (w:World):Bool:=!w.params.followText "set-order"
noncomputable abbrev setObj0 (w:World):Obj:={ cls:=.type "set",dict:=none,data:=.set #[] 0 (.fresh 0 0 (ledW w)) }
section
variable {prog:Program} {w:World} {A:Around} {E:Value->Shared->Prop} {s:Shared}
theorem vC (a:Value) {Q:Value->Shared->Prop} (h:Q (.ref s.heap.objs.size) { s with heap:=s.heap.push (setObj0 w) }):
  codeAny (model prog w) A (.call (.builtin "set.__new__") ⟨[.type "set",a],[]⟩) (wants Q E) s:=by
 refine codeAny_of_tree ?_;show wpAny _ A.in1 (checkBuiltinCall "set.__new__" ⟨[.type "set",a],[]⟩>>=fun _=>again (.builtin "set.__new__" ⟨[.type "set",a],[]⟩)) _ _ s;refine wpAny_bind (wpAny_of_eq (PySem.F.newCall_set_1 a) (wpAny_pure ⟨plainId_quiet PySem.F.plain_set_new _,codeAny_builtin PySem.F.entry_set_new ?_⟩));rw [Around.under_plainId PySem.F.plain_set_new _];unfold Builtin.«set.__new__» Builtin.Frozenset.newClass;have sb:=sub_set_self;obtain ⟨hp,g,d,tk,os⟩:=s;dsimp only
 wp_walk
 refine wpAny_askSetting (wpAny_pure ?_);dsimp only;simp only [newObj];exact wpAny_bind (wpAny_alloc (wpAny_pure (wpAny_pure h)))
theorem oj {v:Value} {Q:Value->Shared->Prop}
  (h:∀ A₁:Around,A₁.handled=A.handled->codeAny (model prog w) A₁ (.call (.builtin "set.__new__") ⟨[.type "set",v],[]⟩)
   (wants (fun made s₁=>(∃ b,made=.ref b)/\s₁.TypeIs made "set" /\ ∀ A₂:Around,A₂.handled=A.handled->codeAny (model prog w) A₂ (.call (.builtin "set.__init__") ⟨[made,v],[]⟩) (wants (fun r s₂=>r=.none/\Q made s₂) E) s₁) E) s):
  wpAny (model prog w) A (call (.type "set") [v]) Q E s:=by
 have C:=PySem.F.called_set;obtain ⟨_,_,hmro⟩:=C.mro;have k1:=C.made;have k2:=C.sub;have k3:=C.notType;have k4:=C.canCreate;have k5:=PySem.F.typeCall_set_1 v;apply wpAny_call;apply codeAny_of_tree;change wpAny _ _ (callAny (.type "set") _) _ _ _;apply wpAny_pure;refine ⟨Code.quiet_builtin _ (by decide +kernel),?_⟩;apply codeAny_builtin PySem.F.entry_type_call;rw [Around.under_plain (weight_type_call_type "set" [v] []) rfl]
 repeat (any_goals (first | assumption | wp_step))
 refine codeAny_mono (h A.in1 rfl) ?_;intro r₁ s₁ g₁
 match r₁,g₁ with
 | .error _,g₁=>exact g₁
 | .ok (.ret made),⟨⟨b,eb⟩,hT,g⟩=>
  subst eb;have k6:=C.init.lookup;have k7:=C.init.bind (.ref b)
  repeat (any_goals (first | assumption | wp_step))
  refine codeAny_mono (g A.in1 rfl) ?_;intro r₂ s₂ g₂
  match r₂,g₂ with
  | .error _,g₂=>exact g₂
  | .ok (.ret _),⟨e,q⟩=>
   subst e
   repeat (any_goals (first | assumption | wp_step))
end
theorem cy:Slot "set_iterator" "__next__" "set_iterator.__next__":=
 .of (owner := "set_iterator") (n := "__next__") (by rw [typeLookup_type,builtinLookup_eq_fast]; kernel_rfl) (by decide +kernel) (by decide +kernel) (by decide +kernel) (by first | exact .inl (by decide +kernel) | exact .inr (by decide +kernel)) (by rw [isSubtype_type]; kernel_rfl)
theorem kU:entryFor table "set_iterator.__next__" = some Builtin.«set_iterator.__next__»:=entryFor_of_tree (by kernel_rfl)
theorem lY (a:Value):argsOk "set_iterator.__next__" ⟨[a],[]⟩:=by unfold argsOk; kernel_rfl
theorem iD:Slot "set_iterator" "__iter__" "set_iterator.__iter__":=
 .of (owner := "set_iterator") (n := "__iter__") (by rw [typeLookup_type,builtinLookup_eq_fast]; kernel_rfl) (by decide +kernel) (by decide +kernel) (by decide +kernel) (by first | exact .inl (by decide +kernel) | exact .inr (by decide +kernel)) (by rw [isSubtype_type]; kernel_rfl)
theorem mJ:entryFor table "set.__iter__" = some Builtin.«frozenset.__iter__»:=
 entryFor_alias (id' := "frozenset.__iter__") (by kernel_rfl) rfl (by decide +kernel) (by kernel_rfl)
theorem fe {α:Type}:∀ {l:List α} {i:Nat} (hi:i < l.length),(l[i]::l.eraseIdx i).Perm l
 | _::_,0,_=>List.Perm.refl _
 | x::l,i+1,hi=>by
  have:=fe (l:=l) (i:=i) (Nat.lt_of_succ_lt_succ hi);simp only [List.getElem_cons_succ,List.eraseIdx_cons_succ];exact (List.Perm.swap x _ _).trans (List.Perm.cons x this)
section
variable {M:Model} {A:Around} {E:Value->Shared->Prop}
theorem ul {src:Source} {n:Nat} {s:Shared} {Q:Nat->Shared->Prop} (hn:n≠0) (h:∀ i d,i < n->Q i { s with drawn:=d }):wpAny M A (choose src n) Q E s:=fun Γ p _=>by
 unfold choose;rw [Sem.wp_choose];exact ⟨hn,h _ _ (Nat.mod_lt _ (Nat.pos_of_ne_zero hn))⟩
theorem tD {α:Type}:∀ (n:Nat) (xs:List α) (s:Shared) (Q:List α -> Shared->Prop),xs.length=n->(∀ ys d,ys.Perm xs->Q ys { s with drawn:=d })->wpAny M A (drawOrder n xs) Q E s:=by
 intro n
 induction n with
 | zero=>
  intro xs s Q hl h;rw [List.length_eq_zero_iff] at hl;subst hl;exact wpAny_pure (h [] s.drawn (List.Perm.refl _))
 | succ n ih=>
  intro xs s Q hl h;obtain ⟨x,xs,rfl⟩:=List.exists_cons_of_length_eq_add_one hl;unfold drawOrder;refine wpAny_bind (ul (by simp) fun i d hi=>?_);have hg:(x::xs)[i]? = some (x::xs)[i]:=List.getElem?_eq_getElem hi;rw [hg];refine wpAny_bind (ih _ _ _ ?_ fun ys d' hp=>wpAny_pure (h _ d' ?_))
  ·rw [List.length_eraseIdx_of_lt hi];simpa using hl
  ·exact (List.Perm.cons _ hp).trans (fe hi)
end
theorem uP {α:Type} (f:Nat->Nat):∀ (n k:Nat) (l:List α) (out:Array α),l.length=n->(pickOrder.go f n k l out).toList.Perm (out.toList++l)
 | 0,_,[],out,_=>by simp [pickOrder.go]
 | n+1,k,x::l,out,hl=>by
  unfold pickOrder.go;have hi:f k % (x::l).length < (x::l).length:=Nat.mod_lt _ (by simp);rw [List.getElem?_eq_getElem hi];refine (uP f n (k+1) _ _ ?_).trans ?_
  ·rw [List.length_eraseIdx_of_lt hi];simpa using hl
  ·rw [Array.toList_push,List.append_assoc];exact List.Perm.append_left _ (fe hi)
theorem kZ {α:Type} (f:Nat->Nat) (xs:Array α):(pickOrder f xs).toList.Perm xs.toList:=by
 unfold pickOrder;exact (uP f xs.size 0 xs.toList #[] (by simp)).trans (by simp)
section
variable {prog:Program} {w:World} {A:Around} {E:Value->Shared->Prop} {s:Shared}
theorem jK {α:Type} {Q:α -> Shared->Prop} (hh:A.handled=none)
  (h:∀ h' e,(∀ b o,s.heap.get? b=some o->h'.get? b=some o)->(∃ o,h'.get? e=some o/\o.cls=.type "StopIteration")->E (.ref e) { s with heap:=h' }):
  wpAny (model prog w) A (newExc (.type "StopIteration") []>>=fun e=>(raiseNew e:Sem α)) Q E s:=by
 refine wpAny_bind ?_;simp only [newExc,newTuple];refine wpAny_bind (wpAny_newObj_type ?_ (by size_fits));refine wpAny_bind (m:=firstArgMember _ _) (wpAny_of_eq (a:=Value.none) (by first | rfl | (simp only [firstArgMember]; rfl)) ?_);refine wpAny_newObj_type ?_ (by size_fits);simp only [raiseNew];refine wpAny_bind (wpAny_handled ?_);rw [hh];exact wpAny_bind (wpAny_pure (wpAny_throw (h _ _ (fun b o e=>Heap.get?_push_of_some _ (Heap.get?_push_of_some _ e)) ⟨_,Heap.get?_push_size _ rfl,rfl⟩)))
noncomputable abbrev itObj (first:Value) (i:Nat) (a:Addr) (n ep:Nat):Obj:={ cls:=.type "set_iterator",dict:=none,data:=.fields #[first,.int i 0,.ref a,.int n 0,.int ep 0],slots:=#[] }
noncomputable abbrev setObj (es:Array (Int × Value)) (ep:Nat) (t:SetTable):Obj:={ cls:=.type "set",dict:=none,data:=.set es ep t,slots:=#[] }
theorem ij {it:Addr} {o:Obj} {Q:Option Value->Shared->Prop} (hz:s.heap.get? it=some o) (hc:o.cls=.type "set_iterator")
  (h:wpAny (model prog w) A.in1 (Builtin.«set_iterator.__next__» ⟨[.ref it],[]⟩) (fun fin s'=>∃ v,fin=.done (.ret v)/\Q (some v) s')
   (fun e s'=>∃ a,e=.ref a/\(∃ o,s'.heap.get? a=some o/\o.cls=.type "StopIteration")/\Q none s') s):wpAny (model prog w) A (pyNext (.ref it)) Q E s:=by
 have hT:s.TypeIs (.ref it) "set_iterator" := ⟨_,hz,hc⟩;unfold pyNext;refine wpAny_bind (wpAny_attempt (wpAny_callSpecial?_slot (name:=Str.ofString "__next__") hT cy
  (wpAny_call_entry cy hT kU (wpAny_mono h (fun fin s' ⟨v,e,q⟩=>⟨v,e,wpAny_pure q⟩) fun e s' he=>?_) (lY _))))
 obtain ⟨a,rfl,⟨o,ho,hc⟩,q⟩:=he;exact wpAny_bind (wpAny_isInstance (T := "StopIteration") (b:=true) ⟨o,ho,hc⟩ isSubtype_stop (wpAny_pure q))
end
section
variable {prog:Program} {w:World} {A:Around} {E:Value->Shared->Prop} {s:Shared} {it a:Addr} {es:Array (Int × Value)} {n ep i:Nat} {t:SetTable}
theorem jx {slot nx:Nat} {x:Value} {Q:Option Value->Shared->Prop} (hit:s.heap.get? it=some (itObj (.int slot 0) i a n ep)) (ha:s.heap.get? a=some (setObj es ep t)) (hf:t.fits es.size=true) (hz:es.size=n)
  (hn:∀ (E':Value->Shared->Prop) (Q':Option (Value × Nat)->Shared->Prop),Q' (some (x,nx)) s->wpAny (model prog w) A.in1 (setNext a slot i ep) Q' E' s)
  (hQ:∀ h',h'.get? it=some (itObj (.int nx 0) (i+1) a n ep)->Heap.SameBut it s.heap h'->Q (some x) { s with heap:=h' }):wpAny (model prog w) A (pyNext (.ref it)) Q E s:=by
 refine ij hit rfl ?_;unfold Builtin.«set_iterator.__next__» slotArgs;simp only [List.isEmpty_nil,Bool.not_true,Bool.false_eq_true,↓reduceIte,bind_assoc,List.length_nil,bne_self_eq_false];refine wpAny_bind (wpAny_pure ?_);dsimp only;refine wpAny_bind (wpAny_fieldsOf hit rfl ?_);dsimp only;refine wpAny_bind (wpAny_setEntries_of ha rfl hf ?_);rw [show ((es.size:Int) != (n:Int))=false by simp [hz]];simp only [Bool.false_eq_true,↓reduceIte];refine wpAny_bind (hn _ _ ?_);dsimp only;refine wpAny_bind (wpAny_setField_rec hit (by simp) fun h1 g1 s1=>?_);refine wpAny_bind (wpAny_setField_rec (s:={ s with heap:=h1 }) g1 (by simp) fun h2 g2 s2=>?_);refine wpAny_pure ⟨x,rfl,hQ h2 ?_ (s1.trans s2)⟩;rw [g2];simp [rawInt]
theorem km {slot:Nat} {Q:Option Value->Shared->Prop} (hh:A.handled=none) (hit:s.heap.get? it=some (itObj (.int slot 0) i a n ep)) (ha:s.heap.get? a=some (setObj es ep t)) (hf:t.fits es.size=true) (hz:es.size=n)
  (hn:∀ (E':Value->Shared->Prop) (Q':Option (Value × Nat)->Shared->Prop),Q' none s->wpAny (model prog w) A.in1 (setNext a slot i ep) Q' E' s)
  (hQ:∀ h',Heap.ExtBut it s.heap h'->Q none { s with heap:=h' }):wpAny (model prog w) A (pyNext (.ref it)) Q E s:=by
 refine ij hit rfl ?_;unfold Builtin.«set_iterator.__next__» slotArgs;simp only [List.isEmpty_nil,Bool.not_true,Bool.false_eq_true,↓reduceIte,bind_assoc,List.length_nil,bne_self_eq_false];refine wpAny_bind (wpAny_pure ?_);dsimp only;refine wpAny_bind (wpAny_fieldsOf hit rfl ?_);dsimp only;refine wpAny_bind (wpAny_setEntries_of ha rfl hf ?_);rw [show ((es.size:Int) != (n:Int))=false by simp [hz]];simp only [Bool.false_eq_true,↓reduceIte];refine wpAny_bind (hn _ _ ?_);dsimp only;refine wpAny_bind (wpAny_setField_rec hit (by simp) fun h1 g1 s1=>?_);exact jK (A:=A.in1) (s:={ s with heap:=h1 }) hh fun h2 e k c=>⟨e,rfl,c,hQ h2 fun b o nb q=>k b o (s1.extBut b o nb q)⟩
theorem oC {T:Addr} {ps:Array Value} {p:Nat} {x:Value} {Q:Option Value->Shared->Prop} (hit:s.heap.get? it=some (itObj (.ref T) i a n ep)) (ha:s.heap.get? a=some (setObj es ep t)) (hf:t.fits es.size=true) (hz:es.size=n)
  (hT:s.heap.get? T=some (seqObj "tuple" ps 0)) (hp:ps[i]? = some (.int p 0)) (hx:es[p]?.map (·.2)=some x)
  (hQ:∀ h',h'.get? it=some (itObj (.ref T) (i+1) a n ep)->Heap.SameBut it s.heap h'->Q (some x) { s with heap:=h' }):wpAny (model prog w) A (pyNext (.ref it)) Q E s:=by
 refine ij hit rfl ?_;unfold Builtin.«set_iterator.__next__» slotArgs;simp only [List.isEmpty_nil,Bool.not_true,Bool.false_eq_true,↓reduceIte,bind_assoc,List.length_nil,bne_self_eq_false];refine wpAny_bind (wpAny_pure ?_);dsimp only;refine wpAny_bind (wpAny_fieldsOf hit rfl ?_);dsimp only;refine wpAny_bind (wpAny_setEntries_of ha rfl hf ?_);rw [show ((es.size:Int) != (n:Int))=false by simp [hz]];simp only [Bool.false_eq_true,↓reduceIte];refine wpAny_bind (wpAny_seqItems hT rfl ?_);dsimp only;rw [Int.toNat_natCast,hp];dsimp only;refine wpAny_bind ?_;unfold setNextDrawn;refine wpAny_bind (wpAny_setState_of ha rfl hf ?_);dsimp only;rw [Int.toNat_natCast,Int.toNat_natCast];simp only [bne_self_eq_false,Bool.false_eq_true,↓reduceIte];cases he:es[p]? with
 | none=>rw [he] at hx; cases hx
 | some e=>
  rw [he] at hx;obtain ⟨h0,y⟩:=e;cases hx;refine wpAny_pure ?_;refine wpAny_bind (wpAny_setField_rec hit (by simp) fun h1 g1 s1=>?_);refine wpAny_pure ⟨y,rfl,hQ h1 ?_ s1⟩;rw [g1];simp [rawInt]
theorem pW {T:Addr} {ps:Array Value} {Q:Option Value->Shared->Prop} (hh:A.handled=none) (hit:s.heap.get? it=some (itObj (.ref T) i a n ep)) (ha:s.heap.get? a=some (setObj es ep t)) (hf:t.fits es.size=true) (hz:es.size=n)
  (hT:s.heap.get? T=some (seqObj "tuple" ps 0)) (hp:ps[i]? = none)
  (hQ:∀ h',Heap.ExtBut it s.heap h'->Q none { s with heap:=h' }):wpAny (model prog w) A (pyNext (.ref it)) Q E s:=by
 refine ij hit rfl ?_;unfold Builtin.«set_iterator.__next__» slotArgs;simp only [List.isEmpty_nil,Bool.not_true,Bool.false_eq_true,↓reduceIte,bind_assoc,List.length_nil,bne_self_eq_false];refine wpAny_bind (wpAny_pure ?_);dsimp only;refine wpAny_bind (wpAny_fieldsOf hit rfl ?_);dsimp only;refine wpAny_bind (wpAny_setEntries_of ha rfl hf ?_);rw [show ((es.size:Int) != (n:Int))=false by simp [hz]];simp only [Bool.false_eq_true,↓reduceIte];refine wpAny_bind (wpAny_seqItems hT rfl ?_);dsimp only;rw [Int.toNat_natCast,hp];dsimp only;refine wpAny_bind (wpAny_setField_rec hit (by simp) fun h1 g1 s1=>?_);refine wpAny_bind (wpAny_setField_rec (s:={ s with heap:=h1 }) g1 (by simp) fun h2 g2 s2=>?_);exact jK (A:=A.in1) (s:={ s with heap:=h2 }) hh fun h3 e k c=>⟨e,rfl,c,hQ h3 fun b o nb q=>k b o (s2.extBut b o nb (s1.extBut b o nb q))⟩
end
section
variable {prog:Program} {w:World} {A:Around} {E:Value->Shared->Prop} {s:Shared} {it a:Addr} {es:Array (Int × Value)} {n ep i:Nat} {t:SetTable}
theorem ml {Q:Bool->Shared->Prop} (h:Q (w.params.followText "set-order") s):wpAny (model prog w) A setsByText Q E s:=by
 unfold setsByText;exact wpAny_bind (wpAny_askSetting (wpAny_pure h))
theorem ka {slot:Nat} {Q:Option (Value × Nat)->Shared->Prop} (hb:w.params.followText "set-order" = true) (ha:s.heap.get? a=some (setObj es ep t)) (hf:t.fits es.size=true)
  (h:Q (((pickOrder (w.params.setOrder a ep) es)[i]?).map fun e=>(e.2,slot)) s):wpAny (model prog w) A (setNext a slot i ep) Q E s:=by
 unfold setNext;refine wpAny_bind (wpAny_setState_of ha rfl hf ?_);dsimp only;refine wpAny_bind (ml ?_);rw [hb,if_pos rfl];simp only [bne_self_eq_false,Bool.false_eq_true,↓reduceIte];unfold setWalk;refine wpAny_bind (wpAny_bind (wpAny_setState_of ha rfl hf ?_));dsimp only;refine wpAny_bind (ml ?_);rw [hb,if_pos rfl];refine wpAny_bind (wpAny_askSetting ?_);exact wpAny_pure (wpAny_pure h)
theorem ln:entryFor table "set_iterator.__iter__" = some Builtin.«dict_keyiterator.__iter__»:=
 entryFor_alias (id' := "dict_keyiterator.__iter__") (by kernel_rfl) rfl (by decide +kernel) (by kernel_rfl)
theorem me (a:Value):argsOk "set_iterator.__iter__" ⟨[a],[]⟩:=by unfold argsOk; kernel_rfl
theorem j3 {Q:Value->Shared->Prop} (hT:s.TypeIs (.ref it) "set_iterator") (h:Q (.ref it) s):wpAny (model prog w) A (pyIter (.ref it)) Q E s:=by
 refine wpAny_pyIter_slot hT iD (wpAny_call_entry iD hT ln ?_ (me _));show wpAny _ _ (ret (.ref it)) _ _ s;exact wpAny_pure ⟨_,rfl, "set_iterator",_,hT,cy.lookup,h⟩
theorem tG (hh:A.handled=none) (hne:a≠it) (hb:w.params.followText "set-order" = true) (hf:t.fits es.size=true) (hz:es.size=n):
  Walks prog w A it [it,a] [it] n (fun i v=>((pickOrder (w.params.setOrder a ep) es)[i]?).map (·.2)=some v) (fun i h=>h.get? it=some (itObj (.int 0 0) i a n ep)/\h.get? a=some (setObj es ep t)) where
 sub:=fun b hb=>by simp at hb; simp [hb]
 frame:=fun _ _ _ st k=>⟨k it (by simp) _ st.1,k a (by simp) _ st.2⟩
 item:=fun i s Q E hi st hQ=>by
  have hs:(pickOrder (w.params.setOrder a ep) es).size=n:=by
   have:=(kZ (w.params.setOrder a ep) es).length_eq;simpa [hz] using this
  have hg:(pickOrder (w.params.setOrder a ep) es)[i]? = some ((pickOrder (w.params.setOrder a ep) es)[i]'(by omega)):=Array.getElem?_eq_getElem _;refine jx (slot:=0) (nx:=0) (x:=((pickOrder (w.params.setOrder a ep) es)[i]'(by omega)).2) st.1 st.2 hf hz (fun E' Q' q=>ka hb st.2 hf (by rw [hg]; exact q)) fun h' g sb=>?_
  exact hQ _ h' s.toks (by rw [hg]; rfl) ⟨g,sb.extBut _ _ hne st.2⟩ fun b o hb e=>sb.extBut b o (fun z=>hb (by simp [z])) e
 done:=fun s Q E st hQ=>by
  have hs:(pickOrder (w.params.setOrder a ep) es).size=n:=by
   have:=(kZ (w.params.setOrder a ep) es).length_eq;simpa [hz] using this
  have hg:(pickOrder (w.params.setOrder a ep) es)[n]? = none:=Array.getElem?_eq_none (by omega);exact km (slot:=0) hh st.1 st.2 hf hz (fun E' Q' q=>ka hb st.2 hf (by rw [hg]; exact q)) fun h' k=>hQ h' s.toks fun b o hb e=>k b o (fun z=>hb (by simp [z])) e
 self:=fun i s Q E st hQ=>j3 ⟨_,st.1,rfl⟩ hQ
end
section
variable {prog:Program} {w:World} {A:Around} {E:Value->Shared->Prop} {s:Shared} {it a:Addr} {es:Array (Int × Value)} {n ep i:Nat} {t:SetTable}
theorem wg (hf:t.fits n=true):t.place.size=n:=by
 unfold SetTable.fits at hf;simp only [Bool.and_eq_true,beq_iff_eq] at hf;exact hf.1
noncomputable def atPlaces (es:Array (Int × Value)) (ys:List Nat):List Value:=ys.map fun p=>((es[p]?).map (·.2)).getD .none
theorem sP {T:Addr} {ys:List Nat} (hh:A.handled=none) (hne:a≠it) (hT:T≠it) (hf:t.fits es.size=true) (hz:es.size=n) (hp:ys.Perm (List.range n)):
  Walks prog w A it [it,a,T] [it] n (fun i v=>(atPlaces es ys)[i]? = some v) (fun i h=>h.get? it=some (itObj (.ref T) i a n ep)/\h.get? a=some (setObj es ep t)/\h.get? T=some (seqObj "tuple" (ys.map fun (k:Nat)=>rawInt k).toArray 0)) where
 sub:=fun b hb=>by simp at hb; simp [hb]
 frame:=fun _ _ _ st k=>⟨k it (by simp) _ st.1,k a (by simp) _ st.2.1,k T (by simp) _ st.2.2⟩
 item:=fun i s Q E hi st hQ=>by
  have hlen:ys.length=n:=by have:=hp.length_eq; simpa using this
  have hi':i < ys.length:=by omega
  have hlt:ys[i] < es.size:=by
   have:=hp.mem_iff.mp (List.getElem_mem hi');rw [hz];simpa using this
  have hx:es[ys[i]]?.map (·.2)=some (es[ys[i]].2):=by rw [Array.getElem?_eq_getElem hlt]; rfl
  refine oC (p:=ys[i]) (x:=es[ys[i]].2) st.1 st.2.1 hf hz st.2.2 (by simp [rawInt,hi']) hx fun h' g sb=>?_
  refine hQ _ h' s.toks ?_ ⟨g,sb.extBut _ _ hne st.2.1,sb.extBut _ _ hT st.2.2⟩ fun b o hb e=>sb.extBut b o (fun z=>hb (by simp [z])) e
  unfold atPlaces;rw [List.getElem?_map,List.getElem?_eq_getElem hi'];simp [hlt]
 done:=fun s Q E st hQ=>by
  have hlen:ys.length=n:=by have:=hp.length_eq; simpa using this
  exact pW hh st.1 st.2.1 hf hz st.2.2 (by simp [hlen]) fun h' k=>hQ h' s.toks fun b o hb e=>k b o (fun z=>hb (by simp [z])) e
 self:=fun i s Q E st hQ=>j3 ⟨_,st.1,rfl⟩ hQ
theorem sX (es:Array (Int × Value)):atPlaces es (List.range es.size)=es.toList.map (·.2):=by
 unfold atPlaces;apply List.ext_getElem
 ·simp
 ·intro i h1 h2;have:i < es.size:=by simpa using h1
  simp [this]
end
section
variable {prog:Program} {w:World} {A:Around} {E:Value->Shared->Prop} {s:Shared}
theorem Walks.cast {it:Addr} {fp wr:List Addr} {n m:Nat} {P P':Nat->Value->Prop} {St:Nat->Heap->Prop} (W:Walks prog w A it fp wr n P St) (e:n=m) (hP:∀ i v,P i v ↔ P' i v):Walks prog w A it fp wr m P' St:=by
 obtain rfl:P=P':=funext fun i=>funext fun v=>propext (hP i v)
 subst e;exact W
end
section
variable {prog:Program} {w:World} {A:Around} {E:Value->Shared->Prop} {s:Shared}
theorem xw {r:Addr} {Q:Bool->Shared->Prop} (hT:s.TypeIs (.ref r) "set") (h:Q false s):wpAny (model prog w) A (Builtin.List.listLengthHint (.ref r)) Q E s:=by
 unfold Builtin.List.listLengthHint;refine wpAny_bind (wpAny_specialOf hT PySem.F.slot_set_len.lookup ?_);generalize hid:("set.__len__" : String)=nm
 wp_delta
 rw [show splitId nm=some ("set", "__len__") from by subst hid; decide +kernel];subst hid;refine wpAny_bind (wpAny_isInstance (T := "set") (b:=true) hT (by rw [isSubtype_type]; kernel_rfl) ?_);refine wpAny_ite_split (fun z=>absurd z (by decide)) fun _=>?_
 refine wpAny_ite_split (fun _=>?_) fun z=>absurd (by decide +kernel) z
 exact wpAny_bind (wpAny_typeOf hT (wpAny_pure h))
end
noncomputable def ins (x:List Nat):List (List Nat)->List (List Nat)
 | []=>[x]
 | y::r=>if x=y then y::r else if x < y then x::y::r else y::ins x r
noncomputable def srt (l:List (List Nat)):List (List Nat):=l.foldr ins []
section
variable {prog:Program} {w:World} {A:Around} {E:Value->Shared->Prop} {s:Shared}
end
section
variable {X:Cx}
theorem Inv.drew {pins:List (Addr × Obj)} {σ:St} {H:Hp} {s:Shared} (I:Inv X pins σ H s) (d:Drawn):Inv X pins σ H { s with drawn:=d }:=
 ⟨I.ok,I.os,I.bare,I.base,I.loc,I.cell,I.free,I.freeC,I.pin,I.hok,I.len,I.tk⟩
end
inductive D where
 | f (v:V) | l (xs:List D) | t (xs:List D)
mutual
noncomputable def eqD:D->D->Bool
 | .f x,.f y=>eqV x y
 | .l xs,.l ys=>eqDs xs ys
 | .t xs,.t ys=>eqDs xs ys
 | .f _,.l _=>false
 | .f _,.t _=>false
 | .l _,.f _=>false
 | .l _,.t _=>false
 | .t _,.f _=>false
 | .t _,.l _=>false
noncomputable def eqDs:List D->List D->Bool
 | [],[]=>true
 | x::xs,y::ys=>eqD x y && eqDs xs ys
 | [],_::_=>false
 | _::_,[]=>false
end
noncomputable def Deep (K:Frag) (H:Hp):Nat->V->D->Prop
 | 0,v,d=>d=.f v/\flatV v=true
 | n+1,v,d=>(d=.f v/\flatV v=true)\/(∃ a vs ds,v=.ref a/\d=.l ds/\SqL K H a vs/\Paired (Deep K H n) vs ds)\/(∃ a vs ds,v=.ref a/\d=.t ds/\SqT K H a vs/\Paired (Deep K H n) vs ds)
theorem gx:∀ {xs ys:List D},xs.length≠ys.length->eqDs xs ys=false
 | [],[],h=>absurd rfl h
 | [],_::_,_=>by rw [eqDs]
 | _::_,[],_=>by rw [eqDs]
 | x::xs,y::ys,h=>by
  rw [eqDs,gx (xs:=xs) (ys:=ys) (fun e=>h (by simp [e])),Bool.and_false]
theorem rg {v:V} (h:flatV v=true):eqV v v=true:=by
 cases v <;> simp_all [flatV,eqV]
section
variable {X:Cx} {pins:List (Addr × Obj)} {σ:St} {H:Hp} {s:Shared}
theorem wc {A:Around} {l:Addr} {items:Array Value} {y:V} {v:Value} (hl:s.heap.IsList l items) (hu:A.units < cLine) (r:RelV y v) (f:flatV y=true):SeqAt.EqAt A s (.ref l) v false:=by
 cases y with
 | non=>cases r; exact .list_none hl hu
 | bl b=>cases r; exact .list_bool b hl hu
 | int i=>obtain ⟨t,rfl⟩:=r; exact .list_int i t hl hu
 | str x=>obtain ⟨t,rfl⟩:=r; exact .list_str x t hl hu
 | _=>exact absurd (show false=true from f) Bool.false_ne_true
theorem vW {A:Around} {l:Addr} {items:Array Value} {y:V} {v:Value} (hl:s.heap.IsList l items) (hu:A.units < cLine) (r:RelV y v) (f:flatV y=true):SeqAt.EqAt A s v (.ref l) false:=by
 cases y with
 | non=>cases r; exact .none_list hl hu
 | bl b=>cases r; exact .bool_list b hl hu
 | int i=>obtain ⟨t,rfl⟩:=r; exact .int_list i t hl hu
 | str x=>obtain ⟨t,rfl⟩:=r; exact .str_list x t hl hu
 | _=>exact absurd (show false=true from f) Bool.false_ne_true
theorem tL {A:Around} {l:Addr} {items:Array Value} {y:V} {v:Value} (hl:s.heap.IsTuple l items) (hu:A.units < cLine) (r:RelV y v) (f:flatV y=true):SeqAt.EqAt A s (.ref l) v false:=by
 cases y with
 | non=>cases r; exact .tuple_none hl hu
 | bl b=>cases r; exact .tuple_bool b hl hu
 | int i=>obtain ⟨t,rfl⟩:=r; exact .tuple_int i t hl hu
 | str x=>obtain ⟨t,rfl⟩:=r; exact .tuple_str x t hl hu
 | _=>exact absurd (show false=true from f) Bool.false_ne_true
theorem ug {A:Around} {l:Addr} {items:Array Value} {y:V} {v:Value} (hl:s.heap.IsTuple l items) (hu:A.units < cLine) (r:RelV y v) (f:flatV y=true):SeqAt.EqAt A s v (.ref l) false:=by
 cases y with
 | non=>cases r; exact .none_tuple hl hu
 | bl b=>cases r; exact .bool_tuple b hl hu
 | int i=>obtain ⟨t,rfl⟩:=r; exact .int_tuple i t hl hu
 | str x=>obtain ⟨t,rfl⟩:=r; exact .str_tuple x t hl hu
 | _=>exact absurd (show false=true from f) Bool.false_ne_true
theorem sk (I:Inv X pins σ H s) {a:Addr} {vs ws:List V} (h:SqL X.K H a vs) (k:SqT X.K H a ws):False:=by
 obtain ⟨_,_,p1,_⟩:=I.list h;obtain ⟨_,_,p2,_⟩:=I.tuple k;exact SeqAt.ne_of_list_tuple p1.isList p2 rfl
theorem lm (I:Inv X pins σ H s):∀ (n:Nat) (v:V) (d d':D),Deep X.K H n v d->Deep X.K H n v d'->eqD d d'=true
 | 0,v,d,d',⟨e,f⟩,⟨e',_⟩=>by subst e; subst e'; rw [eqD]; exact rg f
 | n+1,v,d,d',h,h'=>by
  have pr:∀ (vs:List V) (ds ds':List D),Paired (Deep X.K H n) vs ds->Paired (Deep X.K H n) vs ds'->eqDs ds ds'=true:=by
   intro vs
   induction vs with
   | nil=>intro ds ds' p q; cases p; cases q; rw [eqDs]
   | cons v vs ih=>
    intro ds ds' p q;cases p with
    | cons p1 p2=>cases q with
     | cons q1 q2=>rw [eqDs,lm I n v _ _ p1 q1,ih _ _ p2 q2]; rfl
  rcases h with ⟨e,f⟩ | ⟨a,vs,ds,rfl,rfl,ha,p⟩ | ⟨a,vs,ds,rfl,rfl,ha,p⟩
  ·rcases h' with ⟨e',_⟩ | ⟨a',vs',ds',rfl,_⟩ | ⟨a',vs',ds',rfl,_⟩
   ·subst e; subst e'; rw [eqD]; exact rg f
   ·exact absurd (show false=true from f) Bool.false_ne_true
   ·exact absurd (show false=true from f) Bool.false_ne_true
  ·rcases h' with ⟨_,f⟩ | ⟨a',vs',ds',e,rfl,ha',p'⟩ | ⟨a',vs',ds',e,rfl,ha',p'⟩
   ·exact absurd (show false=true from f) Bool.false_ne_true
   ·cases e;obtain rfl:=I.list_inj ha ha';rw [eqD]; exact pr vs ds ds' p p'
   ·cases e;exact (sk I ha ha').elim
  ·rcases h' with ⟨_,f⟩ | ⟨a',vs',ds',e,rfl,ha',p'⟩ | ⟨a',vs',ds',e,rfl,ha',p'⟩
   ·exact absurd (show false=true from f) Bool.false_ne_true
   ·cases e;exact (sk I ha' ha).elim
   ·cases e;obtain rfl:=I.tuple_inj ha ha';rw [eqD]; exact pr vs ds ds' p p'
noncomputable def eqNth (ds ds':List D) (j:Nat):Bool:=match ds[j]?,ds'[j]? with
 | some d,some d'=>eqD d d'
 | _,_=>true
theorem eS:∀ {ds ds':List D},ds.length=ds'.length->(List.range ds.length).all (eqNth ds ds')=eqDs ds ds'
 | [],[],_=>by rw [eqDs]; rfl
 | d::ds,d'::ds',h=>by
  have ih:=eS (ds:=ds) (ds':=ds') (by simpa using h);rw [List.length_cons,List.range_succ_eq_map,List.all_cons,List.all_map,eqDs];have e:eqNth (d::ds) (d'::ds') 0=eqD d d':=rfl;have e2:(eqNth (d::ds) (d'::ds') ∘ Nat.succ)=eqNth ds ds':=funext fun j=>by simp [eqNth]
  rw [e,e2,ih]
theorem aE {α β:Type} {F:α -> β -> Prop}:∀ {l:List α} {m:List β},Paired F l m->∀ {j:Nat} {x:α},l[j]? = some x->∃ y,m[j]? = some y/\F x y
 | _,_,.nil,j,x,h=>by simp at h
 | _,_,.cons p r,0,x,h=>by simp at h; subst h; exact ⟨_,rfl,p⟩
 | _,_,.cons p r,j+1,x,h=>by simpa using aE r (j:=j) (by simpa using h)
theorem jm (I:Inv X pins σ H s):∀ (n:Nat) (A:Around) (x y:V) (dx dy:D) (u v:Value),A.units+n < cLine->Deep X.K H n x dx->Deep X.K H n y dy->RelV x u->RelV y v->SeqAt.EqAt A s u v (eqD dx dy)
 | 0,A,x,y,dx,dy,u,v,_,⟨e,f⟩,⟨e',f'⟩,ru,rv=>by subst e; subst e'; rw [eqD]; exact tT ru rv f f'
 | n+1,A,x,y,dx,dy,u,v,hu,hx,hy,ru,rv=>by
  have hu0:A.units < cLine:=by omega
  have items:∀ (vs ws:List V) (ds ds':List D) (us us':List Value),Paired (Deep X.K H n) vs ds->Paired (Deep X.K H n) ws ds'->Vals vs us->Vals ws us' ->
    ∀ j (h1:j < us.toArray.size) (h2:j < us'.toArray.size),SeqAt.EqAt A.in1 s us.toArray[j] us'.toArray[j] (eqNth ds ds' j):=by
   intro vs ws ds ds' us us' p q r r' j h1 h2;have l1:=r.length;have l2:=r'.length;simp only [List.size_toArray] at h1 h2;have g1:vs[j]? = some (vs[j]'(by omega)):=List.getElem?_eq_getElem _;have g2:ws[j]? = some (ws[j]'(by omega)):=List.getElem?_eq_getElem _;obtain ⟨d,hd,fd⟩:=aE p g1;obtain ⟨d',hd',fd'⟩:=aE q g2;obtain ⟨c,hc,rc⟩:=r.get g1;obtain ⟨c',hc',rc'⟩:=r'.get g2;have e1:us.toArray[j]=c:=by rw [List.getElem?_eq_getElem h1] at hc; simpa using hc
   have e2:us'.toArray[j]=c':=by rw [List.getElem?_eq_getElem h2] at hc'; simpa using hc'
   rw [e1,e2];unfold eqNth;rw [hd,hd'];exact jm I n A.in1 _ _ d d' c c' (by rw [Around.in1_units]; omega) fd fd' rc rc'
  rcases hx with ⟨e,f⟩ | ⟨a,vs,ds,rfl,rfl,ha,p⟩ | ⟨a,vs,ds,rfl,rfl,ha,p⟩
  ·subst e;rcases hy with ⟨e',f'⟩ | ⟨b,ws,ds',rfl,rfl,hb,q⟩ | ⟨b,ws,ds',rfl,rfl,hb,q⟩
   ·subst e'; rw [eqD]; exact tT ru rv f f'
   ·cases rv;obtain ⟨_,_,pl,_⟩:=I.list hb;rw [eqD]; exact vW pl.isList hu0 ru f
   ·cases rv;obtain ⟨_,_,pl,_⟩:=I.tuple hb;rw [eqD]; exact ug pl hu0 ru f
  ·cases ru;obtain ⟨us,r1,pl,_⟩:=I.list ha;rcases hy with ⟨e',f'⟩ | ⟨b,ws,ds',rfl,rfl,hb,q⟩ | ⟨b,ws,ds',rfl,rfl,hb,q⟩
   ·subst e'; rw [eqD]; exact wc pl.isList hu0 rv f'
   ·cases rv;by_cases eab:a=b
    ·subst eab;have:=lm I (n+1) (.ref a) (.l ds) (.l ds') (.inr (.inl ⟨a,vs,ds,rfl,rfl,ha,p⟩)) (.inr (.inl ⟨a,ws,ds',rfl,rfl,hb,q⟩));rw [this];exact SeqAt.EqAt.same _
    ·obtain ⟨us',r2,pl2,_⟩:=I.list hb;have l1:=r1.length;have l2:=r2.length;have l3:=p.length;have l4:=q.length;rw [eqD];by_cases el:ds.length=ds'.length
     ·rw [<- eS el,show ds.length=us.toArray.size by simp only [List.size_toArray]; omega];exact .of_refs eab (.lists pl.isList pl2.isList (by simp only [List.size_toArray]; omega) hu0 (items vs ws ds ds' us us' p q r1 r2))
     ·rw [gx el];exact .of_refs eab (.lists_lengths pl.isList pl2.isList (by simp only [List.size_toArray,bne_iff_ne,ne_eq]; omega) hu0)
   ·cases rv;obtain ⟨_,_,pl2,_⟩:=I.tuple hb;rw [eqD]; exact .list_tuple pl.isList pl2 hu0
  ·cases ru;obtain ⟨us,r1,pl,_⟩:=I.tuple ha;rcases hy with ⟨e',f'⟩ | ⟨b,ws,ds',rfl,rfl,hb,q⟩ | ⟨b,ws,ds',rfl,rfl,hb,q⟩
   ·subst e'; rw [eqD]; exact tL pl hu0 rv f'
   ·cases rv;obtain ⟨_,_,pl2,_⟩:=I.list hb;rw [eqD]; exact .tuple_list pl pl2.isList hu0
   ·cases rv;by_cases eab:a=b
    ·subst eab;have:=lm I (n+1) (.ref a) (.t ds) (.t ds') (.inr (.inr ⟨a,vs,ds,rfl,rfl,ha,p⟩)) (.inr (.inr ⟨a,ws,ds',rfl,rfl,hb,q⟩));rw [this];exact SeqAt.EqAt.same _
    ·obtain ⟨us',r2,pl2,_⟩:=I.tuple hb;have l1:=r1.length;have l2:=r2.length;have l3:=p.length;have l4:=q.length;rw [eqD];have key:eqDs ds ds'=((List.range (min us.toArray.size us'.toArray.size)).all (eqNth ds ds') && us.toArray.size == us'.toArray.size):=by
      by_cases el:ds.length=ds'.length
      ·rw [<- eS el,show min us.toArray.size us'.toArray.size=ds.length by simp only [List.size_toArray]; omega,show (us.toArray.size == us'.toArray.size)=true by simp only [List.size_toArray,beq_iff_eq]; omega,Bool.and_true]
      ·rw [gx el,show (us.toArray.size == us'.toArray.size)=false by simp only [List.size_toArray,beq_eq_false_iff_ne,ne_eq]; omega,Bool.and_false]
     rw [key];exact .of_refs eab (.tuples pl pl2 hu0 (items vs ws ds ds' us us' p q r1 r2))
end
section
variable {X:Cx} {pins:List (Addr × Obj)} {σ:St} {H:Hp} {s:Shared}
theorem ig (I:Inv X pins σ H s) {n:Nat} {A:Around} (hu:A.units+n+1 < cLine) {vs ws:List V} {ds ds':List D} {us us':List Value} (p:Paired (Deep X.K H n) vs ds) (q:Paired (Deep X.K H n) ws ds') (r:Vals vs us) (r':Vals ws us'):
  ∀ j (h1:j < us.toArray.size) (h2:j < us'.toArray.size),SeqAt.EqAt A.in1 s us.toArray[j] us'.toArray[j] (eqNth ds ds' j):=by
 intro j h1 h2;have l1:=r.length;have l2:=r'.length;simp only [List.size_toArray] at h1 h2;have g1:vs[j]? = some (vs[j]'(by omega)):=List.getElem?_eq_getElem _;have g2:ws[j]? = some (ws[j]'(by omega)):=List.getElem?_eq_getElem _;obtain ⟨d,hd,fd⟩:=aE p g1;obtain ⟨d',hd',fd'⟩:=aE q g2;obtain ⟨c,hc,rc⟩:=r.get g1;obtain ⟨c',hc',rc'⟩:=r'.get g2;have e1:us.toArray[j]=c:=by rw [List.getElem?_eq_getElem h1] at hc; simpa using hc
 have e2:us'.toArray[j]=c':=by rw [List.getElem?_eq_getElem h2] at hc'; simpa using hc'
 rw [e1,e2];unfold eqNth;rw [hd,hd'];exact jm I n A.in1 _ _ d d' c c' (by rw [Around.in1_units]; omega) fd fd' rc rc'
noncomputable def kEqD (K:Frag) (neg:Bool):R2:=fun x y H Q=>match x,y with
 | .ref a,.ref b=>∃ n dx dy,n<=100/\Deep K H n (.ref a) dx/\Deep K H n (.ref b) dy/\Q (.bl (neg ^^ eqD dx dy)) H
 | _,_=>False
theorem oG {us us':List Value} {ds ds':List D} (l1:ds.length=us.length) (l2:ds'.length=us'.length):((List.range (min us.toArray.size us'.toArray.size)).all (eqNth ds ds') && us.toArray.size == us'.toArray.size)=eqDs ds ds':=by
 by_cases el:ds.length=ds'.length
 ·rw [<- eS el,show min us.toArray.size us'.toArray.size=ds.length by simp only [List.size_toArray]; omega,show (us.toArray.size == us'.toArray.size)=true by simp only [List.size_toArray,beq_iff_eq]; omega,Bool.and_true]
 ·rw [gx el,show (us.toArray.size == us'.toArray.size)=false by simp only [List.size_toArray,beq_eq_false_iff_ne,ne_eq]; omega,Bool.and_false]
theorem eqDE (K:Frag) (hK:X.K=K) {k:Nat} (hr:Room k X.A):OpR X (compareOp .Eq) (kEqD K false):=by
 subst hK;intro pins s σ H x y v u Q I rx ry h;unfold kEqD at h;split at h
 ·rename_i a b;obtain ⟨n,dx,dy,hn,hx,hy,q⟩:=h;cases rx;cases ry;simp only [Bool.false_bne] at q;have hu:=hr.un;cases n with
  | zero=>exact absurd (show false=true from hx.2) Bool.false_ne_true
  | succ n=>
   rcases hx with ⟨_,f⟩ | ⟨a',vs,ds,e,rfl,ha,p⟩ | ⟨a',vs,ds,e,rfl,ha,p⟩
   ·exact absurd (show false=true from f) Bool.false_ne_true
   ·cases e;obtain ⟨us,r1,pl,_⟩:=I.list ha;have l1:=r1.length;have l3:=p.length;rcases hy with ⟨_,f⟩ | ⟨b',ws,ds',e,rfl,hb,p'⟩ | ⟨b',ws,ds',e,rfl,hb,p'⟩
    ·exact absurd (show false=true from f) Bool.false_ne_true
    ·cases e;obtain ⟨us',r2,pl2,_⟩:=I.list hb;have l2:=r2.length;have l4:=p'.length;rw [eqD] at q;by_cases el:ds.length=ds'.length
     ·refine SeqAt.eq_listAt (e:=eqNth ds ds') pl.isList pl2.isList (by simp only [List.size_toArray]; omega) (by omega) (ig I (by omega) p p' r1 r2) ?_;rw [show us.toArray.size=ds.length by simp only [List.size_toArray]; omega,eS el];exact ⟨.bl _,H,I,rfl,q⟩
     ·refine SeqAt.eq_list_lengthsAt pl.isList pl2.isList (by simp only [List.size_toArray,bne_iff_ne,ne_eq]; omega) (by omega) ?_;rw [gx el] at q;exact ⟨.bl _,H,I,rfl,q⟩
    ·cases e;obtain ⟨us',r2,pl2,_⟩:=I.tuple hb;rw [eqD] at q;exact SeqAt.RcAt.list_tuple pl.isList pl2 (by omega) _ _ _ _ ⟨.bl _,H,I,rfl,q⟩
   ·cases e;obtain ⟨us,r1,pl,_⟩:=I.tuple ha;have l1:=r1.length;have l3:=p.length;rcases hy with ⟨_,f⟩ | ⟨b',ws,ds',e,rfl,hb,p'⟩ | ⟨b',ws,ds',e,rfl,hb,p'⟩
    ·exact absurd (show false=true from f) Bool.false_ne_true
    ·cases e;obtain ⟨us',r2,pl2,_⟩:=I.list hb;rw [eqD] at q;exact SeqAt.RcAt.tuple_list pl pl2.isList (by omega) _ _ _ _ ⟨.bl _,H,I,rfl,q⟩
    ·cases e;obtain ⟨us',r2,pl2,_⟩:=I.tuple hb;have l2:=r2.length;have l4:=p'.length;rw [eqD] at q;refine SeqAt.eq_tupleAt (e:=eqNth ds ds') pl pl2 (by omega) (ig I (by omega) p p' r1 r2) ?_;rw [oG (by omega) (by omega)];exact ⟨.bl _,H,I,rfl,q⟩
 ·exact h.elim
theorem neDE (K:Frag) (hK:X.K=K) {k:Nat} (hr:Room k X.A):OpR X (compareOp .NotEq) (kEqD K true):=by
 subst hK;intro pins s σ H x y v u Q I rx ry h;unfold kEqD at h;split at h
 ·rename_i a b;obtain ⟨n,dx,dy,hn,hx,hy,q⟩:=h;cases rx;cases ry;simp only [Bool.true_bne] at q;have hu:=hr.un;cases n with
  | zero=>exact absurd (show false=true from hx.2) Bool.false_ne_true
  | succ n=>
   rcases hx with ⟨_,f⟩ | ⟨a',vs,ds,e,rfl,ha,p⟩ | ⟨a',vs,ds,e,rfl,ha,p⟩
   ·exact absurd (show false=true from f) Bool.false_ne_true
   ·cases e;obtain ⟨us,r1,pl,_⟩:=I.list ha;have l1:=r1.length;have l3:=p.length;rcases hy with ⟨_,f⟩ | ⟨b',ws,ds',e,rfl,hb,p'⟩ | ⟨b',ws,ds',e,rfl,hb,p'⟩
    ·exact absurd (show false=true from f) Bool.false_ne_true
    ·cases e;obtain ⟨us',r2,pl2,_⟩:=I.list hb;have l2:=r2.length;have l4:=p'.length;rw [eqD] at q;by_cases el:ds.length=ds'.length
     ·refine SeqAt.RcNeAt.lists (e:=eqNth ds ds') pl.isList pl2.isList (by simp only [List.size_toArray]; omega) (by omega) (ig I (by omega) p p' r1 r2) _ _ _ _ ?_;rw [show us.toArray.size=ds.length by simp only [List.size_toArray]; omega,eS el];exact ⟨.bl _,H,I,rfl,q⟩
     ·refine SeqAt.RcNeAt.lists_lengths pl.isList pl2.isList (by simp only [List.size_toArray,bne_iff_ne,ne_eq]; omega) (by omega) _ _ _ _ ?_;rw [gx el] at q;exact ⟨.bl _,H,I,rfl,q⟩
    ·cases e;obtain ⟨us',r2,pl2,_⟩:=I.tuple hb;rw [eqD] at q;exact SeqAt.RcNeAt.list_tuple pl.isList pl2 (by omega) _ _ _ _ ⟨.bl _,H,I,rfl,q⟩
   ·cases e;obtain ⟨us,r1,pl,_⟩:=I.tuple ha;have l1:=r1.length;have l3:=p.length;rcases hy with ⟨_,f⟩ | ⟨b',ws,ds',e,rfl,hb,p'⟩ | ⟨b',ws,ds',e,rfl,hb,p'⟩
    ·exact absurd (show false=true from f) Bool.false_ne_true
    ·cases e;obtain ⟨us',r2,pl2,_⟩:=I.list hb;rw [eqD] at q;exact SeqAt.RcNeAt.tuple_list pl pl2.isList (by omega) _ _ _ _ ⟨.bl _,H,I,rfl,q⟩
    ·cases e;obtain ⟨us',r2,pl2,_⟩:=I.tuple hb;have l2:=r2.length;have l4:=p'.length;rw [eqD] at q;refine SeqAt.RcNeAt.tuples (e:=eqNth ds ds') pl pl2 (by omega) (ig I (by omega) p p' r1 r2) _ _ _ _ ?_;rw [oG (by omega) (by omega)];exact ⟨.bl _,H,I,rfl,q⟩
 ·exact h.elim
end
section
variable {X:Cx}
theorem AY {K:Frag} {n:Bool} {a b:Addr} {H:Hp} {Q:VK}:kEqD K n (.ref a) (.ref b) H Q=∃ k dx dy,k<=100/\Deep K H k (.ref a) dx/\Deep K H k (.ref b) dy/\Q (.bl (n ^^ eqD dx dy)) H:=rfl
theorem sU {bs:List Bool}:∀ {us:List Value},Vals (bs.map V.bl) us->us=bs.map Value.bool:=by
 induction bs with
 | nil=>intro us h; cases h; rfl
 | cons b bs ih=>
  intro us h;cases h with
  | cons r t=>cases r; rw [ih t]; rfl
end
section
variable {X:Cx}
noncomputable def cListRng (te:TE):TE:=fun σ H Q=>te σ H fun x H1=>match x with
 | .int j=>-(2 ^ 62)<=j/\j<=10000/\∀ p,H1 p=none->Q (.ref p) (upd H1 p (.lst ((List.range j.toNat).map fun (i:Nat)=>V.int i)))
 | _=>False
theorem tX {acc:Array Value} {n:Nat} (h:ItemsOf (fun i v=>∃ t,v=Value.int ((0:Int)+(i:Int)*1) t) acc n):Vals ((List.range n).map fun (i:Nat)=>V.int i) acc.toList:=by
 obtain ⟨hs,hi⟩:=h;have key:∀ (l:List Value) (k:Nat),(∀ (j:Nat) (v:Value),l[j]? = some v->∃ t,v=Value.int ((k+j:Nat):Int) t)->Vals ((List.range' k l.length).map fun (i:Nat)=>V.int i) l:=by
  intro l
  induction l with
  | nil=>intro k _; exact .nil
  | cons v l ih=>
   intro k h;obtain ⟨t,e⟩:=h 0 v rfl;rw [List.length_cons,List.range'_succ,List.map_cons];refine .cons ⟨t,by simpa using e⟩ (ih (k+1) fun j v hj=>?_);obtain ⟨t,e⟩:=h (j+1) v (by simpa using hj);exact ⟨t,by rw [e]; congr 1; omega⟩
 have:=key acc.toList 0 fun j v hj=>by
  obtain ⟨t,e⟩:=hi j v (by simpa using hj);exact ⟨t,by rw [e]; congr 1; omega⟩
 rw [Array.length_toList,hs,<- List.range_eq_range'] at this;exact this
theorem ui {e:Expr} {te:TE} {p p2 pos pos2:Pos} (hc:X.calm=true) (hg:Gl X "list") (hm:X.mg "list" = none) (hg2:Gl X "range") (hm2:X.mg "range" = none) (he:PE X e te)
  (hs:starEach [e] X.env=[(false,eval e X.env)]:=by rfl)
  (hs2:starEach [Expr.Call (.Name "range" p2) [e] [] pos2] X.env=[(false,eval (Expr.Call (.Name "range" p2) [e] [] pos2) X.env)]:=by rfl):
  PE X (.Call (.Name "list" p) [.Call (.Name "range" p2) [e] [] pos2] [] pos) (cListRng te):=by
 intro pins s σ H Q I h;refine wpAny_Call_Name_kw (dA I hg hm fv ?_ (by decide) (by decide));refine PyProof.Rows.callWith_type1 ?_ hs2 rfl;rw [hs2];show wpAny _ _ (spliced [(false,eval (Expr.Call (.Name "range" p2) [e] [] pos2) X.env)]) _ _ s;refine Calls.spliced_cons ?_;refine wpAny_Call_Name_kw (dA I hg2 hm2 boot_range ?_ (by decide) (by decide));refine PyProof.Rows.callWith_type1 ?_ hs rfl;rw [hs];show wpAny _ _ (spliced [(false,eval e X.env)]) _ _ s;refine Calls.spliced_cons (thn (he pins s σ H _ I h) fun u s1 ⟨x,H1,I1,r1,q1⟩=>Calls.spliced_nil ?_)
 match x,r1,q1 with
 | .int j,⟨t,ht⟩,⟨a1,a2,a3⟩=>
  subst ht;refine call_range_1 (Calls.spliced_nil ?_);have I2:Inv X pins σ H1 { s1 with heap:=s1.heap.push { cls:=.type "range",data:=.fields #[.int 0 s1.toks,.int j t,.int 1 (s1.toks+1)] },toks:=s1.toks+1+1 }:=I1.kept fun b o q=>Heap.get?_push_of_some _ q
  have hsz:Builtin.Range.rangeSize 0 j 1=((j.toNat:Nat):Int):=by rw [rangeSize_one]; split <;> omega
  refine tokQ I2.tk (call_list_range (n:=j.toNat) (I.ok.hd hc) (IsRange.new ..) (small_one (by decide) (by decide) a1 (by omega)) hsz (by omega) fun h' tk acc c' old ho hi (htk:0 < tk)=>?_);exact ⟨.ref _,_,I2.laid (o:=.lst ((List.range j.toNat).map fun (i:Nat)=>V.int i)) (t':=tk) old (Nat.le_refl _) ⟨by rw [List.length_map,List.length_range,sizeLine_eq]; omega,acc.toList,c',tX hi,by simpa using ho⟩,rfl,a3 _ I2.fresh⟩
theorem tP {te:TE} {σ:St} {H:Hp} {Q:VK}:cListRng te σ H Q=te σ H fun x H1=>match x with
 | .int j=>-(2 ^ 62)<=j/\j<=10000/\∀ p,H1 p=none->Q (.ref p) (upd H1 p (.lst ((List.range j.toNat).map fun (i:Nat)=>V.int i)))
 | _=>False:=rfl
end
noncomputable abbrev tx (l:List Nat):V:=V.str (st l)
section
variable {K:Frag} {g:TG} {tc:TT} {te:TE} {σc:St} {D:Addr} {Q:VK} {H:Hp}
theorem xb {α:Type} (item:α -> V) (xs:List α) (keep:α -> Bool) (R:α -> V->Hp->Prop) {p:Addr} (hfree:H D=none) (hl:SqL K H p (xs.map item)) (hn:xs.length<=100000)
  (mono:∀ x v H1 H2 acc,H1 D=some (.lst acc)->(∀ b o,b≠D->H1 b=some o->H2 b=some o)->R x v H1->R x v H2)
  (hs:∀ x H1 (out:VK) (non:Hp->Prop),x ∈ xs->Same H H1->(∀ v H6,keep x=true->Same H1 H6->R x v H6->out v H6)->(∀ H5,keep x=false->Same H1 H5->non H5) ->
   g (item x) σc H1 fun σ4 H4=>tc σ4 H4 fun b H5=>if b=true then te σ4 H5 out else non H5)
  (hq:∀ H' vs,Same H H'->H' D=some (.lst vs)->Paired (fun x v=>R x v H') (xs.filter keep) vs->Q (.ref D) H'):compW (Itl K p) g tc te σc D Q H:=by
 refine ⟨fun i m acc H2=>m=xs.length - i/\i<=xs.length/\Paired (fun x v=>R x v H2) ((xs.take i).filter keep) acc/\Same H H2/\H2 D=some (.lst acc),⟨xs.length,by simp,Nat.zero_le _,.nil,ah hfree _,upd_same⟩,?_⟩;rintro i m acc H2 ⟨rfl,hi,pr,sm,hD⟩;have len:acc.length<=i:=by
  have a:=pr.length;have b:=List.length_filter_le keep (xs.take i);rw [List.length_take] at b;omega
 by_cases hlt:i < xs.length
 ·refine .inr ⟨⟨_,item xs[i],sm.seq hl,by simp [hlt]⟩,fun x H3 y=>?_⟩;obtain ⟨rfl,y⟩:=y;have e:=y _ (sm.seq hl);rw [List.getElem?_map,List.getElem?_eq_getElem hlt] at e;have e2:item xs[i]=x:=Option.some.inj e;subst e2;have ht:xs.take (i+1)=xs.take i++[xs[i]]:=by rw [List.take_add_one,List.getElem?_eq_getElem hlt]; rfl
  refine hs xs[i] _ _ _ (List.getElem_mem hlt) sm (fun v H6 k s6 r=>?_) fun H5 k s5=>?_
  ·refine ⟨s6 _ _ hD,Nat.lt_of_le_of_lt len (sizeBig (by omega)),xs.length - (i+1),by omega,rfl,hlt,?_,?_,upd_same⟩
   ·have m1:∀ x v,R x v H6->R x v (upd H6 D (.lst (acc++[v]))):=fun x v r=>mono x v H6 _ acc (s6 _ _ hD) (fun b o nb q=>by rw [av nb]; exact q) r
    rw [ht,List.filter_append];have f1:[xs[i]].filter keep=[xs[i]]:=by simp [k]
    rw [f1];have lift:∀ {l:List α} {vs:List V},Paired (fun x v=>R x v H3) l vs->Paired (fun x v'=>R x v' (upd H6 D (.lst (acc++[v])))) l vs:=by
     intro l vs pp
     induction pp with
     | nil=>exact .nil
     | cons r _ ih=>exact .cons (mono _ _ H3 _ acc hD (fun b o nb q=>by rw [av nb]; exact s6 _ _ q) r) ih
    have app:∀ {l:List α} {vs:List V} {x:α} {v':V} {F:α -> V->Prop},Paired F l vs->F x v'->Paired F (l++[x]) (vs++[v']):=by
     intro l vs x v' F pp r
     induction pp with
     | nil=>exact .cons r .nil
     | cons r' _ ih=>exact .cons r' ih
    exact app (lift pr) (m1 _ _ r)
   ·exact aK (sm.trans s6) hfree
  ·refine ⟨xs.length - (i+1),by omega,rfl,hlt,?_,sm.trans s5,s5 _ _ hD⟩;rw [ht,List.filter_append];have f1:[xs[i]].filter keep=[]:=by simp [k]
   rw [f1,List.append_nil];have lift:∀ {l:List α} {vs:List V},Paired (fun x v=>R x v H3) l vs->Paired (fun x v'=>R x v' H5) l vs:=by
    intro l vs pp
    induction pp with
    | nil=>exact .nil
    | cons r _ ih=>exact .cons (mono _ _ H3 _ acc hD (fun b o _ q=>s5 _ _ q) r) ih
   exact lift pr
 ·have e:i=xs.length:=by omega
  subst e;rw [List.take_length] at pr;exact .inl ⟨⟨_,sm.seq hl,by simp⟩,hq H2 acc sm hD pr⟩
end
section
variable {X:Cx}
noncomputable def kMulL:R2:=fun x y H Q=>match x,y with
 | .ref l,.int k=>∃ xs,H l=some (.lst xs)/\0<=k/\k<=10000/\xs.length<=100/\∀ p,H p=none->Q (.ref p) (upd H p (.lst (List.replicate k.toNat xs).flatten))
 | _,_=>False
theorem zO:OpR X (binaryOp .Mult) kMulL:=wR.imp fun x y H Q q=>by
 unfold kMulL at q;split at q
 ·rename_i l k;obtain ⟨xs,h1,h2,h3,h4,q⟩:=q;have h5:xs.length*k.toNat<=100*10000:=Nat.mul_le_mul h4 (by omega);exact ⟨l,k,xs,rfl,rfl,h1,by omega,by omega,Nat.le_trans h5 (by rw [sizeLine_eq]; decide),q⟩
 ·exact q.elim
theorem zh {l:Addr} {k:Int} {H:Hp} {Q:VK}:kMulL (.ref l) (.int k) H Q=∃ xs,H l=some (.lst xs)/\0<=k/\k<=10000/\xs.length<=100/\∀ p,H p=none->Q (.ref p) (upd H p (.lst (List.replicate k.toNat xs).flatten)):=rfl
end
theorem AB {to ti:TE} {t:TSet} {v:V} {σ:St} {H:Hp} {Q:St->Hp->Prop}:gSub to ti t v σ H Q=to σ H fun o H1=>ti σ H1 fun i H2=>t o i v H2 fun H3=>Q σ H3:=rfl
theorem yI {p:Addr} {k:Int} {v:V} {H:Hp} {Q:Hp->Prop}:rSetL (.ref p) (.int k) v H Q=∃ xs j,H p=some (.lst xs)/\ixN xs.length k=some j/\Q (upd H p (.lst (xs.set j v))):=by
 refine propext ⟨?_,?_⟩
 ·rintro ⟨p',xs,k',j,e1,e2,h⟩;cases e1;cases e2;exact ⟨xs,j,h⟩
 ·rintro ⟨xs,j,h⟩;exact ⟨p,xs,k,j,rfl,rfl,h⟩
theorem wl (x y:Str):Txt.startswith x y=decide (y.cps.toList <+: x.cps.toList):=by
 have key:Txt.startswith x y=true ↔ y.cps.toList <+: x.cps.toList:=by
  unfold Txt.startswith Builtin.Str.subAt;rw [Bool.and_eq_true,decide_eq_true_eq,beq_iff_eq,List.prefix_iff_eq_take];have e:(x.cps.extract 0 (0+y.length)).toList=x.cps.toList.take y.cps.toList.length:=by
   rw [Array.toList_extract];simp [Str.length,List.extract]
  constructor
  ·rintro ⟨_,h⟩;rw [<- e,h]
  ·intro h;refine ⟨?_,?_⟩
   ·have:=congrArg List.length h;simp only [List.length_take,Array.length_toList] at this;simp only [Str.length];omega
   ·apply Array.ext';rw [e];exact h.symm
 by_cases h:y.cps.toList <+: x.cps.toList
 ·rw [key.mpr h,decide_eq_true h]
 ·rw [decide_eq_false h];cases q:Txt.startswith x y with
  | true=>exact absurd (key.mp q) h
  | false=>rfl
section
variable {X:Cx} {o e:Expr} {to te:TE} {apos cpos:Pos}
theorem va:MtR X "str.startswith" (fun x vs H Q=>∃ a b,x=.str a/\vs=[.str b]/\Q (.bl (decide (b.cps.toList <+: a.cps.toList))) H):=by
 intro pins s σ H x vs v us Q I rx rv h;obtain ⟨a,b,rfl,rfl,q⟩:=h;obtain ⟨t,rfl⟩:=rx;obtain ⟨u,rfl,ru⟩:=rv.one;obtain ⟨t2,rfl⟩:=ru;refine SC.startswith ?_;rw [wl];exact ⟨.bl _,H,I,rfl,q⟩
noncomputable def cStarts (to te:TE):TE:=fun σ H Q=>to σ H fun x H1=>match x with
 | .str a=>te σ H1 fun y H2=>match y with
  | .str b=>Q (.bl (decide (b.cps.toList <+: a.cps.toList))) H2
  | _=>False
 | _=>False
theorem pi (ho:PE X o to) (he:PE X e te) (hbase:attributeBase o "startswith" X.env (eval o X.env)=eval o X.env:=by rfl)
  (hfew:((backTo cpos (starEach [e] X.env)).all (fun x=>!x.1) && (backToKw cpos (keywordEach [] X.env)).all (fun x=>x.1.isSome)
   && decide ([e].length+([]:List Keyword).length+(if ([]:List Keyword).isEmpty then 0 else 1) < 30))=true:=by rfl)
  (hline:(apos.endLine == cpos.line)=true:=by rfl) (hs:starEach [e] X.env=(false,eval e X.env)::starEach [] X.env:=by rfl) (hplain:(backTo cpos (starEach [] X.env)).any (·.1)=false:=by rfl):
  PE X (.Call (.Attribute o "startswith" apos) [e] [] cpos) (cStarts to te):=
 (ny PySem.F.plainAttrs_str PySem.F.slot_str_startswith PySem.F.type_str_startswith va ho.mono (aa he.mono ad hs) hbase hfew hline hs hplain).imp fun σ H Q q=>⟨_,q,fun x H1 z=>by
  split at z
  ·refine ⟨rfl,_,z,fun y H2 z2=>?_⟩;split at z2
   ·exact ⟨_,_,rfl,rfl,z2⟩
   ·exact z2.elim
  ·exact z.elim⟩
theorem vf {σ:St} {H:Hp} {Q:VK}:cStarts to te σ H Q=to σ H fun x H1=>match x with
 | .str a=>te σ H1 fun y H2=>match y with
  | .str b=>Q (.bl (decide (b.cps.toList <+: a.cps.toList))) H2
  | _=>False
 | _=>False:=rfl
end
section
variable {X:Cx} {tg a b c:Expr} {ta tb tc:TE} {pos p:Pos}
end
section
variable {g:TG} {tb:TS} {D:Ends} {σ:St} {H:Hp}
end
noncomputable def Itel (K:Frag) (a:Addr):It:=⟨fun i H=>∃ xs x,SqL K H a xs/\xs[i]? = some x,fun i H v H'=>∃ T x,v=.ref T/\H T=none/\(∀ xs,SqL K H a xs->xs[i]? = some x)/\H'=upd H T (.tup [.int i,x]),fun i H=>∃ xs,SqL K H a xs/\i=xs.length⟩
theorem tR {P:Program} {w:World} {K:Frag} {elts:List Expr} {kk:Nat} {pos:Pos} (a e it:Addr) (hne:e≠it) (hae:a≠e) (hai:a≠it):
  Turn P w K (.Tuple elts kk pos) (Itel K a) [e,it] e (fun i h=>(∃ old,IsEnum h e it i old)/\h.IsListIter it a i) where
 mem:=by simp
 obj:=fun i h st b hb=>by
  obtain ⟨⟨old,he⟩,o,e',c,d⟩:=st;simp only [List.mem_cons,List.not_mem_nil,or_false] at hb;rcases hb with rfl | rfl
  ·exact ⟨_,he,fun v z=>by
    have z':Data.fields _=Data.cell v:=z;cases z'⟩
  ·exact ⟨o,e',fun v z=>by rw [d] at z; cases z⟩
 keep:=fun i h h' st k=>by
  obtain ⟨⟨old,he⟩,hl⟩:=st;exact ⟨⟨old,k e (by simp) _ he⟩,hl.at fun o q=>k it (by simp) o q⟩
 item:=by
  intro X hP hw hK hc i pins s σ H E I hf st hg;subst hP hw hK;obtain ⟨xs,x,hq,hx⟩:=hg;obtain ⟨its,rv,pl,hz⟩:=I.list hq;obtain ⟨u,hu,ru⟩:=rv.get hx;have W:=WalksT.enumerate (prog:=X.prog) (w:=X.w) (A:=X.A) (I.ok.hd hc) e it a hne hae hai its.toArray;have hi:i < its.toArray.size:=by
   have:=(List.getElem?_eq_some_iff.mp hu).1;simpa using this
  refine tokQ I.tk (W.item i s _ _ hi ⟨st.1,st.2,pl.isList⟩ fun T vals h' tk hv hsz hT hmid kp (htk:0 < tk)=>?_);obtain ⟨t',xv,hxv,rfl⟩:=hv;have e2:xv=u:=by
   have:its[i]? = some xv:=by simpa using hxv
   rw [hu] at this;exact (Option.some.inj this).symm
  subst e2;have hap:=W.apart i T h' hmid;refine ⟨_,rfl,W.go elts kk pos i T { s with heap:=h',toks:=tk } _ _ hmid fun h'' st'' kp''=>?_⟩;have hT2:h''.IsTuple T #[.int i t',xv]:=by
   obtain ⟨o,ho,r⟩:=hT;exact ⟨o,kp'' T o hap ho,r⟩
  have I1:Inv X pins σ (upd H T (.tup [.int i,x])) { s with heap:=h'',toks:=tk }:=by
   refine I.turnedLaid (its:=[e,it]) (fun b ob hb q=>kp'' b ob hb (kp b ob hb q)) hf hsz ?_;exact ⟨by show 2<=sizeLine; decide,[.int i t',xv],.cons ⟨_,rfl⟩ (.cons ru .nil),hT2⟩
  refine ⟨.ref T,_,I1,rfl,⟨T,x,rfl,I.hok.fresh hsz,fun ys hy=>by rw [I.list_inj hy hq]; exact hx,rfl⟩,⟨st''.1,st''.2.1⟩,fun b hb=>?_⟩;have nb:b≠T:=fun z=>hap (z ▸ hb)
  rw [av nb];exact (hf b hb).1
 done:=by
  intro X hP hw hK hc i pins s σ H E I hf st hg;subst hP hw hK;obtain ⟨xs,hq,rfl⟩:=hg;obtain ⟨its,rv,pl,hz⟩:=I.list hq;have hl:=rv.length;have W:=WalksT.enumerate (prog:=X.prog) (w:=X.w) (A:=X.A) (I.ok.hd hc) e it a hne hae hai its.toArray;have hn:its.toArray.size=xs.length:=by simp only [List.size_toArray]; omega
  rw [hn] at W;exact tokQ I.tk (W.done s _ _ ⟨st.1,st.2,pl.isList⟩ fun h' tk kp (htk:0 < tk)=>⟨rfl,I.turnedL (its:=[e,it]) (fun b o hb q=>kp b o hb q) hf⟩)
 self:=fun A i s Q E st h=>by
  obtain ⟨⟨old,he⟩,_⟩:=st;exact wpAny_pyIter_enum he h
section
variable {X:Cx} {a:Expr} {ta:TE} {p pos:Pos}
noncomputable def cEnumL (K:Frag) (te:TE):TI:=fun σ H R=>te σ H fun x H1=>match x with
 | .ref l=>(∃ xs,SqL K H1 l xs)/\R (Itel K l) H1
 | _=>False
theorem rE (K:Frag) (hK:X.K=K) {elts:List Expr} {kk:Nat} {tpos:Pos} (hg:Gl X "enumerate") (hm:X.mg "enumerate" = none) (ha:PE X a ta) (hs:starEach [a] X.env=[(false,eval a X.env)]:=by rfl):
  PI X (.Tuple elts kk tpos) (.Call (.Name "enumerate" p) [a] [] pos) (cEnumL K ta):=by
 subst hK;intro pins s σ H R I h;refine Call_ (dA I hg hm qo (PyProof.Rows.callWith_type1 (thn ((aa ha.mono ad hs) pos pins s σ H (fun vs H1=>∃ l,vs=[.ref l]/\(∃ xs,SqL X.K H1 l xs)/\R (Itel X.K l) H1) I ⟨_,h,fun v H' z=>by
  split at z
  ·exact ⟨_,rfl,z⟩
  ·exact z.elim⟩) fun us s1 ⟨vs,H1,I1,r1,q1⟩=>?_) hs rfl))
 obtain ⟨l,rfl,⟨xs,hq⟩,q1⟩:=q1;cases r1 with
 | cons r rr=>
  cases rr;cases r;obtain ⟨its,rv,pl,hz⟩:=I1.list hq;have hlt:l < s1.heap.objs.size:=by
   obtain ⟨o,ho,_⟩:=pl.isList;exact Heap.lt_size ho
  refine call_enumerate_list pl.isList fun h' he hi hz kp=>?_
  have I2:Inv X pins σ H1 { s1 with heap:=h' }:=I1.kept (t':=s1.toks) kp;refine wpAny_pyIter_enum he ?_;refine ⟨_,[s1.heap.objs.size+1,s1.heap.objs.size],_,Itel X.K l,H1,rfl,I2,tR l (s1.heap.objs.size+1) s1.heap.objs.size (Nat.succ_ne_self _) (Nat.ne_of_lt (Nat.lt_succ_of_lt hlt)) (Nat.ne_of_lt hlt),⟨⟨_,he⟩,hi⟩,fun c hc=>?_,q1⟩;have hc':s1.heap.objs.size<=c:=by
   simp only [List.mem_cons,List.not_mem_nil,or_false] at hc;rcases hc with rfl | rfl <;> omega
  exact I1.fpOk hc' (I1.hok.fresh hc')
theorem wM {K:Frag} {σ:St} {H:Hp} {R:It->Hp->Prop}:cEnumL K ta σ H R=ta σ H fun x H1=>match x with
 | .ref l=>(∃ xs,SqL K H1 l xs)/\R (Itel K l) H1
 | _=>False:=rfl
end
theorem mX {K:Frag} {tb:TS} {D:Ends} {σ:St} {H:Hp} {a:Addr} {xs:List V} {j k:Nat} (Pv:Nat->St->Hp->Prop) (h0:Pv 0 σ H) (hl:∀ i σ H,i<=xs.length->Pv i σ H->SqL K H a xs)
  (hs:∀ i x σ H T,xs[i]? = some x->Pv i σ H->H T=none->tb (D.turn (Pv (i+1))) ((σ.set j (some (.int i))).set k (some x)) (upd H T (.tup [.int i,x]))) (hd:∀ σ H,Pv xs.length σ H->D.nx σ H):
  loopW (Itel K a) (gTup K 2 (gCons (gName j) (gCons (gName k) gNil))) tb D σ H:=
 tN (n:=xs.length) Pv h0 (fun i σ H hi p=>⟨xs,xs[i],hl i σ H (Nat.le_of_lt hi) p,by simp [hi]⟩)
  (fun σ H p=>⟨xs,hl _ σ H (Nat.le_refl _) p,rfl⟩)
  (fun i σ H v H' hi p y=>by
   obtain ⟨T,x,rfl,hT,hx,rfl⟩:=y;exact ⟨T,[_,_],rfl,SqT.upd_same,rfl,_,[_],rfl,_,[],rfl,rfl,hs i x σ H T (hx xs (hl i σ H (Nat.le_of_lt hi) p)) p hT⟩) hd
section
variable {prog:Program} {w:World} {A:Around} {E:Value->Shared->Prop} {s:Shared}
end
section
variable {X:Cx}
end
end L2
namespace L2
open PySem PySem.Spec PyProof.Rows PySem.Builtin PySem.Builtin.Str
theorem rb {n k:Nat} (h:n<=k):strSliceIndices none (some (k:Int)) 1 n=strSliceIndices none (some (n:Int)) 1 n:=by
 have e1:¬ ((k:Int) < 0):=by omega
 have e2:¬ ((n:Int) < 0):=by omega
 have e3:min (k:Int) (n:Int)=n:=by omega
 simp only [strSliceIndices,e1,e2,if_false,show (1:Int) > 0 by decide,if_true,e3,Int.min_self]
theorem vX (l:List Nat) (k:Nat):Txt.slice (st l) none (some (k:Int))=st (l.take k):=by
 by_cases h:k<=l.length
 ·exact mC l k h
 ·have e:Txt.slice (st l) none (some (k:Int))=Txt.slice (st l) none (some (l.length:Int)):=by
   unfold Txt.slice;have hl:(st l).length=l.length:=by simp [Str.length]
   rw [hl,rb (show l.length<=k by omega)]
  rw [e,mC l l.length (Nat.le_refl _),List.take_length,List.take_of_length_le (by omega)]
section
variable {X:Cx}
noncomputable def kSlF:V->Option Int->Option Int->Hp->VK->Prop:=fun x lo hi H Q=>match x,lo,hi with
 | .str z,none,some j=>z.cps.toList.length<=100000/\0<=j/\Q (.str (st (z.cps.toList.take j.toNat))) H
 | _,_,_=>False
theorem slF:SlR X kSlF:=sV.imp fun x lo hi H Q q=>by
 unfold kSlF at q;split at q
 ·obtain ⟨h,h0,q⟩:=q;rename_i z j;obtain ⟨k,rfl⟩:∃ k:Nat,j=k:=⟨j.toNat,by omega⟩;refine ⟨z,rfl,by rw [strlen]; exact Nat.le_trans h big5,?_⟩;have e:=vX z.cps.toList k;rw [aF] at e;rw [e];simpa using q
 ·exact q.elim
theorem AE {l:List Nat} {j:Int} {H:Hp} {Q:VK}:kSlF (.str (st l)) none (some j) H Q=(l.length<=100000/\0<=j/\Q (.str (st (l.take j.toNat))) H):=rfl
end
end L2
namespace L2
open PySem PySem.Spec PyProof.Rows
section
variable {X:Cx}
theorem g8 {i:Nat} {x:Str} {pos' spos:Pos} {elt tg iter:Expr} {ifs:List Expr} {scope:Scope} {pos:Pos} {wi:TI} {g:TG} {tc:TT} {te:TE} {nt:Nat} {fi:List Nat} {N':List Str} (hN:X.N.Nodup) (hi0:X.N[i]? = some x) (hx:Loc X.env.scope x) (hcalm:X.calm=true)
  (S:CScope scope) (cn:CNames X scope nt fi N') (gk:GK nt g) (hi:PI X tg iter wi)
  (hg:∀ cl C s H ex,PG (cxC X scope cl N' C s H ex) tg g) (hc:∀ cl C s H ex,PIf (cxC X scope cl N' C s H ex) ifs tc) (he:∀ cl C s H ex,PE (cxC X scope cl N' C s H ex) elt te)
  (hsw:swapsWith (.ListComp elt [⟨tg,iter,ifs,0⟩] scope pos) (some (.Name x pos')) spos.line X.env=pure true:=by rfl)
  (hs:∀ x,foldedSetIterable iter X.env x=pure x:=by intro _; rfl) (hf:X.fn x=true\/X.env.scope.names.lookup x=some .local:=by first | exact .inl rfl | exact .inr rfl | assumption):
  PS X (.Assign [.Name x pos'] (.ListComp elt [⟨tg,iter,ifs,0⟩] scope pos) spos) (tAsg (cComp nt fi wi g tc te) (gName i)):=by
 intro pins s σ H D I h;have hfr:∀ y ∈ scope.names,y.2=.free->∃ c,X.env.cells.lookup y.1=some c:=fun y hy e=>I.ok.has y.1 (cn.fre y hy e)
 rw [exec_Assign_Name_used _ _ _ _ hsw];refine wpAny_bind (wpAny_standAt (wpAny_bind ?_));change wpAny _ X.A (do let _ <- comprehension (.ListComp elt [⟨tg,iter,ifs,0⟩] scope pos) scope X.env _ (newList []) false (eval iter X.env) (some (assign (.Name x pos') X.env))) _ _ s;refine wpAny_bind (thn (Q:=fun _ s'=>∃ σ' H',Inv X pins σ' H' s'/\D.nx σ' H') ?_ fun _ s' q=>wpAny_pure (wpAny_pure q));refine wpAny_comprehension_free (use:=some (assign (.Name x pos') X.env)) rfl hs (iE hfr) S.kind S.loc (thn (hi pins s σ H _ I h) fun v s1 h1=>thn h1 fun itv s2 h2=>?_);obtain ⟨it,fp,tn,J,H2,e,I2,T,st2,f2,hW⟩:=h2;subst e;have fD:H2 s2.heap.objs.size=none:=I2.hok.fresh (Nat.le_refl _);obtain ⟨W,⟨m0,w0⟩,turn⟩:=hW s2.heap.objs.size fD;refine wpAny_newObj_type (wpAny_newFunctionEnv S.nocell (by intro y hy; simp at hy) (fun h₁ hns₁ hsb₁=>?_) S.kind);have I3:Inv X pins σ (upd H2 s2.heap.objs.size (.lst [])) { s2 with heap:=s2.heap.push { cls:=.type "list",dict:=none,data:=.seq ([]:List Value).toArray } }:=I2.lnew (its:=[]) (t':=s2.toks) .nil (Nat.zero_le _);generalize hs3:({ s2 with heap:=s2.heap.push { cls:=.type "list",dict:=none,data:=.seq ([]:List Value).toArray } }:Shared)=s3 at I3 hns₁ hsb₁ ⊢;have hsz:s3.heap.objs.size=s2.heap.objs.size+1:=by rw [<- hs3]; exact Heap.size_push ..
 have ob2:∀ b ∈ fp,∃ o,s3.heap.get? b=some o:=fun b hb=>by
  obtain ⟨o,e,_⟩:=T.obj _ _ st2 b hb;rw [<- hs3];exact ⟨o,Heap.get?_push_of_some _ e⟩
 have f3:∀ b ∈ fp,FpOk X pins (upd H2 s2.heap.objs.size (.lst [])) b:=fun b hb=>by
  obtain ⟨o,e,_⟩:=T.obj _ _ st2 b hb;refine ⟨?_,(f2 b hb).2⟩;rw [av (Nat.ne_of_lt (Heap.lt_size e))];exact (f2 b hb).1
 have kp:∀ b o,s3.heap.get? b=some o->h₁.get? b=some o:=fun b o e=>hsb₁.extBut b o (Nat.ne_of_lt (Heap.lt_size e)) (Heap.get?_push_of_some _ e)
 have st3:tn 0 h₁:=T.keep _ _ _ st2 fun b _ o e=>kp b o (by rw [<- hs3]; exact Heap.get?_push_of_some _ e)
 have J4:Inv (cxC X scope (clOf X.env.cells scope.names []) N' s3.heap.objs.size s3 (upd H2 s2.heap.objs.size (.lst [])) fp) (X.pn++pins) (compσ nt fi σ) (upd H2 s2.heap.objs.size (.lst [])) { s3 with heap:=h₁,toks:=s3.toks+([]:List (Str × Value)).length }:=
  ra I3 S cn f3 ob2 hns₁ kp I3.tk
 generalize hcl:clOf X.env.cells scope.names []=cl at J4 ⊢;generalize hH3:upd H2 s2.heap.objs.size (.lst [])=H3 at J4 I3 f3 w0;have stat:∀ {H':Hp},(∀ b ∈ fp,H' b=none)->∀ b ∈ fp,FpOk (cxC X scope cl N' s3.heap.objs.size s3 H3 fp) (X.pn++pins) H' b:=fun {H'} hn b hb=>by
  obtain ⟨g0,g1,g2,g3,g4,g5⟩:=f3 b hb;have ok:=J4.ok;refine ⟨hn b hb,(ok.exf b hb).1,ok.exfs b hb,.inl hb,(ok.exf b hb).2,fun p hp=>g5 p ?_⟩;have hp':p ∈ ([]:List (Addr × Obj))++(X.pn++pins):=hp;simpa using hp'
 have loop:∀ s₃:Shared,s₃ = { s3 with heap:=h₁,toks:=s3.toks+([]:List (Str × Value)).length } ->
   codeAny (model X.prog X.w) X.A (.compLoop (.ListComp elt [⟨tg,iter,ifs,0⟩] scope pos) 0 (.ref it) (.ref s2.heap.objs.size) (compEnvC scope cl s3.heap.objs.size X.env))
    (compPost (model X.prog X.w) X.A X.xe (some (assign (.Name x pos') X.env)) (fun _ s'=>∃ σ' H',Inv X pins σ' H' s'/\D.nx σ' H') (.ref s2.heap.objs.size) s3.heap.objs.size) s₃:=by
  rintro s₃ rfl;refine kc (fun n s'=>∃ i acc H',Inv (cxC X scope cl N' s3.heap.objs.size s3 H3 fp) (X.pn++pins) (compσ nt fi σ) H' s'/\tn i s'.heap/\(∀ b ∈ fp,H' b=none)/\W i n acc H') ?_ m0
   ⟨0,[],H3,J4,st3,fun b hb=>(f3 b hb).1,w0⟩
  rintro n s5 ⟨ii,acc,H5,I5,st5,fr5,w5⟩;rcases turn ii n acc H5 w5 with ⟨stop,qn⟩ | ⟨go,step⟩
  ·refine thn (T.done (cxC X scope cl N' s3.heap.objs.size s3 H3 fp) rfl rfl rfl hcalm ii (X.pn++pins) s5 (compσ nt fi σ) H5 (fun _ _=>False) I5 (stat fr5) st5 stop) fun r s6 ⟨hr,I6⟩=>?_
   subst hr;obtain ⟨m6,hn6,_⟩:=I6.loc;have I7:Inv X pins σ H5 s6:=su I3 f3 (Nat.le_refl _) I6 (Heap.SameBut.refl _ s6.heap);have fC:FpOk X pins H5 s3.heap.objs.size:=I3.fpOk (Nat.le_refl _) I6.free;obtain ⟨c0,c1,c2,c3,c4,c5⟩:=fC;refine wpAny_assign_Name (pj I7 hN hi0 hx (v:=.ref s2.heap.objs.size) rfl (fun s8 I8 ⟨a,sb,ha⟩=>?_) hf);have na:a≠s3.heap.objs.size:=by
    rcases ha with rfl | ha
    ·exact c1.symm
    ·exact c4 x a ha
   refine ⟨m6,hn6.sameBut sb na.symm,fun h' sb'=>⟨_,H5,?_,qn⟩⟩;exact I8.turned (t':=s8.toks) (fun b o nb e=>(sb'.2 b nb).trans e) c0 c1 c3 c4 c5
  ·refine thn (T.item (cxC X scope cl N' s3.heap.objs.size s3 H3 fp) rfl rfl rfl hcalm ii (X.pn++pins) s5 (compσ nt fi σ) H5 (fun _ _=>False) I5 (stat fr5) st5 go) fun r s6 ⟨u,hr,h6⟩=>?_
   subst hr;refine thn h6 fun _ s7 ⟨y,H7,I7,r7,y7,st7,fr7⟩=>?_
   have I7':=I7.pinned (stat fr7) (T.obj _ _ st7);refine thn (hg _ _ _ _ _ _ s7 (compσ nt fi σ) H7 y u _ I7' r7 (gk _ _ _ _ (step y H7 y7))) fun _ s8 ⟨σ8,H8,I8,q8,l8,d8⟩=>?_
   refine thn (hc _ _ _ _ _ _ s8 σ8 H8 _ I8 q8) fun b s9 ⟨H9,I9,q9⟩=>?_
   have again:∀ {s':Shared} {H':Hp} {m':Nat} {acc':List V},Inv (cxC X scope cl N' s3.heap.objs.size s3 H3 fp) ((X.pn++pins)++pinsAt fp s7.heap) σ8 H' s'->m' < n->W (ii+1) m' acc' H' ->
     ∃ m,m < n/\∃ i acc H',Inv (cxC X scope cl N' s3.heap.objs.size s3 H3 fp) (X.pn++pins) (compσ nt fi σ) H' s'/\tn i s'.heap/\(∀ b ∈ fp,H' b=none)/\W i m acc H':=fun {s' H' m' acc'} I' hm w'=>by
    refine ⟨m',hm,ii+1,acc',H',I'.unpinned.weak l8.symm (compσ_weak l8 d8),T.keep _ _ _ st7 fun b hb o e=>(I'.pin (b,o) (List.mem_append_right _ (List.mem_append_right _ (dz hb e)))).1,fun b hb=>?_,w'⟩;obtain ⟨o,e,d⟩:=T.obj _ _ st7 b hb;exact (I'.pin (b,o) (List.mem_append_right _ (List.mem_append_right _ (dz hb e)))).2.1
   cases b with
   | false=>
    rw [if_neg Bool.false_ne_true] at q9 ⊢;obtain ⟨m',hm,w'⟩:=q9;exact again I9 hm w'
   | true=>
    rw [if_pos rfl] at q9 ⊢;refine thn (he _ _ _ _ _ _ s9 σ8 H9 _ I9 q9) fun uv s10 ⟨v10,H10,I10,r10,hD,hlt,m',hm,w'⟩=>?_
    refine thn (li (X:=cxC X scope cl N' s3.heap.objs.size s3 H3 fp) _ s10 σ8 H10 (.ref s2.heap.objs.size) [v10] (.ref s2.heap.objs.size) [uv] (fun _ H'=>H'=upd H10 s2.heap.objs.size (.lst (acc++[v10]))) I10 rfl (.cons r10 .nil) ⟨_,acc,v10,rfl,rfl,hD,hlt,rfl⟩) fun _ s11 ⟨_,H11,I11,_,e11⟩=>?_
    subst e11;exact again I11 hm w'
 exact codeAny_compStart_list (loop _ rfl) (T.self _ 0 _ _ _ st3 (loop _ rfl))
end
structure Fly (P:Program) (w:World) (outer:List Env) (H H':Hp) (h h':Heap) (ea C:Addr):Prop where
 un:Un (frs outer) [] H H' h h'
 hok:HOk P w H' h'
 new:∀ b o,h.get? b=some o->b≠ea
 fr:H' ea=none
 fl:∃ B a0,Heap.FlyingW B outer ea (.ref C) a0 h'/\∀ b,((∃ o,h.get? b=some o)/\b ∉ frs outer)\/H' b≠none->∃ o,B.get? b=some o
noncomputable def XR (P:Program) (w:World):CXT:=fun outer H s E e s'=>
 ∃ ea C H',e=.ref ea/\0 < s'.toks/\s'.os=s.os/\AllBare s'.gens/\Fly P w outer H H' s.heap s'.heap ea C/\E (.ref C) none H'
theorem Fly.on {P:Program} {w:World} {outer:List Env} {H H':Hp} {h h' h2:Heap} {ea C:Addr} (F:Fly P w outer H H' h h' ea C) {B:Heap} {a0:Value}
  (fl1:Heap.FlyingW B outer ea (.ref C) a0 h') (inB:∀ b,((∃ o,h.get? b=some o)/\b ∉ frs outer)\/H' b≠none->∃ o,B.get? b=some o)
  (ff:∀ b ∈ frs outer,H b=none) (fl2:Heap.FlyingW B outer ea (.ref C) a0 h2) (up:h'.UpToSlots h2):Fly P w outer H H' h h2 ea C:=by
 have same:∀ b o,((∃ o,h.get? b=some o)/\b ∉ frs outer)\/H' b≠none->h'.get? b=some o->h2.get? b=some o:=fun b o hb e=>by
  obtain ⟨o',eB⟩:=inB b hb;have e1:=fl1.1 b o' eB;rw [e] at e1; cases e1;exact fl2.1 b o eB
 have sl:∀ b o,b ∈ frs outer->h'.get? b=some o->∃ sl,h2.get? b=some { o with slots:=sl }:=fun b o hb e=>by
  obtain ⟨_,o',ho',hd⟩:=fl1.2.2.1.mem hb;rw [e] at ho'; cases ho';exact up b o e hd
 refine ⟨⟨fun b o e n hf hx=>same b o (.inl ⟨⟨o,e⟩,hf⟩) (F.un.keep b o e n hf hx),fun b o e n hf hx=>?_,F.un.free,fun b o e hx=>?_,F.un.tups,F.un.frzs,F.un.tbls⟩,fun a o e=>?_,F.new,F.fr,B,a0,fl2,inB⟩
 ·obtain ⟨s1,e1⟩:=F.un.slot b o e n hf hx;obtain ⟨s2,e2⟩:=sl b _ hf e1;exact ⟨s2,e2⟩
 ·obtain ⟨o1,e1⟩:=F.un.there b o e hx;by_cases hf:b ∈ frs outer
  ·obtain ⟨s2,e2⟩:=sl b _ hf e1;exact ⟨_,e2⟩
  ·exact ⟨o1,same b o1 (.inl ⟨⟨o,e⟩,hf⟩) e1⟩
 ·refine (F.hok a o e).stay (fun b u hb q=>same b u (.inr ?_) q) (fun _ q=>q) fun _ _ q=>q
  rcases hb with rfl | hb
  ·rw [e]; simp
  ·rw [hb]; simp
section
variable {X:Cx} {pins:List (Addr × Obj)} {σ:St} {H:Hp} {s:Shared}
theorem si {env:Env} {l:List Env} {L:Addr} (hf:env.frame=some L):frs (env::l)=L::frs l:=by unfold frs; rw [List.filterMap_cons,hf]
theorem Inv.leave (I:Inv X pins σ H s) (hex:X.ex=[]) {B h2:Heap} {ea C:Addr} {a0:Value} (hB:B.StaysIn s.heap) (up:s.heap.UpToSlots h2)
  (inB:∀ b,((∃ o,X.s₀.heap.get? b=some o)/\b ∉ frs X.outer)\/H b≠none->∃ o,B.get? b=some o) (fl:Heap.FlyingW B X.outer ea (.ref C) a0 h2)
  (new:∀ b o,X.s₀.heap.get? b=some o->b≠ea) (fr:H ea=none):Fly X.prog X.w X.outer X.H₀ H X.s₀.heap h2 ea C:=by
 have nx:∀ b:Addr,b ∉ X.ex:=fun b z=>by rw [hex] at z; cases z
 have same:∀ b o,((∃ o,X.s₀.heap.get? b=some o)/\b ∉ frs X.outer)\/H b≠none->s.heap.get? b=some o->h2.get? b=some o:=fun b o hb e=>by
  obtain ⟨o',eB⟩:=inB b hb;have e1:=hB b o' eB;rw [e] at e1; cases e1;exact fl.1 b o eB
 have sl:∀ b o,b ∈ frs X.outer->s.heap.get? b=some o->∃ sl,h2.get? b=some { o with slots:=sl }:=fun b o hb e=>by
  obtain ⟨_,o',ho',hd⟩:=I.funs.mem hb;rw [e] at ho'; cases ho';exact up b o e hd
 refine ⟨⟨fun b o e n hf _=>same b o (.inl ⟨⟨o,e⟩,hf⟩) (I.base.keep b o e n hf (nx b)),fun b o e n hf _=>?_,fun b o e n _=>I.base.free b o e n (nx b),fun b o e _=>?_,I.base.tups,I.base.frzs,I.base.tbls⟩,fun a o e=>?_,new,fr,B,a0,fl,inB⟩
 ·obtain ⟨s1,e1⟩:=I.base.slot b o e n hf (nx b);obtain ⟨s2,e2⟩:=sl b _ hf e1;exact ⟨s2,e2⟩
 ·obtain ⟨o1,e1⟩:=I.base.there b o e (nx b);by_cases hf:b ∈ frs X.outer
  ·obtain ⟨s2,e2⟩:=sl b _ hf e1;exact ⟨_,e2⟩
  ·exact ⟨o1,same b o1 (.inl ⟨⟨o,e⟩,hf⟩) e1⟩
 ·refine (I.hok a o e).stay (fun b u hb q=>same b u (.inr ?_) q) (fun _ q=>q) fun _ _ q=>q
  rcases hb with rfl | hb
  ·rw [e]; simp
  ·rw [hb]; simp
end
def Raises (X:Cx) (E:XK):Prop:=∀ (pins:List (Addr × Obj)) (σ:St) (H:Hp) (s:Shared) (h':Heap) (e C:Addr) (vs:List Value),
 Inv X pins σ H s->Heap.MadeExcOf s.heap h' e (.ref C) vs->E (.ref C) none H->X.xe (.ref e) { s with heap:=h' }
section
variable {P:Program} {w:World} {K:Frag} {mg:Str->Option Value} {base:Heap} {N:List Str} {qual:Str} {scope:Scope} {f:Addr} {cd:Value} {A:Around} {outer:List Env} {s₀:Shared} {H₀:Hp} {E:XK}
theorem jp:Raises (cxOf (XR P w) P w K mg base N qual scope f cd A outer s₀ H₀ E) E:=by
 intro pins σ H s h' e C vs I M q
 let X:Cx:=cxOf (XR P w) P w K mg base N qual scope f cd A outer s₀ H₀ E
 have I:Inv X pins σ H s:=I;have hf:X.env.frame=some X.env.locals:=rfl;have hst:X.stack=X.env::X.outer:=rfl;show wpAny (model P w) X.A (leaving X.env (.ref e)) (fun _ s''=>XR P w outer H₀ s₀ E (.ref e) s'') (fun e' s''=>XR P w outer H₀ s₀ E e' s'') { s with heap:=h' };have hin:∀ env ∈ X.stack,∀ a,env.frame=some a->a ∈ frs X.stack:=fun env he a ha=>List.mem_filterMap.mpr ⟨env,he,ha⟩
 refine wpAny_leaves_madeW (s:={ s with heap:=h' }) (base:=PySem.W.hideAll s.heap (frs X.stack)) (h:=s.heap) (env:=X.env) (outer:=X.outer) (L:=X.env.locals) I.ok.frames hf (fun b o z=>PySem.W.of_hideAll _ z) (PySem.W.funFrames_hide I.stack hin) M fun h2 t fl _ _ up=>?_
 have up1:s.heap.UpToSlots h2:=(Heap.UpToSlots.of_keeps M.keeps).trans up;have ne:∀ b o,s.heap.get? b=some o->b≠e:=fun b o q z=>by rw [z,M.new] at q; cases q
 refine ⟨e,C,H,rfl,I.tk,I.os,I.bare,I.leave rfl (fun b o z=>PySem.W.of_hideAll _ z) up1 (fun b hb=>?_) fl (fun b o z=>?_) ?_,q⟩
 ·rcases hb with ⟨⟨o,eo⟩,nf⟩ | hb
  ·obtain ⟨o1,e1⟩:=I.base.there b o eo (by intro z; cases z);refine ⟨o1,PySem.W.hideAll_get _ e1 ?_⟩;rw [hst,si hf];intro z;rcases List.mem_cons.mp z with z | z
   ·exact absurd (Nat.lt_of_lt_of_le (Heap.lt_size eo) I.ok.above) (by rw [z]; exact Nat.lt_irrefl _)
   ·exact nf z
  ·cases eb:H b with
   | none=>exact absurd eb hb
   | some u=>
    have lt:=I.hok.lt eb;cases eo:s.heap.get? b with
    | none=>
     exfalso;have:=(I.hok b u eb);cases u with
     | lst xs=>obtain ⟨_,_,_,_,e⟩:=this; rw [eo] at e; cases e
     | tup xs=>obtain ⟨_,_,_,_,e,_⟩:=this; rw [eo] at e; cases e
     | dK kvs=>obtain ⟨_,_,_,_,o,_,_,e,_⟩:=this; rw [eo] at e; cases e
     | dT kvs=>obtain ⟨_,_,_,_,o,_,_,e,_⟩:=this; rw [eo] at e; cases e
     | set S n=>obtain ⟨o,_,_,_,e,_⟩:=this; rw [eo] at e; cases e
     | ins C dx fs=>obtain ⟨_,_,_,e,_⟩:=this; rw [eo] at e; cases e
     | own y=>obtain ⟨_,e⟩:=this; rw [eo] at e; cases e
     | xd fs=>obtain ⟨_,⟨_,_,_,e,_⟩,_⟩:=this; rw [eo] at e; cases e
     | rng lo hi=>obtain ⟨_,_,_,e⟩:=this; rw [eo] at e; cases e
     | frz ob u=>obtain ⟨e,_⟩:=this; rw [eo] at e; cases e
     | tbl ps=>have e:s.heap.get? b=some _:=this; rw [eo] at e; cases e
     | met f y=>have e:s.heap.get? b=some _:=this; rw [eo] at e; cases e
     | ext φ=>obtain ⟨_,⟨_,e⟩,_⟩:=this; rw [eo] at e; cases e
    | some o=>
     refine ⟨o,PySem.W.hideAll_get _ eo fun z=>?_⟩;exact hb (I.stkFree b z)
 ·obtain ⟨o1,e1⟩:=I.base.there b o z (by intro z; cases z);exact ne b o1 e1
 ·cases eb:H e with
  | none=>rfl
  | some u=>
   exfalso;have:=(I.hok e u eb);have eo:=M.new;cases u with
   | lst xs=>obtain ⟨_,_,_,_,e⟩:=this; rw [eo] at e; cases e
   | tup xs=>obtain ⟨_,_,_,_,e,_⟩:=this; rw [eo] at e; cases e
   | dK kvs=>obtain ⟨_,_,_,_,o,_,_,e,_⟩:=this; rw [eo] at e; cases e
   | dT kvs=>obtain ⟨_,_,_,_,o,_,_,e,_⟩:=this; rw [eo] at e; cases e
   | set S n=>obtain ⟨o,_,_,_,e,_⟩:=this; rw [eo] at e; cases e
   | ins C dx fs=>obtain ⟨_,_,_,e,_⟩:=this; rw [eo] at e; cases e
   | own y=>obtain ⟨_,e⟩:=this; rw [eo] at e; cases e
   | xd fs=>obtain ⟨_,⟨_,_,_,e,_⟩,_⟩:=this; rw [eo] at e; cases e
   | rng lo hi=>obtain ⟨_,_,_,e⟩:=this; rw [eo] at e; cases e
   | frz ob u=>obtain ⟨e,_⟩:=this; rw [eo] at e; cases e
   | tbl ps=>have e:s.heap.get? _=some _:=this; rw [eo] at e; cases e
   | met f y=>have e:s.heap.get? _=some _:=this; rw [eo] at e; cases e
   | ext φ=>obtain ⟨_,⟨_,e⟩,_⟩:=this; rw [eo] at e; cases e
theorem cW:Passes (XR P w) (cxOf (XR P w) P w K mg base N qual scope f cd A outer s₀ H₀ E) E:=by
 intro pins σ H s e s' I h
 let X:Cx:=cxOf (XR P w) P w K mg base N qual scope f cd A outer s₀ H₀ E
 have I:Inv X pins σ H s:=I;obtain ⟨ea,C,H',rfl,tk,os,bare,F,q⟩:=h;have hf:X.env.frame=some X.env.locals:=rfl;have hst:X.stack=X.env::X.outer:=rfl;show wpAny (model P w) X.A (leaving X.env (.ref ea)) (fun _ s''=>XR P w outer H₀ s₀ E (.ref ea) s'') (fun e' s''=>XR P w outer H₀ s₀ E e' s'') s';obtain ⟨B,a0,fl,inB⟩:=F.fl;have I2:Inv X pins σ H' s':=I.call' os F.un F.hok bare (fun b z=>nomatch z) tk;refine wpAny_leaves_onW (env:=X.env) (outer:=X.outer) (L:=X.env.locals) I.ok.frames hf fl fun h2 fl2 up=>?_
 refine ⟨ea,C,H',rfl,tk,os.trans I.os,bare,I2.leave rfl fl.1 up (fun b hb=>inB b ?_) fl2 (fun b o z=>?_) F.fr,q⟩
 ·rcases hb with ⟨⟨o,eo⟩,nf⟩ | hb
  ·obtain ⟨o1,e1⟩:=I.base.there b o eo (by intro z; cases z);refine .inl ⟨⟨o1,e1⟩,?_⟩;show b ∉ frs X.stack;rw [hst,si hf];intro z;rcases List.mem_cons.mp z with z | z
   ·exact absurd (Nat.lt_of_lt_of_le (Heap.lt_size eo) I.ok.above) (by rw [z]; exact Nat.lt_irrefl _)
   ·exact nf z
  ·exact .inr hb
 ·obtain ⟨o1,e1⟩:=I.base.there b o z (by intro z; cases z);exact F.new b o1 e1
end
abbrev bmV:List Value:=[.type "ValueError",.type "Exception",.type "BaseException",.type "object"]
structure XCl (K:Frag) (C:Addr):Prop where
 ex:PySem.W.excIn K C bmV "ValueError.__new__" = true
 ty:PySem.W.typeIn K (.ref C)=some (.type "type")
 mb:PySem.W.mroIn K C (.type "BaseException")=some true
 ga:findIn K (.ref C) "__getattribute__" = some (some (.builtin "BaseException.__getattribute__"))
 gh:findIn K (.ref C) "__getattr__" = some none
 ca:findIn K (.ref C) "__class__" = some (some (.builtin "object.__class__"))
 gt:PySem.W.specialIn K (.builtin "object.__class__") "__get__" = some (some (.builtin "getset_descriptor.__get__"))
 tk:PySem.W.takesIn K (.builtin "object.__class__")=some true
 mo:PySem.W.mroIn K C (.type "object")=some true
theorem XCl.own {K:Frag} {h:Heap} {C:Addr} (c:XCl K C) (X:K.In h):OwnCls "x" C bmV "ValueError.__new__" (fun _=>some (.ref C)) h:=by
 have q:=c.ex;refine ⟨rfl,?_⟩;revert q;unfold PySem.W.excIn;rcases hk:K.lookup C with _ | ⟨oc,odd,oda,osl⟩
 ·intro q; cases q
 ·intro q;split at q
  case h_2=>cases q
  case h_1 dd cdt sl eo=>
   cases eo;split at q
   case h_2=>cases q
   case h_1 C' bm a0 a1 a2 a3 n a5 em es=>
    simp only [Bool.and_eq_true,beq_iff_eq,Bool.not_eq_true'] at q;obtain ⟨⟨⟨⟨⟨e1,e2⟩,e3⟩,e4⟩,e5⟩,e6⟩:=q;subst e1 e2;obtain ⟨f1,f2,f3,f4,f5,f6,f7,f8,f9,f10,f11⟩:=cdt;dsimp only at em e3 e5 e6;subst em e3;have el:osl=#[a0,a1,a2,a3,some (.builtin "ValueError.__new__"),a5]:=by
     rcases osl with ⟨l⟩
     simp only at es;rw [es]
    subst el;exact ⟨bm,f4,f1,f5,f2,f6,f7,f8,f9,f10,odd,a0,a1,a2,a3,a5,_,X _ _ hk,.of_isNs (PySem.W.isNs_of_in X e5),PySem.W.nsMap_none_of_in X e5 e6,PySem.W.tail_of_in X e4⟩
section
variable {X:Cx} {x:Str} {C:Addr} {np cpos pos:Pos} {e:Expr} {es:List Expr} {t:TA} {E:XK}
noncomputable def tRaise (C:Addr) (E:XK) (t:TA):TS:=fun _ σ H=>t σ H fun vs H1=>vs.length<=sizeLine/\E (.ref C) none H1
theorem kq (hc:X.calm=true) (hx:Raises X E) (hg:Gl X x) (hm:X.mg x=some (.ref C)) (c:XCl X.K C) (ha:PA X (e::es) t) (hdb:(x == ("__debug__" : Str))=false:=by decide)
  (he:starEach (e::es) X.env=(false,eval e X.env)::starEach es X.env:=by rfl) (hpl:(backTo cpos (starEach es X.env)).any (·.1)=false:=by rfl):
  PS X (.Raise (some (.Call (.Name x np) (e::es) [] cpos)) none pos) (tRaise C E t):=by
 intro pins s σ H D I h;obtain ⟨tl,N,nm,q,bs,hdct,sn,sub,ab,col,dd,k0,k1,k2,k3,k5,mN,hC,hN,hni,T⟩:=(c.own I.mod.kin).obj;refine wpAny_Raise_call_subU (k5:=k5) (k3:=k3) (k2:=k2) (k1:=k1) (k0:=k0) (dd:=dd) (col:=col) (ab:=ab) (sub:=sub) (sn:=sn) (hdct:=hdct) (bs:=bs) (q:=q) (C:=C) (nm:=nm) (N:=N) (bm:=tl) (mN:=mN) PySem.F.excBase_ValueError (by decide) PySem.F.excBase_ValueError (T.hasType PySem.F.excBase_ValueError.hasBase) (I.ok.hd hc) ?_ hni (jq I hg hm ⟨rfl,?_⟩ hdb)
 ·rw [he];show (false || (backTo cpos (starEach es X.env)).any (·.1))=false;rw [hpl]; rfl
 ·have hp:=ha cpos pins s σ H _ I h;rw [he] at hp ⊢;refine Calls.evalArgs_plain (wpAny_mono hp (fun us s2 hq=>?_) fun _ _ y=>y);obtain ⟨vs,H1,I1,r,z,q1⟩:=hq;exact ⟨rfl,by rw [<- r.length]; exact z,I1.bk _ _ hC,hN.keeps I1.bk,T.keeps I1.bk,fun h' ea M=>hx pins σ H1 s2 h' ea C us I1 M q1⟩
end
section
variable {K:Frag} {M:Model} {h:Heap} {C D e:Addr}
theorem XCl.isType (d:XCl K D) (X:K.In h):PySem.W.Looks M h (isType (.ref D)) true:=by
 obtain ⟨tl,N,nm,q,bs,hdct,sn,sub,ab,col,dd,k0,k1,k2,k3,k5,mN,hC,hN,hni,T⟩:=(d.own X).obj;intro A Q E s k z;unfold PySem.isType loadHead;exact wpAny_bind (wpAny_loadPart (k D _ hC) (wpAny_pure z))
theorem la (X:K.In h) (d:XCl K D) (m:PySem.W.mroIn K C (.ref D)=some true) (he:∃ o,h.get? e=some o/\o.cls=.ref C):PySem.W.Looks M h (excMatches (.ref e) (.ref D)) true:=by
 obtain ⟨oe,e1,e2⟩:=he;have T:PySem.W.Looks M h (typeOf (.ref e)) (.ref C):=e2 ▸ (PySem.W.Looks.ld e1).andThen .now;have TD:PySem.W.Looks M h (typeOf (.ref D)) (.type "type"):=PySem.W.looks_typeIn X d.ty;have S:=PySem.W.looks_mroIn (M:=M) X m;have SB:=PySem.W.looks_mroIn (M:=M) X d.mb;have NT:PySem.W.Looks M h (isInstance (.ref D) (.type "tuple")) false:=TD.andThen (.of_pure tc_notTuple);have IE:PySem.W.Looks M h (isExcClass (.ref D)) true:=by
  intro A Q E s k z;unfold isExcClass;refine wpAny_bind (d.isType X A _ E s k ?_);exact SB A Q E s k z
 intro A Q E s k q;unfold excMatches;refine wpAny_bind (NT A _ E s k ?_);simp only [Bool.false_eq_true,if_false];refine wpAny_bind (wpAny_pure ?_);simp only [List.forIn_cons,List.forIn_nil];refine wpAny_bind (wpAny_bind (wpAny_bind (IE A _ E s k ?_)));simp only [Bool.not_true,Bool.false_eq_true,if_false];refine wpAny_pure (wpAny_pure (wpAny_bind (T A _ E s k ?_)));refine wpAny_bind (wpAny_bind (wpAny_bind (S A _ E s k ?_)));simp only [if_true];exact wpAny_pure (wpAny_pure (wpAny_pure q))
end
noncomputable def Cx.tries (X:Cx) (W:St->XK) (p:List (Addr × Obj)):Cx:=
 { X with pn:=X.pn++p,xe:=fun e s'=>∃ σ H s,Inv X p σ H s/\XR X.prog X.w X.stack H s (W σ) e s' }
noncomputable def Cx.hand (X:Cx) (ea:Addr):Cx:={ X with A:=X.A.mark (some (.ref ea)),calm:=false,xe:=fun _ _=>False }
section
variable {X:Cx} {W:St->XK} {p pins:List (Addr × Obj)} {σ:St} {H:Hp} {s:Shared}
theorem Cx.Ok.tries (k:X.Ok):(X.tries W p).Ok:=
 ⟨k.mod,k.kind,k.glob,k.blt,k.above,k.inj,k.has,k.cab,k.hd,k.frames,k.stk,k.exf,k.bs,k.bsz,k.noex,k.exfs,k.funs,k.frf⟩
theorem Cx.Ok.untries (k:(X.tries W p).Ok):X.Ok:=
 ⟨k.mod,k.kind,k.glob,k.blt,k.above,k.inj,k.has,k.cab,k.hd,k.frames,k.stk,k.exf,k.bs,k.bsz,k.noex,k.exfs,k.funs,k.frf⟩
theorem Inv.tries (I:Inv X p σ H s):Inv (X.tries W p) [] σ H s:=
 ⟨I.ok.tries,I.os,I.bare,I.base,I.loc,I.cell,I.free,I.freeC,fun q hq=>I.pin q (by rw [List.append_nil] at hq; exact hq),I.hok,I.len,I.tk⟩
theorem Inv.untries (I:Inv (X.tries W p) pins σ H s):Inv X p σ H s:=
 ⟨I.ok.untries,I.os,I.bare,I.base,I.loc,I.cell,I.free,I.freeC,fun q hq=>I.pin q (List.mem_append_left _ hq),I.hok,I.len,I.tk⟩
theorem Cx.Ok.hand (k:X.Ok) (ea:Addr):(X.hand ea).Ok:=
 ⟨k.mod,k.kind,k.glob,k.blt,k.above,k.inj,k.has,k.cab,fun z=>(nomatch z),k.frames,k.stk,k.exf,k.bs,k.bsz,k.noex,k.exfs,k.funs,k.frf⟩
theorem Inv.hand (I:Inv X p σ H s) (ea:Addr):Inv (X.hand ea) p σ H s:=
 ⟨I.ok.hand ea,I.os,I.bare,I.base,I.loc,I.cell,I.free,I.freeC,I.pin,I.hok,I.len,I.tk⟩
theorem Inv.unhand {ea:Addr} (k:X.Ok) (I:Inv (X.hand ea) p σ H s):Inv X p σ H s:=
 ⟨k,I.os,I.bare,I.base,I.loc,I.cell,I.free,I.freeC,I.pin,I.hok,I.len,I.tk⟩
end
def PassesT (CX:CXT) (X:Cx) (W:St->XK):Prop:=∀ (pins:List (Addr × Obj)) (σ:St) (H:Hp) (s:Shared) (e:Value) (s':Shared),Inv X pins σ H s->CX X.stack H s (W σ) e s'->X.xe e s'
theorem passesT {X:Cx} {W:St->XK} {p:List (Addr × Obj)}:PassesT (XR X.prog X.w) (X.tries W p) W:=fun _ σ H s _ _ I h=>⟨σ,H,s,I.untries,h⟩
section
variable {X:Cx} {CX:CXT} {k:Nat} {f:Addr} {fd:FuncData} {ps:List Str} {sp:Sp} {dvs:List V} {ds:List Value} {W:St->XK} {x:Str} {p pos:Pos} {e:Expr} {es:List Expr} {t:TA}
noncomputable def tCallT (sp:Sp) (dvs:List V) (W:St->XK) (t:TA):TE:=fun σ H Q=>t σ H fun vs H1=>sp (vs++dvs) H1 Q (W σ)
theorem yK {pins:List (Addr × Obj)} {σ:St} {H:Hp} {s:Shared} {Q:VK} {us:List Value} {vs:List V} (F:FnOk X.prog X.w X.K X.mg X.base CX k f fd ps sp) (hr:Room k X.A) (hb:Binds X.K fd ps ds) (hd:Vals dvs ds) (hx:PassesT CX X W)
  (I:Inv X pins σ H s) (r:Vals vs us) (h:sp (vs++dvs) H Q (W σ)):wpAny (model X.prog X.w) X.A (call (.ref f) us) (EP X pins σ Q) X.xe s:=by
 have r2:Vals (vs++dvs) (us++ds):=r.append hd;have hl:ps.length=(us++ds).length:=(F.len _ _ _ _ h).symm.trans r2.length;have R:=F.run X.A X.stack s H ⟨us,[]⟩ (us++ds) (vs++dvs) Q (W σ) hr I.env0 (hb s us I.kIn hl.symm) r2 h;refine wpAny_call (codeAny_mono R fun r s' hq=>?_);rcases r with er | fl
 ·exact hx pins σ H s er s' I hq
 ·cases fl with
  | ret u=>exact I.after hq
  | _=>exact hq.elim
theorem xD (F:FnOk X.prog X.w X.K X.mg X.base CX k f fd ps sp) (hr:Room k X.A) (hg:Gl X x) (hm:X.mg x=some (.ref f)) (hk:keepIn X.K (.ref f)=true) (hb:Binds X.K fd ps ds) (hd:Vals dvs ds) (hx:PassesT CX X W)
  (ha:PA X (e::es) t) (hdb:(x == ("__debug__" : Str))=false:=by decide) (he:starEach (e::es) X.env=(false,eval e X.env)::starEach es X.env:=by rfl) (hpl:(backTo pos (starEach es X.env)).any (·.1)=false:=by rfl):
  PE X (.Call (.Name x p) (e::es) [] pos) (tCallT sp dvs W t):=fun pins s σ H Q I h=>
 wpAny_Call_Name_kw (jq I hg hm (PySem.W.callWith_K (h₀:=X.base) I.ok.mod.kin hk (thn (ha pos pins s σ H _ I h) fun us s1 ⟨vs,H1,I1,r,q⟩=>⟨I1.kIn,yK F hr hb hd hx I1 r q⟩) he hpl) hdb)
end
noncomputable def XO (C ea:Addr):HO:=.ext fun h=>∃ o,h.get? ea=some o/\o.cls=.ref C
theorem XO.ok {P:Program} {w:World} {H:Hp} {h:Heap} {C ea:Addr} (e:∃ o,h.get? ea=some o/\o.cls=.ref C):ObjOk P w H h ea (XO C ea):=
 ⟨e,let ⟨o,e1,_⟩:=e; ⟨o,e1⟩,fun _ _ ⟨o,e1,e2⟩ k=>⟨o,k o e1,e2⟩⟩
structure Caught (K:Frag) (C D:Addr):Prop where
 sub:PySem.W.mroIn K C (.ref D)=some true
noncomputable def tTryAs (K:Frag) (D:Addr) (i:Nat) (tb:(St->XK)->TS) (th:Addr->TS):TS:=fun R σ H=>
 tb (fun σ' cv _ H'=>∃ C,cv=.ref C/\Caught K C D/\∀ ea,H' ea=none ->
  th ea { nx:=fun σ2 H2=>R.nx (σ2.set i none) H2,rt:=R.rt,bk:=fun σ2 H2=>R.bk (σ2.set i none) H2,ct:=fun σ2 H2=>R.ct (σ2.set i none) H2 } (σ'.set i (some (.ref ea))) (upd H' ea (XO C ea))) R σ H
theorem Inv.unname {M:Model} {A:Around} {E:Value->Shared->Prop} {X:Cx} {pins:List (Addr × Obj)} {σ:St} {H:Hp} {s:Shared} {i:Nat} {n:Str} {pos:Pos} {Q:Unit->Shared->Prop} (I:Inv X pins σ H s) (hN:X.N.Nodup) (hi:X.N[i]? = some n) (hl:X.env.kindOf n=some .local)
  (h:∀ s',Inv X pins (σ.set i none) H s'->Q () s'):wpAny M A (do bindName X.env n .none; unbindBehindTheSuite X.env n pos) Q E s:=by
 obtain ⟨m,hn,hv⟩:=id I.loc;have hiσ:i < σ.length:=by rw [I.len]; exact (List.getElem?_eq_some_iff.mp hi).1
 refine wpAny_nameGoes_keeps hl hn (by rw [I.ok.kind]; rfl) fun h' v hn' hs=>h _ ?_
 obtain ⟨oL,_,_,hoL,_⟩:=id hn;have out:∀ b,b < X.s₀.heap.objs.size->b≠X.env.locals:=fun b z q=>absurd (Nat.lt_of_lt_of_le z I.ok.above) (by rw [q]; exact Nat.lt_irrefl _)
 refine ⟨I.ok,I.os,I.bare,⟨fun b o e z hb hx=>(hs.2 b (out b (Heap.lt_size e))).trans (I.base.keep b o e z hb hx),fun b o e z hb hx=>?_,I.base.free,fun b o e hx=>?_,I.base.tups,I.base.frzs,I.base.tbls⟩,⟨_,hn',fun j y v' e1 e2 e3=>?_⟩,fun y c e=>?_,I.free,I.freeC,fun q hq=>?_,fun b ob e=>?_,by simpa using I.len,Nat.succ_pos _⟩
 ·obtain ⟨sl,e1⟩:=I.base.slot b o e z hb hx;exact ⟨sl,(hs.2 b (out b (Heap.lt_size e))).trans e1⟩
 ·obtain ⟨o',e1⟩:=I.base.there b o e hx;exact ⟨o',(hs.2 b (out b (Heap.lt_size e))).trans e1⟩
 ·have hj:j≠i:=fun z=>by subst z; rw [List.getElem?_set_self hiσ] at e2; cases e2
  rw [List.getElem?_set_ne (Ne.symm hj)] at e2;obtain ⟨u',r',q⟩:=hv j y v' e1 e2 e3;refine ⟨u',r',?_⟩;rcases q with ⟨k,e⟩ | ⟨k,c,e,z⟩
  ·refine .inl ⟨k,?_⟩;have:y≠n:=fun e=>hj (mz hN e1 (e ▸ hi))
   simp [this,e]
  ·exact .inr ⟨k,c,e,z.sameBut hs (I.cne y c e)⟩
 ·obtain ⟨w',z⟩:=I.cell y c e;exact ⟨w',z.sameBut hs (I.cne y c e)⟩
 ·obtain ⟨e,z,ne,nf,d⟩:=I.pin q hq;exact ⟨(hs.2 q.1 ne).trans e,z,ne,nf,d⟩
 ·refine (I.hok b ob e).stay (fun c w' hc q=>(hs.2 c ?_).trans q) (fun _ q=>q) fun _ _ q=>q
  rintro rfl;rcases hc with rfl | hc
  ·rw [I.free] at e; cases e
  ·rw [I.free] at hc; cases hc
theorem xN {X:Cx} {body suite:List Stmt} {b₀:Stmt} {x n:Str} {np hpos pos:Pos} {D:Addr} {i:Nat} {tb:(St->XK)->TS} {th:Addr->TS} (hb:∀ W p,PSs (X.tries W p) body (tb W)) (hh:∀ ea,PSs (X.hand ea) (b₀ :: suite) (th ea))
  (hst:X.stack=X.env::X.outer) (hfr:X.env.frame=some X.env.locals) (hg:Gl X x) (hm:X.mg x=some (.ref D)) (d:XCl X.K D) (hN:X.N.Nodup) (hi:X.N[i]? = some n) (hl:X.env.kindOf n=some .local) (hdb:(x == ("__debug__" : Str))=false:=by decide):
  PS X (.Try body [.ExceptHandler (some (.Name x np)) (some n) (b₀ :: suite) hpos] [] [] pos) (tTryAs X.K D i tb th):=by
 intro pins s σ H R I h;refine wpAny_Try_except (wpAny_mono (hb _ pins [] s σ H R I.tries h) (fun f s1 q=>?_) fun e s1 q=>?_)
 ·have q:SP X pins R f s1:=by
   cases f with
   | next=>obtain ⟨σ',H',I',z⟩:=q; exact ⟨σ',H',I'.untries,z⟩
   | brk=>obtain ⟨σ',H',I',z⟩:=q; exact ⟨σ',H',I'.untries,z⟩
   | cont=>obtain ⟨σ',H',I',z⟩:=q; exact ⟨σ',H',I'.untries,z⟩
   | ret u=>obtain ⟨v,σ',H',I',r,z⟩:=q; exact ⟨v,σ',H',I'.untries,r,z⟩
  cases f with
  | next=>exact wpAny_execs_nil q
  | _=>exact q
 ·obtain ⟨σ1,H1,s0,I1,ea,C,H',rfl,tk,os,bare,F,C',eC,cau,k⟩:=q;cases eC;obtain ⟨B,a0,fl,inB⟩:=F.fl;have ff:∀ b ∈ frs X.stack,H1 b=none:=I1.stkFree;have hfs:X.A.frames=some (X.env::X.outer):=by rw [<- hst]; exact I1.ok.frames
  refine wpAny_looks_onW (env:=X.env) (outer:=X.outer) (L:=X.env.locals) hfs hfr (by rw [<- hst]; exact fl) fun h4 held4 up4=>?_
  refine wpAny_landsW held4 fun h5 fl5 up5=>?_
  have F5:Fly X.prog X.w X.stack H1 H' s0.heap h5 ea C:=F.on fl inB ff (by rw [hst]; exact fl5) (up4.trans up5);have I5:Inv X pins σ1 H' { s1 with heap:=h5 }:=I1.call' (s':={ s1 with heap:=h5 }) os F5.un F5.hok bare (fun b z=>nomatch z) tk;refine wpAny_handleBy_cons (codeAny_handlers_test ?_) (by intro q; cases q);refine jq (I5.hand ea) hg hm ?_ hdb;refine la I5.kIn d cau.sub fl5.there _ _ _ _ (fun _ _ z=>z) ?_;refine codeAny_handlers_suite_as ?_;refine lands_againW fl5 fun h6 fl6 up6=>?_
  have F6:Fly X.prog X.w X.stack H1 H' s0.heap h6 ea C:=F5.on (by rw [hst]; exact fl5) inB ff (by rw [hst]; exact fl6) up6;have ne6:∀ b,H' b≠none->b≠ea:=fun b z q=>by rw [q,F6.fr] at z; exact z rfl
  have U6:Un (frs X.stack) [] H1 (upd H' ea (XO C ea)) s0.heap h6:=by
   refine ⟨F6.un.keep,F6.un.slot,fun b o e z hx=>?_,F6.un.there,fun b xs e=>?_,fun b o u e=>?_,fun b ps e=>?_⟩
   ·rw [av (F6.new b o e)]; exact F6.un.free b o e z hx
   ·have q:=F6.un.tups b xs e;rw [av (ne6 b (by rw [q]; simp))]; exact q
   ·have q:=F6.un.frzs b o u e;rw [av (ne6 b (by rw [q]; simp))]; exact q
   ·obtain ⟨more,q⟩:=F6.un.tbls b ps e;exact ⟨more,by rw [av (ne6 b (by rw [q]; simp))]; exact q⟩
  have O6:HOk X.prog X.w (upd H' ea (XO C ea)) h6:=fun b o e=>by
   by_cases hbe:b=ea
   ·subst hbe;rw [upd_same] at e; cases e;exact XO.ok fl6.there
   ·rw [av hbe] at e;refine (F6.hok b o e).stay (fun _ _ _ q=>q) (fun c q=>?_) fun c xs q=>?_
    ·rw [av (ne6 c (by rw [q]; simp))]; exact q
    ·rw [av (ne6 c (by rw [q]; simp))]; exact q
  have I6:Inv X pins σ1 (upd H' ea (XO C ea)) { s1 with heap:=h6 }:=I1.call' (s':={ s1 with heap:=h6 }) os U6 O6 bare (fun b z=>nomatch z) tk;refine nk (X:=X.hand ea) (v:=.ref ea) (I6.hand ea) hN hi (.inl hl) rfl (fun s7 I7=>?_) (.inr hl);refine wpAny_mono (hh ea pins s7 _ _ _ I7 (k ea F6.fr)) (fun f s8 q=>?_) fun _ _ z=>z.elim
  cases f with
  | next=>obtain ⟨σ',H',I',z⟩:=q; exact (I'.unhand I.ok).unname hN hi hl fun s9 I9=>⟨_,_,I9,z⟩
  | brk=>obtain ⟨σ',H',I',z⟩:=q; exact (I'.unhand I.ok).unname hN hi hl fun s9 I9=>⟨_,_,I9,z⟩
  | cont=>obtain ⟨σ',H',I',z⟩:=q; exact (I'.unhand I.ok).unname hN hi hl fun s9 I9=>⟨_,_,I9,z⟩
  | ret u=>obtain ⟨v,σ',H',I',r,z⟩:=q; exact (I'.unhand I.ok).unname hN hi hl fun s9 I9=>⟨v,_,_,I9,r,z⟩
end L2
namespace L2
open PySem PySem.Spec PySem.Calls PyProof.Rows PySem.W Builtin Builtin.ObjectAttr Builtin.Getset_descriptor
section
variable {prog:Program} {w:World} {A:Around} {E:Value->Shared->Prop} {K:Frag} {x C:Addr} {o:Obj} {h:Heap} {g:Array GenState} {d:Drawn} {t:Nat} {os:OsState}
theorem uh {R:Result->Shared->Prop} (X:K.In h) (c:XCl K C) (hx:h.get? x=some o) (hc:o.cls=.ref C) (hq:R (.ok (.ret (.ref C))) ⟨h,g,d,t,os⟩):
  codeAny (model prog w) A (.call (.builtin "getset_descriptor.__get__") ⟨[.builtin "object.__class__",.ref x,.ref C],[]⟩) R ⟨h,g,d,t,os⟩:=by
 have L0:Looks (model prog w) h (typeOf (.ref x)) (.ref C):=hc ▸ (Looks.ld hx).andThen .now;have L1:=looks_mroIn (M:=model prog w) X c.mo;refine codeAny_call_builtin KF.slot_gs.plain KF.entry_gs (KF.slot_gs.check _ _ _ _ _ _ _ _ KF.type_class (KF.args_gs _ _ _) ?_);unfold Builtin.«getset_descriptor.__get__»;unfold descrGet;rw [dga_obj];apply wpAny_bind;apply wpAny_pure;unfold descrGetter descrCheckInstance;unfold descrNameAndClass;unfold isInstance;simp only [KF.owner_class]
 repeat lk
 refine ⟨Code.quiet_builtin _ (by decide +kernel),?_⟩;apply codeAny_builtin KF.entry_class;unfold Builtin.«object.__class__»;unfold shownTypeOf
 repeat lk
 exact hq
theorem rm (X:K.In h) (c:XCl K C):Looks (model prog w) h (find (.ref x) (.ref C) "__class__") (Found.bind (.builtin "getset_descriptor.__get__") (.builtin "object.__class__")):=by
 have L1:=looks_findIn (M:=model prog w) X c.ca;have L2:Looks (model prog w) h (getOf (some (.builtin "object.__class__"))) (some (.builtin "getset_descriptor.__get__")):=looks_specialIn X c.gt;have L3:Looks (model prog w) h (dataDescriptor? (some (.builtin "object.__class__")) (some (.builtin "getset_descriptor.__get__"))) (some (.builtin "getset_descriptor.__get__",.builtin "object.__class__")):=(looks_takesIn (M:=model prog w) X c.tk).andThen .now;exact L1.andThen (L2.andThen (L3.andThen (Looks.tag .now)))
theorem qK {tk:Tok} {Q:Fin->Shared->Prop} (X:K.In h) (c:XCl K C) (hx:h.get? x=some o) (hc:o.cls=.ref C) (hq:Q (.done (.ret (.ref C))) ⟨h,g,d,t,os⟩):
  wpAny (model prog w) A (Builtin.«object.__getattribute__» ⟨[.ref x,.str "__class__" tk],[]⟩) Q E ⟨h,g,d,t,os⟩:=by
 have L0:Looks (model prog w) h (typeOf (.ref x)) (.ref C):=hc ▸ (Looks.ld hx).andThen .now;have L1:=rm (prog:=prog) (w:=w) (x:=x) X c;unfold Builtin.«object.__getattribute__»;apply wpAny_bind;apply wpAny_pure;dsimp only;apply wpAny_bind;apply wpAny_pure;refine wpAny_bind (L0.at (wpAny_bind (L1.at ?_)));dsimp only;show wpAny _ _ (holding [Value.builtin "object.__class__"] (call (Value.builtin "getset_descriptor.__get__") [Value.builtin "object.__class__",.ref x,.ref C])>>=ret) _ _ _;exact wpAny_bind (wpAny_holding (wpAny_call (uh X c hx hc (wpAny_pure hq))))
theorem ve {M:Model} {nv:Value} {Q:Unit->Shared->Prop} (X:K.In h) (c:XCl K C) (hx:h.get? x=some o) (hc:o.cls=.ref C) (hq:Q () ⟨h,g,d,t,os⟩):
  wpAny M A (checkBuiltinCall "BaseException.__getattribute__" ⟨[.ref x,nv],[]⟩) Q E ⟨h,g,d,t,os⟩:=by
 have LI:Looks M h (isInstance (.ref x) (.type "BaseException")) true:=(hc ▸ (Looks.ld hx).andThen .now:Looks M h (typeOf (.ref x)) (.ref C)).andThen (looks_mroIn (M:=M) X c.mb);have kd:builtinKind "BaseException.__getattribute__" = some .slot:=by decide +kernel
 have sp:splitId "BaseException.__getattribute__" = some ("BaseException", "__getattribute__"):=by decide +kernel
 have ag:=PySem.F.args_bexc_ga (.ref x) nv;simp only [checkBuiltinCall,kd,sp];refine wpAny_bind (LI.at ?_);simp only [Bool.not_true,Bool.false_eq_true,if_false]
 repeat (any_goals (first | assumption | wp_step))
theorem wt {tk:Tok} {Q:Value->Shared->Prop} (X:K.In h) (c:XCl K C) (hx:h.get? x=some o) (hc:o.cls=.ref C) (hq:Q (.ref C) ⟨h,g,d,t,os⟩):
  wpAny (model prog w) A (getAttrBy (.ref x) (.str "__class__" tk) false) Q E ⟨h,g,d,t,os⟩:=by
 have L0:Looks (model prog w) h (typeOf (.ref x)) (.ref C):=hc ▸ (Looks.ld hx).andThen .now;have L1:=looks_findIn (M:=model prog w) X c.ga;have L2:=looks_findIn (M:=model prog w) X c.gh;have L3:=looks_mroIn (M:=model prog w) X c.mb;have LI:Looks (model prog w) h (isInstance (.ref x) (.type "BaseException")) true:=L0.andThen L3;unfold getAttrBy;refine wpAny_holding (wpAny_bind (L0.at (wpAny_bind (L1.at ?_))));dsimp only;have nga:(Value.builtin "BaseException.__getattribute__" == Value.builtin "object.__getattribute__")=false:=by decide +kernel
 rw [if_neg (by rw [nga,Bool.and_false]; decide)];unfold getAttrByItsOwn hookBefore;refine wpAny_bind (L2.at ?_);refine wpAny_bind (wpAny_attempt (wpAny_holding ?_));unfold callGetattribute;rw [if_neg (by decide)];unfold boundAndCalled;rw [PySem.F.attrBase_ValueError.ga.bind];refine wpAny_bind (wpAny_pure ?_);refine wpAny_call (codeAny_call_builtin PySem.F.attrBase_ValueError.ga.plain PySem.F.entry_bexc_ga ?_);refine ve X c hx hc ?_;have ok:wpAny (model prog w) A.in1 (Builtin.«object.__getattribute__» ⟨[.ref x,.str "__class__" tk],[]⟩) (fun fin s'=>fin=.done (.ret (.ref C))/\s'=⟨h,g,d,t,os⟩) (fun _ _=>False) ⟨h,g,d,t,os⟩:=qK X c hx hc ⟨rfl,rfl⟩;refine wpAny_mono ok (fun fin s' z=>?_) fun _ _ z=>z.elim
 obtain ⟨rfl,rfl⟩:=z;dsimp only;exact handed_on rfl hq
theorem rd {Q:Option Value->Shared->Prop} (X:K.In h) (c:XCl K C) (hx:h.get? x=some o) (hc:o.cls=.ref C) (hq:Q (some (.ref C)) ⟨h,g,d,t+1,os⟩):
  wpAny (model prog w) A (getAttr? (.ref x) "__class__") Q E ⟨h,g,d,t,os⟩:=by
 unfold getAttr? getAttrBy?;refine wpAny_bind (wpAny_mkText ?_);refine wpAny_bind (wpAny_attempt (wt X c hx hc ?_));exact wpAny_pure hq
theorem w9 (c:XCl K C):KitX K (.ref x) (.ref C) (fun h=>∃ o,h.get? x=some o/\o.cls=.ref C) where
 ty:=fun _ _ _ ⟨_,e1,e2⟩=>e2 ▸ (Looks.ld e1).andThen .now
 it:=fun _ _ X _=>c.isType X
 ne:=fun h tp dd its n sl X htp=>by
  obtain ⟨tl,N,nm,q,bs,hdct,sn,sub,ab,col,dd',k0,k1,k2,k3,k5,mN,hC,_⟩:=(c.own X).obj;refine Bool.eq_false_iff.mpr fun q=>?_
  have e:C=tp:=Value.ref.inj (beq_iff_eq.mp q);rw [e] at hC;have z:=congrArg Obj.data (Option.some.inj (hC.symm.trans htp));cases z
 ca:=fun {_ _ _ _ _ s} X ⟨_,e1,e2⟩ k=>by
  obtain ⟨h,g,d,t,os⟩:=s;exact rd X c e1 e2 k
end
theorem zQ {K:Frag} {C D:Addr} {b:Bool} (c:XCl K D) (m:mroIn K C (.ref D)=some b) (hb:b=false->C≠D):kitOne K (.ref C) (.ref D)=some b:=by
 unfold kitOne;by_cases q:((Value.ref C == Value.ref D)=true)
 ·rw [if_pos q];have e:C=D:=Value.ref.inj (beq_iff_eq.mp q);cases b with
  | true=>rfl
  | false=>exact absurd e (hb rfl)
 ·rw [if_neg q];unfold kitCls;dsimp only;have hc:(clsIn K D).isSome=true:=by
   have:=c.mb;unfold mroIn at this;cases e:clsIn K D with
   | none=>rw [e] at this; cases this
   | some cd=>rfl
  rw [if_pos (by rw [hc,c.ty]; simp)];exact m
theorem xY {K:Frag} {C:Addr} {b:Bool} (m:mroIn K C (.type "ValueError")=some b):kitOne K (.ref C) (.type "ValueError")=some b:=by
 unfold kitOne;rw [if_neg (by intro q; cases beq_iff_eq.mp q)];unfold kitCls;dsimp only;rw [if_pos (by decide +kernel)];exact m
section
variable {X:Cx} {pins:List (Addr × Obj)} {σ:St} {H:Hp} {s:Shared}
theorem Inv.exc (I:Inv X pins σ H s) {ea C:Addr} (e:H ea=some (XO C ea)):∃ o,s.heap.get? ea=some o/\o.cls=.ref C:=(I.hok ea _ e).1
noncomputable def V.cv:V->Option Value
 | .ref a=>some (.ref a)
 | .ty n=>some (.type n)
 | _=>none
theorem V.cv_of {v:V} {u c:Value} (r:RelV v u) (e:v.cv=some c):u=c:=by
 cases v with
 | ref a=>cases e; exact r
 | ty n=>cases e; exact r
 | _=>cases e
theorem vb:CallR X (.builtin "isinstance") (fun xs H Q=>∃ ea C v d b,xs=[.ref ea,v]/\v.cv=some d/\H ea=some (XO C ea)/\XCl X.K C/\kitOne X.K (.ref C) d=some b/\Q (.bl b) H):=by
 intro pins s σ H xs us Q I r h;obtain ⟨ea,C,v,d,b,rfl,ev,e,c,m,q⟩:=h;obtain ⟨u,u',rfl,r1,r2⟩:=vals2 r;cases r1;cases V.cv_of r2 ev;exact tokQ I.tk (kia_one (w9 c) I.kIn (I.exc e) m (fun z=>nomatch z) fun tk (htk:0 < tk)=>⟨.bl b,H,I.tok _,rfl,q⟩)
end
end L2
namespace L2
open PySem PySem.Spec PyProof.Rows
def CalleeX (P:Program) (w:World) (K:Frag) (mg:Str->Option Value) (base:Heap) (k:Nat) (x:Str) (ps:List Str) (sp:Sp):Prop:=
 ∃ f fd,FnOk P w K mg base (XR P w) k f fd ps sp/\Binds K fd ps []/\keepIn K (.ref f)=true/\mg x=some (.ref f)
theorem Fn.calX {P:Program} {w:World} {K:Frag} {mg:Str->Option Value} {base:Heap} {x:Str} {st:Stmt} {N ps:List Str} {k:Nat} {sp:Sp} (F:Fn K mg x st) (S:FnScope N ps (defScope st)) (len:∀ vs H Q E,sp vs H Q E->vs.length=ps.length)
  (hb:∀ (kV doc pm:Value) (an:Option Addr) (cdv ct:Value) (us:List Value),us.length=ps.length->bindArgs (fnOf x x (defArgs st) (defBody st) (defScope st) .none kV doc pm an cdv ct) ⟨us,[]⟩=pure (ps.zip us))
  (hbody:∀ (f:Addr) (cdv:Value) (A:Around) (outer:List Env) (s:Shared) (H:Hp) (vs:List V) (Q:VK) (E:XK),Room k (A.deeper (envOfC x (defScope st) s.heap.objs.size f cdv))->sp vs H Q E ->
   ∃ t,PSs (cxOf (XR P w) P w K mg base N x (defScope st) f cdv A outer s H E) (defBody st) t/\t { nx:=fun _ H'=>Q .non H',rt:=Q } (start N vs) H):CalleeX P w K mg base (k+1) x ps sp:=by
 obtain ⟨f,fd,F,m⟩:=F;have hB:=F.binds hb;have hK:=F.kp;obtain ⟨oc,od,kV,doc,pm,an,cdv,ct,osl,rfl,lk,hcd⟩:=F.ex;exact ⟨f,_,zY lk hcd S len (hbody f cdv),hB,hK,m⟩
section
variable {X:Cx} {k:Nat} {x:Str} {ps:List Str} {sp:Sp} {p pos:Pos} {e:Expr} {es:List Expr} {t:TA} {E:XK} {W:St->XK}
theorem i5 (C:CalleeX X.prog X.w X.K X.mg X.base k x ps sp) (hr:Room k X.A) (hx:Passes (XR X.prog X.w) X E) (hg:Gl X x) (ha:PA X (e::es) t)
  (he:starEach (e::es) X.env=(false,eval e X.env)::starEach es X.env:=by rfl) (hpl:(backTo pos (starEach es X.env)).any (·.1)=false:=by rfl) (hd:(x == ("__debug__" : Str))=false:=by decide):PE X (.Call (.Name x p) (e::es) [] pos) (tCall sp [] E t):=by
 obtain ⟨f,fd,F,b,kp,m⟩:=C;exact uK F hr hg m kp b .nil hx ha (hdb:=hd) (he:=he) (hpl:=hpl)
theorem wx (C:CalleeX X.prog X.w X.K X.mg X.base k x ps sp) (hr:Room k X.A) (hx:PassesT (XR X.prog X.w) X W) (hg:Gl X x) (ha:PA X (e::es) t)
  (he:starEach (e::es) X.env=(false,eval e X.env)::starEach es X.env:=by rfl) (hpl:(backTo pos (starEach es X.env)).any (·.1)=false:=by rfl) (hd:(x == ("__debug__" : Str))=false:=by decide):PE X (.Call (.Name x p) (e::es) [] pos) (tCallT sp [] W t):=by
 obtain ⟨f,fd,F,b,kp,m⟩:=C;exact xD F hr hg m kp b .nil hx ha (hdb:=hd) (he:=he) (hpl:=hpl)
theorem CalleeX.calm {P:Program} {w:World} {K:Frag} {mg:Str->Option Value} {base:Heap} {k:Nat} {x:Str} {ps:List Str} {sp:Sp} (C:CalleeX P w K mg base k x ps sp):
  Callee P w K mg base k x ps (fun vs H Q _=>sp vs H Q E0):=by
 obtain ⟨f,fd,F,b,kp,m⟩:=C;refine ⟨f,fd,⟨fun vs H Q _ h=>F.len vs H Q E0 h,fun A outer s H args us vs Q E hr e0 hb hv h=>?_⟩,b,kp,m⟩;refine codeAny_mono (F.run A outer s H args us vs Q E0 hr e0 hb hv h) fun r s' q=>?_
 rcases r with er | fl
 ·obtain ⟨_,_,_,_,_,_,_,_,z⟩:=q;exact z.elim
 ·cases fl with
  | ret u=>exact q
  | _=>exact q.elim
end
section
variable {X:Cx} {a c:Expr} {es:List Expr} {ta:TE} {pos p tpos:Pos} {x1:Nat}
noncomputable def cIsX (K:Frag) (d:Value) (ta:TE):TE:=fun σ H Q=>ta σ H fun x H1=>match x with
 | .ref ea=>∃ C b,H1 ea=some (XO C ea)/\XCl K C/\PySem.W.kitOne K (.ref C) d=some b/\Q (.bl b) H1
 | _=>False
theorem dj {v:V} {d:Value} (K:Frag) (hK:X.K=K) (ev:v.cv=some d) (hg:Gl X "isinstance") (hm:X.mg "isinstance" = none) (ha:PE X a ta) (hc:PE X c (tC v))
  (hs:starEach [a,c] X.env=(false,eval a X.env)::starEach [c] X.env:=by rfl) (hs2:starEach [c] X.env=(false,eval c X.env)::starEach [] X.env:=by rfl) (hpl:(backTo pos (starEach [c] X.env)).any (·.1)=false:=by rfl):PE X (.Call (.Name "isinstance" p) [a,c] [] pos) (cIsX K d ta):=by
 subst hK;refine (aB vb hg hm jw (aa ha.mono (aa hc ad hs2) hs) (he:=hs) (hpl:=hpl)).imp fun σ H Q q=>⟨_,q,fun x H1 z=>?_⟩
 split at z
 ·obtain ⟨C,b,h1,h2,h3,z⟩:=z;exact ⟨_,C,v,d,b,rfl,ev,h1,h2,h3,z⟩
 ·exact z.elim
end
noncomputable abbrev TJ:=Nat->St->Hp->(Hp->Prop)->Prop
def PJ (X:Cx) (es:List Expr) (t:TJ):Prop:=∀ (acc:Str) (pins:List (Addr × Obj)) (s:Shared) (σ:St) (H:Hp) (Q:Hp->Prop),acc.length<=sizeLine->Inv X pins σ H s->t acc.length σ H Q ->
 Joins (model X.prog X.w) X.A X.xe (evalEach es X.env) acc (fun out s1=>out.length<=sizeLine/\∃ H1,Inv X pins σ H1 s1/\Q H1) s
noncomputable def jNil:TJ:=fun _ _ H Q=>Q H
noncomputable def jCons (te:TE) (tj:TJ):TJ:=fun n σ H Q=>te σ H fun x H1=>match x with
 | .str y=>n+y.length<=sizeLine/\tj (n+y.length) σ H1 Q
 | _=>False
section
variable {X:Cx} {e v1 v2:Expr} {es rest:List Expr} {te:TE} {tj:TJ} {pos:Pos}
theorem qq:PJ X [] jNil:=fun acc pins s σ H Q hz I q=>⟨hz,H,I,q⟩
theorem fF (he:PE X e te) (hr:PJ X es tj) (hs:evalEach (e::es) X.env=eval e X.env::evalEach es X.env:=by rfl):PJ X (e::es) (jCons te tj):=by
 intro acc pins s σ H Q hz I q;rw [hs];refine thn (he pins s σ H _ I q) fun u s1 ⟨x,H1,I1,r,z⟩=>?_
 dsimp only at z;split at z
 ·rename_i y;obtain ⟨t,rfl⟩:=r;have hl:(acc++y).length=acc.length+y.length:=strLen_append _ _;exact ⟨y,t,rfl,by rw [hl]; exact z.1,hr (acc++y) pins s1 σ H1 Q (by rw [hl]; exact z.1) I1 (by rw [hl]; exact z.2)⟩
 ·exact z.elim
noncomputable def cFS (tj:TJ):TE:=fun σ H Q=>tj 0 σ H fun H1=>∀ z,Q (.str z) H1
theorem uN (h:PJ X (v1::v2::rest) tj):PE X (.JoinedStr (v1::v2::rest) pos) (cFS tj):=by
 intro pins s σ H Q I q;have J:=h Str.empty pins s σ H _ (by decide) I q;refine wpAny_JoinedStr ?_;have mono:∀ {P R:Str->Shared->Prop} (l:List (Sem Value)) (acc:Str) (s:Shared),(∀ o s,P o s->R o s)->Joins (model X.prog X.w) X.A X.xe l acc P s->Joins (model X.prog X.w) X.A X.xe l acc R s:=by
  intro P R l
  induction l with
  | nil=>intro acc s k z; exact k _ _ z
  | cons x r ih=>
   intro acc s k z;exact thn z fun v s1 ⟨y,t,e,hz,z⟩=>⟨y,t,e,hz,ih _ _ k z⟩
 exact mono _ _ _ (fun out s1 ⟨hz,H1,I1,z⟩=>⟨hz,⟨.str out,H1,I1.tok _,⟨_,rfl⟩,z out⟩⟩) J
noncomputable def cFmtR (tv:TE):TE:=fun σ H Q=>tv σ H fun x H1=>match x with
 | .str y=>(∀ c ∈ y.cps.toList,c < 16 ^ 8)/\y.length<=100000/\∀ z:Str,z.length<=10*y.length+2->Q (.str z) H1
 | _=>False
theorem pY (hv:PE X e te):PE X (.FormattedValue e 114 none pos) (cFmtR te):=by
 intro pins s σ H Q I q;refine wpAny_FormattedValue_repr (thn (hv pins s σ H _ I q) fun u s1 ⟨x,H1,I1,r,z⟩=>?_);dsimp only at z;split at z
 ·rename_i y;obtain ⟨t,rfl⟩:=r;obtain ⟨h1,h2,z⟩:=z;have hl:=PySem.StrLaws.reprText_len y h1;have hs:(reprText y).length<=sizeLine:=Nat.le_trans hl (Nat.le_trans (by omega:10*y.length+2<=1000002) (by decide));refine wpAny_pyReprObj_str ?_ hs;exact tokQ (Nat.succ_pos _) (formatField_str (fun t' tk (htk:0 < tk)=>⟨.str (reprText y),H1,I1.tok _,⟨_,rfl⟩,z _ hl⟩) hs)
 ·exact z.elim
end
noncomputable def xA (K:Frag) (x:Str):Addr:=match nsIn K mainGlobals x with
 | some (some (.ref a))=>a
 | _=>0
theorem uR {K:Frag} {x:Str} {C:Addr} (e:nsIn K mainGlobals x=some (some (.ref C))):xA K x=C:=by unfold xA; rw [e]
def Xn (K:Frag) (mg:Str->Option Value) (x:Str):Prop:=mg x=some (.ref (xA K x))/\XCl K (xA K x)
def Xm (K:Frag) (x y:Str) (b:Bool):Prop:=PySem.W.mroIn K (xA K x) (.ref (xA K y))=some b/\(b=false->xA K x≠xA K y)
def Xv (K:Frag) (x:Str):Prop:=PySem.W.mroIn K (xA K x) (.type "ValueError")=some true
theorem Xn.kit {K:Frag} {mg:Str->Option Value} {x y:Str} {b:Bool} (m:Xm K x y b) (n:Xn K mg y):PySem.W.kitOne K (.ref (xA K x)) (.ref (xA K y))=some b:=zQ n.2 m.1 m.2
theorem Xv.kit {K:Frag} {x:Str} (m:Xv K x):PySem.W.kitOne K (.ref (xA K x)) (.type "ValueError")=some true:=xY m
theorem Xm.caught {K:Frag} {x y:Str} (m:Xm K x y true):Caught K (xA K x) (xA K y):=⟨m.1⟩
theorem oD:bootBuiltins "ValueError" = some (.type "ValueError"):=by decide +kernel
section
variable {K:Frag} {h:Heap} {mg:Str->Option Value} {x y:Str} {C D:Addr}
theorem BD (X:K.In h) (G:h.Ns mainGlobals mg) (n:nsIn K mainGlobals x=some (some (.ref C))) (ex:PySem.W.excIn K C bmV "ValueError.__new__" = true) (ty:PySem.W.typeIn K (.ref C)=some (.type "type")) (mb:PySem.W.mroIn K C (.type "BaseException")=some true)
  (ga:findIn K (.ref C) "__getattribute__" = some (some (.builtin "BaseException.__getattribute__"))) (gh:findIn K (.ref C) "__getattr__" = some none) (ca:findIn K (.ref C) "__class__" = some (some (.builtin "object.__class__"))) (mo:PySem.W.mroIn K C (.type "object")=some true)
  (gt:PySem.W.specialIn K (.builtin "object.__class__") "__get__" = some (some (.builtin "getset_descriptor.__get__"))) (tk:PySem.W.takesIn K (.builtin "object.__class__")=some true):Xn K mg x:=by
 unfold Xn;rw [uR n];exact ⟨mg_of X G n,⟨ex,ty,mb,ga,gh,ca,gt,tk,mo⟩⟩
theorem mG {b:Bool} (n:nsIn K mainGlobals x=some (some (.ref C))) (n':nsIn K mainGlobals y=some (some (.ref D))) (m:PySem.W.mroIn K C (.ref D)=some b) (d:b=false->C≠D):Xm K x y b:=by
 unfold Xm;rw [uR n,uR n'];exact ⟨m,d⟩
theorem wE (n:nsIn K mainGlobals x=some (some (.ref C))) (m:PySem.W.mroIn K C (.type "ValueError")=some true):Xv K x:=by
 unfold Xv;rw [uR n];exact m
end
theorem gj {X:Cx} {K:Frag} {x:Str} {pos:Pos} (n:Xn K X.mg x) (hg:Gl X x) (hd:(x == ("__debug__" : Str))=false:=by decide):PE X (.Name x pos) (tC (.ref (xA K x))):=zp (v:=.ref (xA K x)) hg n.1 rfl hd
theorem x8 {sp:Sp} {W:St->XK} {t:TA} {σ:St} {H:Hp} {Q:VK}:tCallT sp [] W t σ H Q=t σ H fun vs H1=>sp vs H1 Q (W σ):=by
 unfold tCallT;simp only [List.append_nil]
theorem wP {C:Addr} {E:XK} {t:TA} {D:Ends} {σ:St} {H:Hp}:tRaise C E t D σ H=t σ H fun vs H1=>vs.length<=sizeLine/\E (.ref C) none H1:=rfl
theorem BH {tj:TJ} {σ:St} {H:Hp} {Q:VK}:cFS tj σ H Q=tj 0 σ H fun H1=>∀ z,Q (.str z) H1:=rfl
theorem Az {n:Nat} {σ:St} {H:Hp} {Q:Hp->Prop}:jNil n σ H Q=Q H:=rfl
theorem yA {te:TE} {tj:TJ} {n:Nat} {σ:St} {H:Hp} {Q:Hp->Prop}:jCons te tj n σ H Q=te σ H fun x H1=>match x with
 | .str y=>n+y.length<=sizeLine/\tj (n+y.length) σ H1 Q
 | _=>False:=rfl
theorem yu {tv:TE} {σ:St} {H:Hp} {Q:VK}:cFmtR tv σ H Q=tv σ H fun x H1=>match x with
 | .str y=>(∀ c ∈ y.cps.toList,c < 16 ^ 8)/\y.length<=100000/\∀ z:Str,z.length<=10*y.length+2->Q (.str z) H1
 | _=>False:=rfl
theorem Au {K:Frag} {d:Value} {ta:TE} {σ:St} {H:Hp} {Q:VK}:cIsX K d ta σ H Q=ta σ H fun x H1=>match x with
 | .ref ea=>∃ C b,H1 ea=some (XO C ea)/\XCl K C/\PySem.W.kitOne K (.ref C) d=some b/\Q (.bl b) H1
 | _=>False:=rfl
theorem xg {K:Frag} {D:Addr} {i:Nat} {tb:(St->XK)->TS} {th:Addr->TS} {R:Ends} {σ:St} {H:Hp}:tTryAs K D i tb th R σ H =
 tb (fun σ' cv _ H'=>∃ C,cv=.ref C/\Caught K C D/\∀ ea,H' ea=none ->
  th ea { nx:=fun σ2 H2=>R.nx (σ2.set i none) H2,rt:=R.rt,bk:=fun σ2 H2=>R.bk (σ2.set i none) H2,ct:=fun σ2 H2=>R.ct (σ2.set i none) H2 } (σ'.set i (some (.ref ea))) (upd H' ea (XO C ea))) R σ H:=rfl
end L2
namespace L2
open PySem PySem.Spec PyProof.Rows PySem.Builtin PySem.Builtin.Str
theorem pN {n a b:Nat} (h1:a<=b) (h2:b<=n):strSliceIndices (some (a:Int)) (some (b:Int)) 1 n=(List.range (b - a)).map fun k=>a+k:=by
 have e1:¬ ((a:Int) < 0):=by omega
 have e2:¬ ((b:Int) < 0):=by omega
 have e3:max 0 (min (a:Int) (n:Int))=a:=by omega
 have e4:max 0 (min (b:Int) (n:Int))=b:=by omega
 simp only [strSliceIndices,e1,e2,if_false,show (1:Int) > 0 by decide,if_true,e3,e4,sliceRange];have c:(if (a:Int) < b then ((b:Int) - a+1 - 1) / 1 else 0).toNat=b - a:=by
  split <;> omega
 rw [c];apply List.map_congr_left;intro k _;omega
theorem lZ (l:List Nat) (a m:Nat) (h:a+m<=l.length):((List.range m).map fun k=>a+k).filterMap (fun i=>l[i]?)=(l.drop a).take m:=by
 induction m with
 | zero=>simp
 | succ m ih=>
  have hl:a+m < l.length:=by omega
  rw [List.range_succ,List.map_append,List.filterMap_append,ih (by omega),List.take_add_one,List.getElem?_drop];simp [List.getElem?_eq_getElem hl]
theorem uw (l:List Nat) (a b:Nat) (h1:a<=b) (h2:b<=l.length):Txt.slice (st l) (some (a:Int)) (some (b:Int))=st ((l.drop a).take (b - a)):=by
 have hl:(st l).length=l.length:=by simp [Str.length]
 unfold Txt.slice;rw [hl,pN h1 h2];have f:((List.range (b - a)).map fun k=>a+k).filterMap ((st l).cps[·]?)=(l.drop a).take (b - a):=by
  rw [<- lZ l a (b - a) (by omega)];congr 1;funext i;simp
 split
 ·rename_i g;simp only [List.length_map,List.length_range,beq_self_eq_true,Bool.true_and,beq_iff_eq] at g;have e1:a=0:=by omega
  have e2:b=l.length:=by omega
  subst e1 e2;simp
 ·rw [f]
section
variable {X:Cx}
noncomputable def kSlB:V->Option Int->Option Int->Hp->VK->Prop:=fun x lo hi H Q=>match x,lo,hi with
 | .str z,some i,some j=>z.cps.toList.length<=100000/\0<=i/\i<=j/\j<=z.cps.toList.length/\Q (.str (st ((z.cps.toList.drop i.toNat).take (j.toNat - i.toNat)))) H
 | _,_,_=>False
theorem slB:SlR X kSlB:=sV.imp fun x lo hi H Q q=>by
 unfold kSlB at q;split at q
 ·rename_i z i j;obtain ⟨h,h0,h1,h2,q⟩:=q;obtain ⟨a,rfl⟩:∃ k:Nat,i=k:=⟨i.toNat,by omega⟩;obtain ⟨b,rfl⟩:∃ k:Nat,j=k:=⟨j.toNat,by omega⟩;refine ⟨z,rfl,by rw [strlen]; exact Nat.le_trans h big5,?_⟩;have e:=uw z.cps.toList a b (by omega) (by omega);rw [aF] at e;rw [e];simpa using q
 ·exact q.elim
theorem A4 {l:List Nat} {i j:Int} {H:Hp} {Q:VK}:kSlB (.str (st l)) (some i) (some j) H Q=(l.length<=100000/\0<=i/\i<=j/\j<=l.length/\Q (.str (st ((l.drop i.toNat).take (j.toNat - i.toNat)))) H):=rfl
end
end L2
namespace L2
open PySem PySem.Spec PyProof.Rows
section
variable {K:Frag} {g:TG} {tc:TT} {te:TE} {σc:St} {D:Addr} {Q:VK} {H:Hp}
theorem qO {α β:Type} {F:α -> β -> Prop} {l:List α} {m:List β} {x:α} {y:β} (h:Paired F l m) (r:F x y):Paired F (l++[x]) (m++[y]):=by
 induction h with
 | nil=>exact .cons r .nil
 | cons r' _ ih=>exact .cons r' ih
theorem kY {lo:Int} {n:Nat} (R:Nat->V->Hp->Prop) (hfree:H D=none) (hn:n<=100000)
  (mono:∀ x v H1 H2 acc,H1 D=some (.lst acc)->(∀ b o,b≠D->H1 b=some o->H2 b=some o)->R x v H1->R x v H2)
  (hs:∀ i H1 (out:VK) (non:Hp->Prop),i < n->Same H H1->(∀ v H6,Same H1 H6->R i v H6->out v H6) ->
   g (.int (lo+i)) σc H1 fun σ4 H4=>tc σ4 H4 fun b H5=>if b=true then te σ4 H5 out else non H5)
  (hq:∀ H' vs,Same H H'->H' D=some (.lst vs)->Paired (fun x v=>R x v H') (List.range n) vs->Q (.ref D) H'):compW (Itr lo n) g tc te σc D Q H:=by
 refine ⟨fun i m acc H2=>m=n - i/\i<=n/\Paired (fun x v=>R x v H2) (List.range i) acc/\Same H H2/\H2 D=some (.lst acc),⟨n,by simp,Nat.zero_le _,.nil,ah hfree _,upd_same⟩,?_⟩;rintro i m acc H2 ⟨rfl,hi,pr,sm,hD⟩;have len:acc.length=i:=by rw [<- pr.length,List.length_range]
 by_cases hlt:i < n
 ·refine .inr ⟨hlt,fun x H3 y=>?_⟩;obtain ⟨rfl,rfl⟩:=y;refine hs i _ _ _ hlt sm fun v H6 s6 r=>?_
  refine ⟨s6 _ _ hD,Nat.lt_of_le_of_lt (Nat.le_of_eq len) (sizeBig (by omega)),n - (i+1),by omega,rfl,hlt,?_,aK (sm.trans s6) hfree,upd_same⟩;have lift:∀ {l:List Nat} {vs:List V},Paired (fun x v=>R x v H3) l vs->Paired (fun x v'=>R x v' (upd H6 D (.lst (acc++[v])))) l vs:=fun pp=>
   L2.Paired.mapP pp fun _ _ r=>mono _ _ H3 _ acc hD (fun b o nb q=>by rw [av nb]; exact s6 _ _ q) r
  rw [List.range_succ];exact qO (lift pr) (mono _ _ H6 _ acc (s6 _ _ hD) (fun b o nb q=>by rw [av nb]; exact q) r)
 ·have e:i=n:=by omega
  subst e;exact .inl ⟨Nat.le_refl _,hq H2 acc sm hD pr⟩
end
structure RoomH (k:Nat) (A:Around):Prop where
 dp:A.depth+3*k+5 < recursionLimit
 un:A.units+16*k+200 < cLine
theorem Room.h {k:Nat} {A:Around} (r:Room k A):RoomH k A:=⟨r.dp,r.un⟩
theorem RoomH.mark {k:Nat} {A:Around} (r:RoomH k A) (v:Option Value):RoomH k (A.mark v):=⟨r.dp,r.un⟩
theorem RoomH.mono {j k:Nat} {A:Around} (r:RoomH k A) (h:j<=k):RoomH j A:=⟨by have:=r.dp; omega,by have:=r.un; omega⟩
noncomputable def Cx.loud (X:Cx):Cx:={ X with calm:=false,xe:=fun _ _=>False }
theorem Inv.loud {X:Cx} {p:List (Addr × Obj)} {σ:St} {H:Hp} {s:Shared} (I:Inv X p σ H s):Inv X.loud p σ H s:=
 ⟨⟨I.ok.mod,I.ok.kind,I.ok.glob,I.ok.blt,I.ok.above,I.ok.inj,I.ok.has,I.ok.cab,fun z=>(nomatch z),I.ok.frames,I.ok.stk,I.ok.exf,I.ok.bs,I.ok.bsz,I.ok.noex,I.ok.exfs,I.ok.funs,I.ok.frf⟩,I.os,I.bare,I.base,I.loc,I.cell,I.free,I.freeC,I.pin,I.hok,I.len,I.tk⟩
structure FnOkH (P:Program) (w:World) (K:Frag) (mg:Str->Option Value) (base:Heap) (k:Nat) (f:Addr) (fd:FuncData) (ps:List Str) (sp:Sp):Prop where
 len:∀ vs H Q E,sp vs H Q E->vs.length=ps.length
 run:∀ (A:Around) (outer:List Env) (s:Shared) (H:Hp) (args:Args) (us:List Value) (vs:List V) (Q:VK) (E:XK),RoomH k A->Env0 P w K mg base A outer s H->BindsTo s fd args (ps.zip us)->Vals vs us->sp vs H Q E ->
  codeAny (model P w) A (.call (.ref f) args) (CR CX0 outer P w H s Q E) s
theorem Ag {P:Program} {w:World} {K:Frag} {mg:Str->Option Value} {base:Heap} {k:Nat} {f:Addr} {name qual:Str} {params:Arguments} {body:List Stmt} {scope:Scope} {dV kV doc pm cdv ct oc:Value} {an od:Option Addr}
  {osl:Array (Option Value)} {N ps:List Str} {sp:Sp} (lk:K.lookup f=some ⟨oc,od,.func (fnOf name qual params body scope dV kV doc pm an cdv ct),osl⟩) (hcd:codeIn K cdv qual=true) (S:FnScope N ps scope)
  (len:∀ vs H Q E,sp vs H Q E->vs.length=ps.length)
  (hbody:∀ (A:Around) (outer:List Env) (s:Shared) (H:Hp) (vs:List V) (Q:VK) (E:XK),RoomH k (A.deeper (envOfC qual scope s.heap.objs.size f cdv))->sp vs H Q E ->
   ∃ t,PSs (cxOf CX0 P w K mg base N qual scope f cdv A outer s H E).loud body t/\t { nx:=fun _ H'=>Q .non H',rt:=Q } (start N vs) H):
  FnOkH P w K mg base (k+1) f (fnOf name qual params body scope dV kV doc pm an cdv ct) ps sp where
 len:=len
 run:=fun A outer s H args us vs Q E hr e0 hb r hsp=>by
  have hl:=len _ _ _ _ hsp;have keep:∀ b o,base.get? b=some o->s.heap.get? b=some o:=fun b o e=>(e0.bs b o e).1
  have KX:K.In s.heap:=e0.mod.kin.keeps keep;have lim:s.heap.NoLimit:=e0.mod.nolimit.keeps keep;have loc:∀ y ∈ ps.zip us,scope.names.lookup y.1=some .local\/(scope.names.lookup y.1=some .cell/\((cellsFrom (s.heap.objs.size+1) scope.names []).lookup y.1).isSome=true):=by
   rintro ⟨n,v⟩ hy;exact (S.par n (List.of_mem_zip hy).1).imp id fun q=>⟨q,PySem.W.cellsFrom_some _ _ _ (.inl q)⟩
  have hd:A.depth < recursionLimit:=by have:=hr.dp; omega
  refine codeAny_call_function hd (KX _ _ lk) rfl S.co S.gen rfl (PySem.W.codeRec_of KX hcd) (hb _ _ _ _ (tokQ e0.tk (wpAny_newFunctionEnv_cells S.kind loc fun env he s1 x htk=>?_)));subst he;refine ⟨lim.keeps x.toInCall.keep,codeAny_func ?_⟩;have hr2:RoomH k (A.deeper (envOfC qual scope s.heap.objs.size f cdv)):=⟨by have:=hr.dp; show A.depth+1+3*k+5 < _; omega,by have:=hr.un; show A.units+3+16*k+200 < _; omega⟩;obtain ⟨t,ht,hq⟩:=hbody A outer s H vs Q E hr2 hsp;have e1:Env0 P w K mg base { A with handled:=none } outer s H:=⟨e0.frames,e0.mod,e0.bs,e0.bsz,e0.funs,e0.frf,e0.hok,e0.bare,e0.tk⟩;have I0:Inv (cxOf CX0 P w K mg base N qual scope f cdv { A with handled:=none } outer s H E) [] (start N vs) H s1:=oU S rfl e1 hl r x htk;have I1:=I0.loud;have I:Inv (cxOf CX0 P w K mg base N qual scope f cdv A outer s H E).loud [] (start N vs) H s1:=
   ⟨⟨I1.ok.mod,I1.ok.kind,I1.ok.glob,I1.ok.blt,I1.ok.above,I1.ok.inj,I1.ok.has,I1.ok.cab,fun z=>(nomatch z),Around.frames_deeper e0.frames,I1.ok.stk,I1.ok.exf,I1.ok.bs,I1.ok.bsz,I1.ok.noex,I1.ok.exfs,I1.ok.funs,I1.ok.frf⟩,I1.os,I1.bare,I1.base,I1.loc,I1.cell,I1.free,I1.freeC,I1.pin,I1.hok,I1.len,I1.tk⟩
  refine wpAny_mono (ht [] s1 (start N vs) H _ I hq) (fun fl s' hs=>?_) fun e s' hs=>hs.elim
  have fin:∀ {σ':St} {H':Hp} {v:V} {u:Value},Inv (cxOf CX0 P w K mg base N qual scope f cdv A outer s H E).loud [] σ' H' s'->RelV v u->Q v H'->CE outer P w H s Q u s':=
   fun {σ' H' v u} J rv q=>⟨v,H',J.tk,J.os,J.bare,J.base,J.hok,rv,q⟩
  cases fl with
  | ret u=>obtain ⟨v,σ',H',J,rv,q⟩:=hs; exact fin J rv q
  | next=>obtain ⟨σ',H',J,q⟩:=hs; exact fin (v:=V.non) (u:=Value.none) J rfl q
  | brk=>obtain ⟨_,_,_,q⟩:=hs; exact q.elim
  | cont=>obtain ⟨_,_,_,q⟩:=hs; exact q.elim
def CalleeH (P:Program) (w:World) (K:Frag) (mg:Str->Option Value) (base:Heap) (k:Nat) (x:Str) (ps:List Str) (sp:Sp):Prop:=
 ∃ f fd,FnOkH P w K mg base k f fd ps sp/\Binds K fd ps []/\keepIn K (.ref f)=true/\mg x=some (.ref f)
theorem Fn.calH {P:Program} {w:World} {K:Frag} {mg:Str->Option Value} {base:Heap} {x:Str} {st:Stmt} {N ps:List Str} {k:Nat} {sp:Sp} (F:Fn K mg x st) (S:FnScope N ps (defScope st)) (len:∀ vs H Q E,sp vs H Q E->vs.length=ps.length)
  (hb:∀ (kV doc pm:Value) (an:Option Addr) (cdv ct:Value) (us:List Value),us.length=ps.length->bindArgs (fnOf x x (defArgs st) (defBody st) (defScope st) .none kV doc pm an cdv ct) ⟨us,[]⟩=pure (ps.zip us))
  (hbody:∀ (f:Addr) (cdv:Value) (A:Around) (outer:List Env) (s:Shared) (H:Hp) (vs:List V) (Q:VK) (E:XK),RoomH k (A.deeper (envOfC x (defScope st) s.heap.objs.size f cdv))->sp vs H Q E ->
   ∃ t,PSs (cxOf CX0 P w K mg base N x (defScope st) f cdv A outer s H E).loud (defBody st) t/\t { nx:=fun _ H'=>Q .non H',rt:=Q } (start N vs) H):CalleeH P w K mg base (k+1) x ps sp:=by
 obtain ⟨f,fd,F,m⟩:=F;have hB:=F.binds hb;have hK:=F.kp;obtain ⟨oc,od,kV,doc,pm,an,cdv,ct,osl,rfl,lk,hcd⟩:=F.ex;exact ⟨f,_,Ag lk hcd S len (hbody f cdv),hB,hK,m⟩
section
variable {X:Cx} {k:Nat} {x:Str} {ps:List Str} {sp:Sp} {p pos:Pos} {e:Expr} {es:List Expr} {t:TA}
theorem AG (C:CalleeH X.prog X.w X.K X.mg X.base k x ps sp) (hr:RoomH k X.A) (hg:Gl X x) (ha:PA X (e::es) t)
  (he:starEach (e::es) X.env=(false,eval e X.env)::starEach es X.env:=by rfl) (hpl:(backTo pos (starEach es X.env)).any (·.1)=false:=by rfl) (hd:(x == ("__debug__" : Str))=false:=by decide):PE X (.Call (.Name x p) (e::es) [] pos) (tCall sp [] E0 t):=by
 obtain ⟨f,fd,F,b,kp,m⟩:=C;intro pins s σ H Q I h;refine wpAny_Call_Name_kw (jq I hg m (PySem.W.callWith_K (h₀:=X.base) I.ok.mod.kin kp (thn (ha pos pins s σ H _ I h) fun us s1 ⟨vs,H1,I1,r,q⟩=>⟨I1.kIn,?_⟩) he hpl) hd);have q:sp vs H1 Q E0:=by dsimp only at q; rw [List.append_nil] at q; exact q
 have hl:(us++[]).length=ps.length:=by rw [List.append_nil,<- r.length]; exact F.len _ _ _ _ q
 have bd:=b s1 us I1.kIn hl;rw [List.append_nil] at bd;refine wpAny_call (codeAny_mono (F.run X.A X.stack s1 H1 ⟨us,[]⟩ us vs Q E0 hr I1.env0 bd r q) fun r s' hq=>?_);rcases r with er | fl
 ·exact hq.elim
 ·cases fl with
  | ret u=>exact I1.after hq
  | _=>exact hq.elim
end
section
variable {κ:Type} [DecidableEq κ]
noncomputable def valV (kvs:List (κ × V)) (k:κ):Option V:=(kvs.find? fun kv=>decide (kv.1=k)).map (·.2)
noncomputable def putK (kvs:List (κ × V)) (k:κ) (v:V):List (κ × V):=
 if (kvs.any fun kv=>decide (kv.1=k))=true then kvs.map (fun kv=>if kv.1=k then (kv.1,v) else kv) else kvs++[(k,v)]
theorem cb {p:κ × V} {r:List (κ × V)} {k:κ} (e:p.1=k):valV (p::r) k=some p.2:=by simp [valV,List.find?_cons,e]
theorem b9 {p:κ × V} {r:List (κ × V)} {k:κ} (e:¬ p.1=k):valV (p::r) k=valV r k:=by simp [valV,List.find?_cons,e]
theorem iP (k:κ):∀ kvs:List (κ × V),(kvs.any fun kv=>decide (kv.1=k))=(valV kvs k).isSome
 | []=>rfl
 | p::r=>by
  rw [List.any_cons];by_cases e:p.1=k
  ·simp only [cb e,decide_eq_true e,Bool.true_or,Option.isSome_some]
  ·rw [b9 e,decide_eq_false e,Bool.false_or]; exact iP k r
theorem rP (k j:κ) (y:V):∀ kvs:List (κ × V),valV (kvs.map fun kv=>if kv.1=k then (kv.1,y) else kv) j=(valV kvs j).map fun x=>if j=k then y else x
 | []=>rfl
 | p::r=>by
  have ih:=rP k j y r;rw [List.map_cons];by_cases h:p.1=k
  ·rw [if_pos h];by_cases e:p.1=j
   ·rw [cb (p:=(p.1,y)) e,cb e,Option.map_some,if_pos (e.symm.trans h)]
   ·rw [b9 (p:=(p.1,y)) e,b9 e,ih]
  ·rw [if_neg h];by_cases e:p.1=j
   ·rw [cb (p:=p) e,cb e,Option.map_some,if_neg (fun z=>h (e.trans z))]
   ·rw [b9 (p:=p) e,b9 e,ih]
theorem o9 (k j:κ) (y:V):∀ kvs:List (κ × V),valV kvs k=none->valV (kvs++[(k,y)]) j=if j=k then some y else valV kvs j
 | [],_=>by
  by_cases e:k=j
  ·rw [if_pos e.symm]; exact cb (p:=(k,y)) e
  ·rw [if_neg (fun z=>e z.symm)]; exact b9 (p:=(k,y)) e
 | p::r,hn=>by
  rw [List.cons_append];have hk:¬ p.1=k:=fun z=>by rw [cb z] at hn; cases hn
  rw [b9 hk] at hn;have ih:=o9 k j y r hn;by_cases e:p.1=j
  ·rw [cb e,cb e,if_neg (fun z=>hk (e.trans z))]
  ·rw [b9 e,b9 e,ih]
theorem rj (kvs:List (κ × V)) (k j:κ) (y:V):valV (putK kvs k y) j=if j=k then some y else valV kvs j:=by
 unfold putK;by_cases a:(kvs.any fun kv=>decide (kv.1=k))=true
 ·rw [if_pos a,rP];rw [iP] at a;by_cases e:j=k
  ·obtain ⟨x,hx⟩:=Option.isSome_iff_exists.mp a;rw [if_pos e,e,hx,Option.map_some,if_pos rfl]
  ·rw [if_neg e];cases valV kvs j with
   | none=>rfl
   | some x=>rw [Option.map_some,if_neg e]
 ·rw [if_neg a];refine o9 k j y kvs ?_;rw [iP] at a;cases q:valV kvs k with
  | none=>rfl
  | some x=>rw [q] at a; exact (a rfl).elim
theorem fH (kvs:List (κ × V)) (k:κ) (v:V):(putK kvs k v).length<=kvs.length+1:=by
 unfold putK;split
 ·rw [List.length_map]; omega
 ·rw [List.length_append,List.length_cons,List.length_nil]; omega
theorem wS {kvs:List (κ × V)} {k:κ} (v:V) (h:valV kvs k=none):putK kvs k v=kvs++[(k,v)]:=by
 unfold putK;rw [iP,h];exact if_neg (by decide)
theorem RelO.isSome_eq {o:Option V} {u:Option Value} (r:RelO o u):o.isSome=u.isSome:=by
 cases o with
 | none=>cases u with
  | none=>rfl
  | some _=>exact (show False from r).elim
 | some _=>cases u with
  | none=>exact (show False from r).elim
  | some _=>rfl
theorem KV.val {kvs:List (κ × V)} {vs:List (κ × Value)} (r:KV kvs vs) (k:κ):RelO (valV kvs k) (valueAt vs k):=by
 unfold KV at r
 induction r with
 | nil=>exact True.intro
 | @cons p q ps qs h t ih=>
  obtain ⟨h1,h2⟩:=h;by_cases e:p.1=k
  ·have e':q.1=k:=h1.symm.trans e;have b:valueAt (q::qs) k=some q.2:=by simp [valueAt,List.find?_cons,e']
   rw [cb e,b]; exact h2
  ·have e':¬ q.1=k:=fun z=>e (h1.trans z)
   have b:valueAt (q::qs) k=valueAt qs k:=by simp [valueAt,List.find?_cons,e']
   rw [b9 e,b]; exact ih
theorem KV.any {kvs:List (κ × V)} {vs:List (κ × Value)} (r:KV kvs vs) (k:κ):(kvs.any fun kv=>decide (kv.1=k))=vs.any fun kv=>decide (kv.1=k):=by
 unfold KV at r
 induction r with
 | nil=>rfl
 | cons h t ih=>rw [List.any_cons,List.any_cons,ih,h.1]
theorem KV.repl {kvs:List (κ × V)} {vs:List (κ × Value)} (r:KV kvs vs) (k:κ) {y:V} {u:Value} (ry:RelV y u):
  KV (kvs.map fun kv=>if kv.1=k then (kv.1,y) else kv) (vs.map fun kv=>if kv.1=k then (kv.1,u) else kv):=by
 unfold KV at r ⊢
 induction r with
 | nil=>exact .nil
 | @cons p q ps qs h t ih=>
  rw [List.map_cons,List.map_cons];refine .cons ?_ ih;obtain ⟨h1,h2⟩:=h;by_cases e:p.1=k
  ·rw [if_pos e,if_pos (h1.symm.trans e)]; exact ⟨h1,ry⟩
  ·rw [if_neg e,if_neg (fun z=>e (h1.trans z))]; exact ⟨h1,h2⟩
theorem KV.put {kvs:List (κ × V)} {vs:List (κ × Value)} (r:KV kvs vs) (k:κ) {y:V} {u:Value} (ry:RelV y u):KV (putK kvs k y) (stored vs k u):=by
 unfold putK stored;rw [r.any k];by_cases e:(vs.any fun kv=>decide (kv.1=k))=true
 ·rw [if_pos e,if_pos e]; exact r.repl k ry
 ·rw [if_neg e,if_neg e]; exact Paired.snoc r ⟨rfl,ry⟩
theorem KV.keys {kvs:List (κ × V)} {vs:List (κ × Value)} (r:KV kvs vs):kvs.map (·.1)=vs.map (·.1):=by
 unfold KV at r
 induction r with
 | nil=>rfl
 | cons h t ih=>rw [List.map_cons,List.map_cons,ih,h.1]
theorem KV.length {kvs:List (κ × V)} {vs:List (κ × Value)} (r:KV kvs vs):kvs.length=vs.length:=Paired.length r
end
theorem pE {P:Program} {w:World} {k:Key} {u:Value} (r:RelV (kV k) u):(mixKind P w).is k u=true:=by
 cases k with
 | inl i=>obtain ⟨t,e⟩:=(show ∃ t,u=Value.int i t from r); subst e; exact qZ P w i t
 | inr x=>obtain ⟨t,e⟩:=(show ∃ t,u=Value.str x t from r); subst e; exact rq P w x t
theorem oO {P:Program} {w:World}:∀ {ks:List Key} {us:List Value},Vals (ks.map kV) us->ItemsAre (mixKind P w) ks us
 | [],_,r=>by rw [List.map_nil] at r; cases r; exact .nil
 | k::ks,_,r=>by
  rw [List.map_cons] at r;cases r with
  | cons h t=>exact .cons (pE h) (oO t)
noncomputable abbrev KT (H:Hp):List (List Key × V)->List (List Key × Addr × Value)->Prop:=Paired fun p q=>p.1=q.1/\H q.2.1=some (.tup (p.1.map kV))/\RelV p.2 q.2.2
theorem KT.val {H:Hp} {kvs:List (List Key × V)} {xs:List (List Key × Addr × Value)} (r:KT H kvs xs) (k:List Key):RelO (valV kvs k) ((atKey xs k).map (·.2)):=by
 induction r with
 | nil=>exact True.intro
 | @cons p q ps qs h t ih=>
  obtain ⟨h1,_,h2⟩:=h;by_cases e:p.1=k
  ·have e':q.1=k:=h1.symm.trans e;have b:atKey (q::qs) k=some q.2:=by simp [atKey,List.find?_cons,e']
   rw [cb e,b]; exact h2
  ·have e':¬ q.1=k:=fun z=>e (h1.trans z)
   have b:atKey (q::qs) k=atKey qs k:=by simp [atKey,List.find?_cons,e']
   rw [b9 e,b]; exact ih
theorem KT.repl {H:Hp} {kvs:List (List Key × V)} {xs:List (List Key × Addr × Value)} (r:KT H kvs xs) (k:List Key) {y:V} {u:Value} (ry:RelV y u):
  KT H (kvs.map fun kv=>if kv.1=k then (kv.1,y) else kv) (xs.map (putAt k u)):=by
 induction r with
 | nil=>exact .nil
 | @cons p q ps qs h t ih=>
  rw [List.map_cons,List.map_cons];refine .cons ?_ ih;obtain ⟨h1,h2,h3⟩:=h;unfold putAt;by_cases e:p.1=k
  ·rw [if_pos e,if_pos (h1.symm.trans e)]; exact ⟨h1,h2,ry⟩
  ·rw [if_neg e,if_neg (fun z=>e (h1.trans z))]; exact ⟨h1,h2,h3⟩
theorem KT.put {H:Hp} {kvs:List (List Key × V)} {xs:List (List Key × Addr × Value)} (r:KT H kvs xs) (k:List Key) {b:Addr} {y:V} {u:Value} (hb:H b=some (.tup (k.map kV))) (ry:RelV y u):
  KT H (putK kvs k y) (storedH xs k b u):=by
 have e:(kvs.any fun kv=>decide (kv.1=k))=(atKey xs k).isSome:=by
  rw [iP,(r.val k).isSome_eq,Option.isSome_map]
 unfold putK storedH;rw [e];by_cases q:(atKey xs k).isSome=true
 ·rw [if_pos q,if_pos q]; exact r.repl k ry
 ·rw [if_neg q,if_neg q]; exact Paired.snoc r ⟨rfl,hb,ry⟩
theorem KT.keeps {H H':Hp} {kvs:List (List Key × V)} {xs:List (List Key × Addr × Value)} (r:KT H kvs xs) (ht:∀ b ys,H b=some (.tup ys)->H' b=some (.tup ys)):KT H' kvs xs:=
 Paired.mapP r fun _ _ z=>⟨z.1,ht _ _ z.2.1,z.2.2⟩
section
variable {P:Program} {w:World} {H:Hp} {h:Heap} {a:Addr}
theorem Aa {u:HO} (ok:HOk P w H h) (e:Rd H a u):ObjOk P w H h a u:=e.ok ok
theorem sQ {kvs:List (Key × V)} (ok:HOk P w H h) (e:Rd H a (.dK kvs)):kvs.length<=sizeLine/\(a == sysModules)=false/\∃ vs,KV kvs vs/\h.DictOf (mixKind P w) a vs:=
 show ObjOk P w H h a (.dK kvs) from Aa ok e
theorem BO {kvs:List (Key × V)} (ok:HOk P w H h) (e:H a=some (.dK kvs)):kvs.length<=sizeLine/\(a == sysModules)=false/\∃ vs,KV kvs vs/\h.DictOf (mixKind P w) a vs:=sQ ok (.inl e)
theorem nq {ks:List Key} (ok:HOk P w H h) (e:H a=some (.tup (ks.map kV))):(tupleKind (mixKind P w)).is h ks a:=by
 obtain ⟨_,its,r,o,h1,h2,n,h3⟩:=(show ObjOk P w H h a (.tup (ks.map kV)) from ok a _ e);exact ⟨o,its.toArray,n,h1,h2,h3,by simpa using oO r⟩
theorem sr {kvs:List (List Key × V)} (ok:HOk P w H h) (e:Rd H a (.dT kvs)):kvs.length<=sizeLine/\(a == sysModules)=false /\
  ∃ xs,KT H kvs xs/\h.DictOfH (tupleKind (mixKind P w)) a xs:=by
 obtain ⟨z,y,xs,r,o,es,ep,h1,h2,h3,h4,h5⟩:=(show ObjOk P w H h a (.dT kvs) from Aa ok e);refine ⟨z,y,xs,r,o,es,ep,h1,h2,h3,h4,fun x hx=>?_,h5⟩;have all:∀ {l:List (List Key × V)} {m:List (List Key × Addr × Value)},KT H l m->∀ x ∈ m,(tupleKind (mixKind P w)).is h x.1 x.2.1:=by
  intro l m q
  induction q with
  | nil=>intro x hx; exact nomatch hx
  | @cons p q ps qs hq t ih=>
   intro x hx;rcases List.mem_cons.mp hx with e | hx
   ·subst e;exact nq ok (by rw [<- hq.1]; exact hq.2.1)
   ·exact ih x hx
 exact all r x hx
theorem zZ {kvs:List (List Key × V)} (ok:HOk P w H h) (e:H a=some (.dT kvs)):kvs.length<=sizeLine/\(a == sysModules)=false /\
  ∃ xs,KT H kvs xs/\h.DictOfH (tupleKind (mixKind P w)) a xs:=sr ok (.inl e)
end
def DGet (H:Hp) (a:Addr) (y:V) (r:Option V):Prop:=
 (∃ kvs k,Rd H a (.dK kvs)/\y=kV k/\r=valV kvs k)\/∃ kvs k b,Rd H a (.dT kvs)/\y=.ref b/\H b=some (.tup (k.map kV))/\r=valV kvs k
def DPut (H:Hp) (a:Addr) (y v:V) (H':Hp):Prop:=
 (∃ kvs k,H a=some (.dK kvs)/\y=kV k/\kvs.length < sizeLine/\H'=upd H a (.dK (putK kvs k v))) \/
 ∃ kvs k b,H a=some (.dT kvs)/\y=.ref b/\H b=some (.tup (k.map kV))/\kvs.length < sizeLine/\H'=upd H a (.dT (putK kvs k v))
theorem DGet.k {H:Hp} {a:Addr} {kvs:List (Key × V)} {k:Key} (e:H a=some (.dK kvs)):DGet H a (kV k) (valV kvs k):=.inl ⟨kvs,k,.inl e,rfl,rfl⟩
theorem DGet.t {H:Hp} {a b:Addr} {kvs:List (List Key × V)} {k:List Key} (e:H a=some (.dT kvs)) (eb:H b=some (.tup (k.map kV))):DGet H a (.ref b) (valV kvs k):=.inr ⟨kvs,k,b,.inl e,rfl,eb,rfl⟩
theorem DPut.t {H:Hp} {a b:Addr} {kvs:List (List Key × V)} {k:List Key} {v:V} (e:H a=some (.dT kvs)) (eb:H b=some (.tup (k.map kV))) (hl:kvs.length < sizeLine):
  DPut H a (.ref b) v (upd H a (.dT (putK kvs k v))):=.inr ⟨kvs,k,b,e,rfl,eb,hl,rfl⟩
section
variable {X:Cx} {pins:List (Addr × Obj)} {σ:St} {H:Hp} {s:Shared} {a:Addr} {y v:V} {u r:Value} {o:Option V} {A:Around} {E:Value->Shared->Prop}
theorem Inv.big (I:Inv X pins σ H s):sysModules < s.heap.objs.size:=by
 have h:mainGlobals < s.heap.objs.size:=(I.mod.glob.keeps I.bk).lt;exact Nat.lt_trans (by decide) h
theorem vS {Q:Value->Shared->Prop} (hu:A.units+1 < cLine) (I:Inv X pins σ H s) (g:DGet H a y (some v)) (ry:RelV y u) (h:∀ w' s',Inv X pins σ H s'->RelV v w'->Q w' s'):
  wpAny (model X.prog X.w) A (getItem (.ref a) u) Q E s:=by
 rcases g with ⟨kvs,k,e,ey,l⟩ | ⟨kvs,k,b,e,ey,eb,l⟩
 ·subst ey;obtain ⟨z,hd,vs,rel,dd⟩:=sQ I.hok e;obtain ⟨w',hw,rw'⟩:=RelO.some_of (v:=v) (o:=valueAt vs k) (by rw [l]; exact rel.val k);exact wpAny_getItem_of (pE ry) dd.mapOf hw (h w' _ (I.tok _) rw')
 ·subst ey;cases (show u=Value.ref b from ry);obtain ⟨z,hd,xs,rel,dd⟩:=sr I.hok e;obtain ⟨w',hw,rw'⟩:=RelO.some_of (v:=v) (o:=(atKey xs k).map (·.2)) (by rw [l]; exact rel.val k);obtain ⟨p,hp,hp2⟩:=Option.map_eq_some_iff.mp hw;refine wpAny_getItem_heap (tupleKind_room_in1 hu) (nq I.hok eb) dd hp ?_;rw [hp2];exact h w' _ (I.tok _) rw'
theorem BZ {Q:Value->Shared->Prop} (hu:A.units+1 < cLine) (I:Inv X pins σ H s) (g:DGet H a y o) (ry:RelV y u) (h:∀ s',Inv X pins σ H s'->Q (.bool o.isSome) s'):
  wpAny (model X.prog X.w) A (compareOp .In u (.ref a)) Q E s:=by
 rcases g with ⟨kvs,k,e,ey,l⟩ | ⟨kvs,k,b,e,ey,eb,l⟩
 ·subst ey;obtain ⟨z,hd,vs,rel,dd⟩:=sQ I.hok e;refine wpAny_in_of (pE ry) hd dd.mapOf ?_;rw [<- (rel.val k).isSome_eq,<- l];exact h _ (I.tok _)
 ·subst ey;cases (show u=Value.ref b from ry);obtain ⟨z,hd,xs,rel,dd⟩:=sr I.hok e;refine wpAny_in_heap (tupleKind_room_in1 hu) (nq I.hok eb) hd dd ?_;have q:=(rel.val k).isSome_eq;rw [Option.isSome_map] at q;rw [<- q,<- l];exact h _ (I.tok _)
theorem zA {Q:Value->Shared->Prop} (hu:A.units+1 < cLine) (I:Inv X pins σ H s) (g:DGet H a y o) (ry:RelV y u) (h:∀ s',Inv X pins σ H s'->Q (.bool (!o.isSome)) s'):
  wpAny (model X.prog X.w) A (compareOp .NotIn u (.ref a)) Q E s:=by
 rcases g with ⟨kvs,k,e,ey,l⟩ | ⟨kvs,k,b,e,ey,eb,l⟩
 ·subst ey;obtain ⟨z,hd,vs,rel,dd⟩:=sQ I.hok e;refine wpAny_notIn_of (pE ry) hd dd.mapOf ?_;rw [<- (rel.val k).isSome_eq,<- l];exact h _ (I.tok _)
 ·subst ey;cases (show u=Value.ref b from ry);obtain ⟨z,hd,xs,rel,dd⟩:=sr I.hok e;refine wpAny_notIn_heap (tupleKind_room_in1 hu) (nq I.hok eb) hd dd ?_;have q:=(rel.val k).isSome_eq;rw [Option.isSome_map] at q;rw [<- q,<- l];exact h _ (I.tok _)
theorem uF {h':Heap} {t':Nat} {ob:HO} (I:Inv X pins σ H s) (mu:Mut (H a)) (hs:Heap.SameBut a s.heap h') (he:∃ q,h'.get? a=some q) (new:ObjOk X.prog X.w (upd H a ob) h' a ob) (ht:0 < t':=by first | assumption | exact Nat.succ_pos _ | (apply Inv.tk; assumption) | omega):
  Inv X pins σ (upd H a ob) { s with heap:=h',toks:=t' }:=
 I.write (x:=a) (e:=a) mu (.inl rfl) (fun b q hb z=>(hs.2 b hb).trans z) he new
theorem wD {P:Program} {w:World} {H':Hp} {h':Heap} {kvs:List (Key × V)} {vs:List (Key × Value)} (z:kvs.length<=sizeLine) (hd:(a == sysModules)=false) (rel:KV kvs vs) (dd:h'.DictOf (mixKind P w) a vs):
  ObjOk P w H' h' a (.dK kvs):=⟨z,hd,vs,rel,dd⟩
theorem vL {H':Hp} {Q:Unit->Shared->Prop} (hu:A.units+1 < cLine) (I:Inv X pins σ H s) (g:DPut H a y v H') (ry:RelV y u) (rv:RelV v r) (h:∀ s',Inv X pins σ H' s'->Q () s'):
  wpAny (model X.prog X.w) A (setItem (.ref a) u r) Q E s:=by
 rcases g with ⟨kvs,k,e,ey,l,eH⟩ | ⟨kvs,k,b,e,ey,eb,l,eH⟩
 ·subst ey eH;obtain ⟨z,hd,vs,rel,dd⟩:=BO I.hok e;have hz:vs.length<=sizeLine:=by rw [<- rel.length]; exact z
  have hl:(putK kvs k v).length<=sizeLine:=by have:=fH kvs k v; omega
  refine wpAny_setItem_pairs (hsz:=hz) (pE ry) dd fun h' dd' hs=>h _ ?_
  have he:∃ q,h'.get? a=some q:=let ⟨q,_,_,hq,_⟩:=dd'; ⟨q,hq⟩
  exact uF I (by rw [e]; exact True.intro) hs he (wD hl hd (rel.put k rv) dd')
 ·subst ey eH;cases (show u=Value.ref b from ry);obtain ⟨z,hd,xs,rel,dd⟩:=zZ I.hok e;have hz:xs.length<=sizeLine:=by rw [<- Paired.length rel]; exact z
  have hl:(putK kvs k v).length<=sizeLine:=by have:=fH kvs k v; omega
  refine wpAny_setItem_heap (hsz:=hz) (tupleKind_room_in1 hu) (nq I.hok eb) dd fun h' dd' hs=>h _ ?_
  obtain ⟨q,es,ep,hq,h2,h3,h4,_,h5⟩:=dd';refine uF I (by rw [e]; exact True.intro) hs ⟨q,hq⟩ ⟨hl,hd,_,(rel.put k eb rv).keeps fun c ys ec=>?_,q,es,ep,hq,h2,h3,h4,h5⟩;rw [av (BC ec e (fun z=>nomatch z))];exact ec
end
section
variable {X:Cx} {pins:List (Addr × Obj)} {σ:St} {H:Hp} {s:Shared} {a:Addr} {kvs:List (Key × V)} {k:Key} {u:Value} {A:Around} {E:Value->Shared->Prop}
end
def NoSl (i:Expr):Prop:=∀ ov iv,subscripted i false ov iv=operate [ov,iv] (getItem ov iv)
theorem zL {prog:Program} {w:World} {A:Around} {E:Value->Shared->Prop} {s:Shared} {env:Env} {value slice:Expr} {pos:Pos} {T id:String} {Q:Value->Shared->Prop}
  (hl:typeLookup (.type T) "__getitem__" = pure (some (.builtin id))) (hs:NoSl slice)
  (h:wpAny (model prog w) A (eval value env) (fun o s₁=>wpAny (model prog w) A (eval slice env) (fun i s₂=>s₂.TypeIs o T/\wpAny (model prog w) A (getItem o i) Q E s₂) E s₁) E s):
  wpAny (model prog w) A (eval (.Subscript value slice pos) env) Q E s:=by
 refine Subscript_ (wpAny_mono h (fun o s₁ h₁=>wpAny_mono h₁ (fun i s₂ h₂=>?_) fun _ _ x=>x) fun _ _ x=>x);obtain ⟨hT,h₂⟩:=h₂;unfold subscriptTail;refine wpAny_bind ?_;rw [getitemInPython_of_ne hT.not_modules];refine wpAny_bind (wpAny_specialOf hT hl ?_);have fin:wpAny (model prog w) A (subscripted slice false o i) (fun r s₃=>wpAny (model prog w) A (letTemporaryGo value o r>>=fun _=>pure r) Q E s₃) E s₂:=by
  rw [hs o i];exact wpAny_operating (wpAny_mono h₂ (fun r s₃ h₃=>wpAny_bind (wpAny_letTemporaryGo (wpAny_pure h₃))) fun _ _ x=>x)
 first
  | exact wpAny_pure (wpAny_bind fin)
  | exact wpAny_bind (wpAny_pure (wpAny_bind fin))
  | exact wpAny_bind fin
theorem rK {X:Cx} {pins:List (Addr × Obj)} {σ:St} {H:Hp} {s:Shared} {a:Addr} {y:V} {o:Option V} (I:Inv X pins σ H s) (g:DGet H a y o):s.TypeIs (.ref a) "dict" := by
 rcases g with ⟨kvs,k,e,_,_⟩ | ⟨kvs,k,b,e,_,_,_⟩
 ·obtain ⟨_,_,vs,_,dd⟩:=sQ I.hok e;exact dd.typeIs
 ·obtain ⟨_,_,xs,_,dd⟩:=sr I.hok e;exact dd.typeIs
noncomputable def tDGet (td ty:TE):TE:=fun σ H Q=>td σ H fun x H1=>ty σ H1 fun y H2=>∃ a v,x=.ref a/\DGet H2 a y (some v)/\Q v H2
noncomputable def tDIn (ty td:TE):TE:=fun σ H Q=>ty σ H fun y H1=>td σ H1 fun x H2=>∃ a o,x=.ref a/\DGet H2 a y o/\Q (.bl o.isSome) H2
noncomputable def tDNotIn (ty td:TE):TE:=fun σ H Q=>ty σ H fun y H1=>td σ H1 fun x H2=>∃ a o,x=.ref a/\DGet H2 a y o/\Q (.bl (!o.isSome)) H2
noncomputable def sDPut (td ty tv:TE):TS:=fun D σ H=>tv σ H fun v H1=>td σ H1 fun x H2=>ty σ H2 fun y H3=>∃ a H4,x=.ref a/\DPut H3 a y v H4/\D.nx σ H4
section
variable {X:Cx} {o i e value:Expr} {pos pos' tpos:Pos} {td ty tv:TE}
theorem yt (hu:X.A.units+1 < cLine) (ho:PE X o td) (hi:PE X i ty) (hs:NoSl i):PE X (.Subscript o i pos) (tDGet td ty):=by
 intro pins s σ H Q I h;refine zL PySem.F.slot_dict_getitem.lookup hs (thn (ho pins s σ H _ I h) fun u s1 ⟨x,H1,I1,rx,q1⟩=>thn (hi pins s1 σ H1 _ I1 q1) fun iv s2 ⟨y,H2,I2,ry,a,v,ex,g,q2⟩=>?_);subst ex;obtain rfl:u=Value.ref a:=rx;exact ⟨rK I2 g,vS hu I2 g ry fun w' s3 I3 rw'=>⟨v,H2,I3,rw',q2⟩⟩
theorem A2 (hu:X.A.units+1 < cLine) (hi:PE X i ty) (ho:PE X o td):PC X .In i o (tDIn ty td):=by
 intro pins s σ H Q I h;refine thn (hi pins s σ H _ I h) fun iv s1 ⟨y,H1,I1,ry,q1⟩=>thn (ho pins s1 σ H1 _ I1 q1) fun u s2 ⟨x,H2,I2,rx,a,ov,ex,g,q2⟩=>?_
 subst ex;obtain rfl:u=Value.ref a:=rx;exact BZ hu I2 g ry fun s3 I3=>⟨.bl ov.isSome,H2,I3,rfl,q2⟩
theorem v7 (hu:X.A.units+1 < cLine) (hi:PE X i ty) (ho:PE X o td):PC X .NotIn i o (tDNotIn ty td):=by
 intro pins s σ H Q I h;refine thn (hi pins s σ H _ I h) fun iv s1 ⟨y,H1,I1,ry,q1⟩=>thn (ho pins s1 σ H1 _ I1 q1) fun u s2 ⟨x,H2,I2,rx,a,ov,ex,g,q2⟩=>?_
 subst ex;obtain rfl:u=Value.ref a:=rx;exact zA hu I2 g ry fun s3 I3=>⟨.bl (!ov.isSome),H2,I3,rfl,q2⟩
theorem yD (hu:X.A.units+1 < cLine) (ho:PE X o td) (hi:PE X i ty) (hv:PE X value tv) (hs:swapsWith value (some (.Subscript o i pos')) pos.line X.env=pure false):
  PS X (.Assign [.Subscript o i pos'] value pos) (sDPut td ty tv):=by
 intro pins s σ H D I h;refine wpAny_Assign_Subscript (thn (hv pins s σ H _ I h) fun r s1 ⟨v,H1,I1,rv,q1⟩=>thn (ho pins s1 σ H1 _ I1 q1) fun u s2 ⟨x,H2,I2,rx,q2⟩=>thn (hi pins s2 σ H2 _ I2 q2) fun iv s3 ⟨y,H3,I3,ry,a,H4,ex,g,q3⟩=>?_) hs;subst ex;obtain rfl:u=Value.ref a:=rx;exact vL hu I3 g ry rv fun s4 I4=>⟨σ,H4,I4,q3⟩
end
theorem xy {P:Program} {w:World} {H:Hp} (h:Heap) (hb:sysModules < h.objs.size):ObjOk P w H (h.push { cls:=.type "dict",data:=.dict #[] }) h.objs.size (.dT []):=
 ⟨Nat.zero_le _,beq_eq_false_iff_ne.mpr (Ne.symm (Nat.ne_of_lt hb)),[],.nil,_,#[],0,Heap.get?_push_size _ rfl,⟨rfl,rfl,rfl⟩,rfl,rfl,List.nodup_nil⟩
noncomputable def tDNewT:TE:=fun _ H Q=>∀ p,H p=none->Q (.ref p) (upd H p (.dT []))
section
variable {X:Cx} {pos:Pos}
theorem sw:PE X (.Dict [] [] pos) tDNewT:=fun pins s σ H Q I h=>
 wpAny_Dict_empty ⟨.ref s.heap.objs.size,_,I.laid (a:=s.heap.objs.size) (o:=.dT []) (t':=s.toks) (fun _ _ q=>Heap.get?_push_of_some _ q) (Nat.le_refl _) (xy s.heap I.big),rfl,h _ (I.hok.fresh (Nat.le_refl _))⟩
end
section
variable {X:Cx} {pins:List (Addr × Obj)} {σ:St} {H:Hp} {s:Shared} {a:Addr} {y d:V} {u r:Value} {o:Option V} {A:Around} {E:Value->Shared->Prop}
end
section
variable {X:Cx} {o e f:Expr} {apos cpos:Pos} {td ty tx:TE}
end
section
variable {X:Cx} {pins:List (Addr × Obj)} {σ:St} {H:Hp} {s:Shared} {a:Addr} {kvs:List (Key × V)} {A:Around} {E:Value->Shared->Prop}
end
section
variable {X:Cx} {pins:List (Addr × Obj)} {σ:St} {H:Hp} {s:Shared} {a:Addr} {y:V} {u:Value} {A:Around} {E:Value->Shared->Prop}
end
section
variable {X:Cx}
end
section
variable {κ:Type} [DecidableEq κ]
end
section
variable {X:Cx} {o i e value:Expr} {pos pos' apos cpos:Pos} {td ty tv ta:TE}
noncomputable def cDGet (td ty:TE):TE:=fun σ H Q=>td σ H fun x H1=>ty σ H1 fun y H2=>match x with
 | .ref a=>∃ v,DGet H2 a y (some v)/\Q v H2
 | _=>False
theorem uH (hu:X.A.units+1 < cLine) (ho:PE X o td) (hi:PE X i ty) (hs:NoSl i):PE X (.Subscript o i pos) (cDGet td ty):=
 (yt hu ho.mono hi.mono hs).imp fun σ H Q q=>⟨_,q,fun x H1 z=>⟨_,z,fun y H2 z=>by
  split at z
  ·obtain ⟨v,g,q⟩:=z;exact ⟨_,v,rfl,g,q⟩
  ·exact z.elim⟩⟩
noncomputable def cDIn (neg:Bool) (ty td:TE):TE:=fun σ H Q=>ty σ H fun y H1=>td σ H1 fun x H2=>match x with
 | .ref a=>∃ v,DGet H2 a y v/\Q (.bl (neg ^^ v.isSome)) H2
 | _=>False
theorem Bj (hu:X.A.units+1 < cLine) (hi:PE X i ty) (ho:PE X o td) (h1:behindInMarks .In o=false:=by rfl):PT X (.Compare i [.In] [o] pos) (cTest (cDIn false ty td)):=
 (xV (A2 hu hi.mono ho.mono) h1).imp fun σ H Q q=>⟨_,q,fun y H1 z=>⟨_,z,fun x H2 z=>by
  split at z
  ·obtain ⟨v,g,q⟩:=z;exact ⟨_,v,rfl,g,kS (by simpa using q)⟩
  ·exact z.elim⟩⟩
theorem vQ (hu:X.A.units+1 < cLine) (hi:PE X i ty) (ho:PE X o td) (h1:behindInMarks .NotIn o=false:=by rfl):PT X (.Compare i [.NotIn] [o] pos) (cTest (cDIn true ty td)):=
 (xV (v7 hu hi.mono ho.mono) h1).imp fun σ H Q q=>⟨_,q,fun y H1 z=>⟨_,z,fun x H2 z=>by
  split at z
  ·obtain ⟨v,g,q⟩:=z;exact ⟨_,v,rfl,g,kS (by simpa using q)⟩
  ·exact z.elim⟩⟩
noncomputable def cDPut (td ty tv:TE):TS:=fun D σ H=>tv σ H fun v H1=>td σ H1 fun x H2=>ty σ H2 fun y H3=>match x with
 | .ref a=>∃ H4,DPut H3 a y v H4/\D.nx σ H4
 | _=>False
theorem qj (hu:X.A.units+1 < cLine) (ho:PE X o td) (hi:PE X i ty) (hv:PE X value tv) (hs:swapsWith value (some (.Subscript o i pos')) pos.line X.env=pure false:=by rfl):
  PS X (.Assign [.Subscript o i pos'] value pos) (cDPut td ty tv):=fun pins s σ H D I h=>
 yD hu ho.mono hi.mono hv.mono hs pins s σ H D I ⟨_,h,fun v H1 z=>⟨_,z,fun x H2 z=>⟨_,z,fun y H3 z=>by
  split at z
  ·obtain ⟨H4,g,q⟩:=z;exact ⟨_,H4,rfl,g,q⟩
  ·exact z.elim⟩⟩⟩
theorem zC {σ:St} {H:Hp} {Q:VK}:cDGet td ty σ H Q=td σ H fun x H1=>ty σ H1 fun y H2=>match x with
 | .ref a=>∃ v,DGet H2 a y (some v)/\Q v H2
 | _=>False:=rfl
theorem Bg {neg:Bool} {σ:St} {H:Hp} {Q:VK}:cDIn neg ty td σ H Q=ty σ H fun y H1=>td σ H1 fun x H2=>match x with
 | .ref a=>∃ v,DGet H2 a y v/\Q (.bl (neg ^^ v.isSome)) H2
 | _=>False:=rfl
theorem zk {D:Ends} {σ:St} {H:Hp}:cDPut td ty tv D σ H=tv σ H fun v H1=>td σ H1 fun x H2=>ty σ H2 fun y H3=>match x with
 | .ref a=>∃ H4,DPut H3 a y v H4/\D.nx σ H4
 | _=>False:=rfl
theorem yv {σ:St} {H:Hp} {Q:VK}:tDNewT σ H Q=∀ p,H p=none->Q (.ref p) (upd H p (.dT [])):=rfl
end
theorem rY {ts:List Str} {b:Nat} (h:∀ t ∈ ts,t.length<=b):piled ts<=(b+2)*ts.length:=by
 induction ts with
 | nil=>simp [piled]
 | cons t r ih=>
  rw [piled_cons,List.length_cons,Nat.mul_succ];have:=ih fun x hx=>h x (List.mem_cons_of_mem _ hx)
  have:=h t List.mem_cons_self;omega
theorem lE:∀ (ts:List Str) (k:Nat) (acc:Str),(textFrom k acc ts).length<=acc.length+piled ts
 | [],k,acc=>by simp [textFrom,piled]
 | t::ts,k,acc=>by
  rw [textFrom,piled_cons];have:=lE ts (k+1) (acc++(if k > 0 then ", " else "" : String)++t);have e:(acc++(if k > 0 then ", " else "" : String)++t).length<=acc.length+2+t.length:=by
   rw [strLen_append,strLen_append];split
   ·exact Nat.le_refl _
   ·show acc.length+0+t.length<=_; omega
  omega
theorem sh {ts:List Str} {b:Nat} (h:∀ t ∈ ts,t.length<=b):(listText ts).length<=(b+2)*ts.length+2:=by
 unfold listText;rw [strLen_append];have h1:=lE ts 0 "[";have h2:=rY h;have e1:("[" : Str).length=1:=rfl;have e2:("]" : Str).length=1:=rfl;omega
theorem pJ {ts:List Str} {b:Nat} (h:∀ t ∈ ts,t.length<=b):(tupleText ts).length<=(b+2)*ts.length+3:=by
 unfold tupleText;rw [strLen_append,strLen_append];have h2:=rY h;have e1:("(" : Str).length=1:=rfl;have e3:((if ts.length == 1 then ",)" else ")" : String):Str).length<=2:=by split <;> decide
 by_cases hn:ts=[]
 ·subst hn;have:(Str.join ", " ([]:List Str)).length=0:=rfl;omega
 ·have:=join_length_add ts hn;omega
section
variable {X:Cx} {e:Expr} {te:TE} {pos:Pos}
def Few (ls:List (List Nat)):Prop:=ls.length<=100/\∀ l ∈ ls,l.length<=100/\∀ c ∈ l,c < 16 ^ 8
theorem xP {ls:List (List Nat)} (h:Few ls):∀ t ∈ ls.map fun l=>reprText (st l),t.length<=1002:=fun t ht=>by
 obtain ⟨l,hl,rfl⟩:=List.mem_map.mp ht;obtain ⟨h1,h2⟩:=h.2 l hl;have:=PySem.StrLaws.reprText_len (st l) (by rw [am]; exact h2);have e:(st l).length=l.length:=by simp [Str.length]
 omega
theorem mS:∀ {ls:List (List Nat)} {us:List Value},Vals (ls.map fun l=>V.str (st l)) us->∃ _:List Nat,us.length=ls.length/\∀ (i:Nat) u,us[i]? = some u->∃ l t,ls[i]? = some l/\u=Value.str (st l) t
 | [],_,.nil=>⟨[],rfl,fun i u h=>by simp at h⟩
 | l::ls,_,.cons r t=>by
  obtain ⟨ts,h1,h2⟩:=mS t;obtain ⟨tk,rfl⟩:=r;refine ⟨[],by rw [List.length_cons,List.length_cons,h1],fun i u h=>?_⟩;cases i with
  | zero=>simp only [List.getElem?_cons_zero,Option.some.injEq] at h; exact ⟨l,tk,rfl,h.symm⟩
  | succ i=>rw [List.getElem?_cons_succ] at h; exact h2 i u h
end
section
variable {X:Cx}
variable {o e f:Expr} {to te tf:TE} {apos cpos:Pos}
end
section
variable {X:Cx} {e:Expr} {te:TE} {apos cpos:Pos}
end
section
variable {X:Cx}
end
section
variable {X:Cx} {pins:List (Addr × Obj)} {σ:St} {H:Hp} {s:Shared} {a:Addr} {y v:V} {u r:Value} {A:Around} {E:Value->Shared->Prop}
end
section
variable {X:Cx} {o e f:Expr} {apos cpos:Pos} {td ty tx:TE}
end
section
variable {X:Cx} {o:Expr} {to:TE} {apos cpos:Pos}
end
section
variable {X:Cx}
end
section
variable {K:Frag} {g:TG} {tc:TT} {te:TE} {σc:St} {D:Addr} {Q:VK} {H:Hp} {td ty:TE}
end
section
variable {K:Frag} {J:It} {g:TG} {tc:TT} {te:TE} {σc:St} {D:Addr} {Q:VK} {H:Hp}
theorem rM {α:Type} (xs:List α) (keep:α -> Bool) (R:α -> V->Hp->Prop) (hfree:H D=none) (hn:xs.length<=100000) (hgo:∀ i H1,i < xs.length->Same H H1->J.go i H1) (hst:∀ H1,Same H H1->J.stop xs.length H1)
  (hy:∀ i H1 v H2,i < xs.length->J.yld i H1 v H2->Same H1 H2)
  (mono:∀ x v H1 H2 acc,H1 D=some (.lst acc)->(∀ b o,b≠D->H1 b=some o->H2 b=some o)->R x v H1->R x v H2)
  (hs:∀ i x v H1 H2 (out:VK) (non:Hp->Prop),xs[i]? = some x->Same H H1->J.yld i H1 v H2->(∀ v H6,keep x=true->Same H2 H6->R x v H6->out v H6)->(∀ H5,keep x=false->Same H2 H5->non H5) ->
   g v σc H2 fun σ4 H4=>tc σ4 H4 fun b H5=>if b=true then te σ4 H5 out else non H5)
  (hq:∀ H' vs,Same H H'->H' D=some (.lst vs)->Paired (fun x v=>R x v H') (xs.filter keep) vs->Q (.ref D) H'):compW J g tc te σc D Q H:=by
 refine ⟨fun i m acc H2=>m=xs.length - i/\i<=xs.length/\Paired (fun x v=>R x v H2) ((xs.take i).filter keep) acc/\Same H H2/\H2 D=some (.lst acc),⟨xs.length,by simp,Nat.zero_le _,.nil,ah hfree _,upd_same⟩,?_⟩;rintro i m acc H2 ⟨rfl,hi,pr,sm,hD⟩;have len:acc.length<=i:=by
  have a:=pr.length;have b:=List.length_filter_le keep (xs.take i);rw [List.length_take] at b;omega
 by_cases hlt:i < xs.length
 ·refine .inr ⟨hgo i H2 hlt sm,fun x H3 y=>?_⟩;have s3:=hy i H2 x H3 hlt y;have ht:xs.take (i+1)=xs.take i++[xs[i]]:=by rw [List.take_add_one,List.getElem?_eq_getElem hlt]; rfl
  have hD3:=s3 _ _ hD;refine hs i xs[i] x _ _ _ _ (List.getElem?_eq_getElem hlt) sm y (fun v H6 k s6 r=>?_) fun H5 k s5=>?_
  ·refine ⟨s6 _ _ hD3,Nat.lt_of_le_of_lt len (sizeBig (by omega)),xs.length - (i+1),by omega,rfl,hlt,?_,?_,upd_same⟩
   ·have m1:∀ x v,R x v H6->R x v (upd H6 D (.lst (acc++[v]))):=fun x v r=>mono x v H6 _ acc (s6 _ _ hD3) (fun b o nb q=>by rw [av nb]; exact q) r
    rw [ht,List.filter_append];have f1:[xs[i]].filter keep=[xs[i]]:=by simp [k]
    rw [f1];have lift:∀ {l:List α} {vs:List V},Paired (fun x v=>R x v H2) l vs->Paired (fun x v'=>R x v' (upd H6 D (.lst (acc++[v])))) l vs:=by
     intro l vs pp
     induction pp with
     | nil=>exact .nil
     | cons r _ ih=>exact .cons (mono _ _ H2 _ acc hD (fun b o nb q=>by rw [av nb]; exact s6 _ _ (s3 _ _ q)) r) ih
    have app:∀ {l:List α} {vs:List V} {x:α} {v':V} {F:α -> V->Prop},Paired F l vs->F x v'->Paired F (l++[x]) (vs++[v']):=by
     intro l vs x v' F pp r
     induction pp with
     | nil=>exact .cons r .nil
     | cons r' _ ih=>exact .cons r' ih
    exact app (lift pr) (m1 _ _ r)
   ·exact aK (sm.trans (s3.trans s6)) hfree
  ·refine ⟨xs.length - (i+1),by omega,rfl,hlt,?_,sm.trans (s3.trans s5),s5 _ _ hD3⟩;rw [ht,List.filter_append];have f1:[xs[i]].filter keep=[]:=by simp [k]
   rw [f1,List.append_nil];have lift:∀ {l:List α} {vs:List V},Paired (fun x v=>R x v H2) l vs->Paired (fun x v'=>R x v' H5) l vs:=by
    intro l vs pp
    induction pp with
    | nil=>exact .nil
    | cons r _ ih=>exact .cons (mono _ _ H2 _ acc hD (fun b o _ q=>s5 _ _ (s3 _ _ q)) r) ih
   exact lift pr
 ·have e:i=xs.length:=by omega
  subst e;rw [List.take_length] at pr;exact .inl ⟨hst H2 sm,hq H2 acc sm hD pr⟩
end
section
variable {X:Cx} {e:Expr} {te:TE} {pos:Pos}
theorem mW (xs:List V) (n:Nat) (h:n<=xs.length):cutV xs (some (n:Int)) none=xs.drop n:=by
 unfold cutV;have e1:HT.sIx xs.length 0 (some (n:Int))=n:=by
  simp only [HT.sIx];rw [if_neg (by omega)];omega
 have e2:HT.sIx xs.length xs.length none=xs.length:=by simp [HT.sIx]
 rw [e1,e2];rw [List.take_of_length_le (by rw [List.length_drop]; omega)]
end
section
variable {X:Cx} {o e:Expr} {to te:TE} {apos cpos:Pos}
noncomputable def cPopAt (to te:TE):TE:=fun σ H Q=>to σ H fun x H1=>match x with
 | .ref l=>(∃ xs,H1 l=some (.lst xs))/\te σ H1 fun y H2=>match y with
  | .int i=>∃ (xs:List V) (k:Nat) (v:V),i=(k:Int)/\H2 l=some (.lst xs)/\xs.length<=100000/\xs[k]? = some v/\Q v (upd H2 l (.lst (xs.eraseIdx k)))
  | _=>False
 | _=>False
theorem rG (ho:PE X o to) (he:PE X e te) (hbase:attributeBase o "pop" X.env (eval o X.env)=eval o X.env:=by rfl)
  (hfew:((backTo cpos (starEach [e] X.env)).all (fun x=>!x.1) && (backToKw cpos (keywordEach [] X.env)).all (fun x=>x.1.isSome) && decide ([e].length+([]:List Keyword).length+(if ([]:List Keyword).isEmpty then 0 else 1) < 30))=true:=by rfl)
  (hline:(apos.endLine == cpos.line)=true:=by rfl) (hs:starEach [e] X.env=(false,eval e X.env)::starEach [] X.env:=by rfl) (hplain:(backTo cpos (starEach [] X.env)).any (·.1)=false:=by rfl):
  PE X (.Call (.Attribute o "pop" apos) [e] [] cpos) (cPopAt to te):=
 (ny PySem.F.plainAttrs_list PySem.F.slot_list_pop PySem.F.type_list_pop w6 ho.mono (aa he.mono ad hs) hbase hfew hline hs hplain).imp fun σ H Q q=>⟨_,q,fun x H1 z=>by
  split at z
  ·rename_i l;obtain ⟨⟨xs,h⟩,z⟩:=z;refine ⟨.inl ⟨rfl,_,SqL.of h⟩,_,z,fun y H2 z2=>?_⟩;split at z2
   ·obtain ⟨xs2,k,v,rfl,h2,h3,h4,z3⟩:=z2;have hk:k < xs2.length:=(List.getElem?_eq_some_iff.mp h4).1;exact ⟨l,xs2,k,k,v,rfl,rfl,h2,by omega,by omega,by unfold seqIndex?; simp; omega,h4,z3⟩
   ·exact z2.elim
  ·exact z.elim⟩
theorem wJ {σ:St} {H:Hp} {Q:VK}:cPopAt to te σ H Q=to σ H fun x H1=>match x with
 | .ref l=>(∃ xs,H1 l=some (.lst xs))/\te σ H1 fun y H2=>match y with
  | .int i=>∃ (xs:List V) (k:Nat) (v:V),i=(k:Int)/\H2 l=some (.lst xs)/\xs.length<=100000/\xs[k]? = some v/\Q v (upd H2 l (.lst (xs.eraseIdx k)))
  | _=>False
 | _=>False:=rfl
end
end L2
namespace L2
open PySem PySem.Spec PyProof.Rows PySem.W
def Xt (K:Frag) (mg:Str->Option Value) (x:Str):Prop:=mg x=some (.ref (xA K x))/\typeIn K (.ref (xA K x))=some (.type "type")/\mroIn K (xA K x) (.type "BaseException")=some true
theorem Xn.t {K:Frag} {mg:Str->Option Value} {x:Str} (n:Xn K mg x):Xt K mg x:=⟨n.1,n.2.ty,n.2.mb⟩
theorem Xt.kit {K:Frag} {mg:Str->Option Value} {x y:Str} {b:Bool} (m:Xm K x y b) (n:Xt K mg y):kitOne K (.ref (xA K x)) (.ref (xA K y))=some b:=by
 obtain ⟨_,ty,mb⟩:=n;have known:(clsIn K (xA K y)).isSome=true:=by
  cases e:clsIn K (xA K y) with
  | some _=>rfl
  | none=>unfold mroIn at mb; rw [e] at mb; cases mb
 unfold kitOne;split
 ·rename_i q;cases b with
  | true=>rfl
  | false=>exact absurd (Value.ref.inj (eq_of_beq q)) (m.2 rfl)
 ·unfold kitCls;dsimp only;rw [if_pos (by rw [known,ty]; simp)];exact m.1
end L2
namespace L2
open PySem PySem.Spec PyProof.Rows
section
variable {prog:Program} {w:World} {A:Around} {s:Shared} {E:Value->Shared->Prop}
end
section
variable {X:Cx} {pins:List (Addr × Obj)} {σ:St} {H:Hp} {s:Shared}
end
theorem iL {α β:Type} {R:α -> β -> Prop}:∀ {l:List α} {m:List β},Paired R l m->∀ b ∈ m,∃ a ∈ l,R a b
 | _,_,.nil,b,h=>absurd h List.not_mem_nil
 | _,_,.cons q r,b,h=>by
  rcases List.mem_cons.mp h with e | h
  ·rw [e]; exact ⟨_,List.mem_cons_self ..,q⟩
  ·obtain ⟨a,h1,h2⟩:=iL r b h;exact ⟨a,List.mem_cons_of_mem _ h1,h2⟩
theorem cu {key:V->Nat}:∀ {xs:List V} {vs:List Value},Vals xs vs->Paired (fun (p:Int × Value) x=>p.1=key x/\RelV x p.2) ((xs.map fun x=>(key x:Int)).zip vs) xs
 | _,_,.nil=>.nil
 | _,_,.cons a r=>.cons ⟨rfl,a⟩ (cu r)
section
variable {X:Cx}
end
section
variable {X:Cx}
end
noncomputable def tupEq (H:Hp) (zs:List V) (y:V):Bool:=match y with
 | .ref t=>match H t with
  | some (.tup ys)=>eqDs (ys.map D.f) (zs.map D.f)
  | _=>false
 | _=>false
noncomputable def tupEqU (H:Hp) (zs:List V) (u:Value):Bool:=match u with
 | .ref t=>tupEq H zs (.ref t)
 | _=>false
def FlatT (H:Hp) (y:V):Prop:=∃ t ys,y=.ref t/\H t=some (.tup ys)/\ys.all flatV=true
theorem du {K:Frag} {H:Hp}:∀ {ys:List V},ys.all flatV=true->Paired (Deep K H 0) ys (ys.map D.f)
 | [],_=>.nil
 | y::ys,h=>by
  rw [List.all_cons,Bool.and_eq_true] at h;exact .cons ⟨rfl,h.1⟩ (du h.2)
theorem mV {H:Hp} {zs:List V}:∀ {xs:List V} {us:List Value},Vals xs us->(∀ y ∈ xs,FlatT H y)->us.any (tupEqU H zs)=xs.any (tupEq H zs)
 | _,_,.nil,_=>rfl
 | y::xs,u::us,.cons r t,f=>by
  obtain ⟨a,ys,rfl,_⟩:=f _ List.mem_cons_self;cases r;rw [List.any_cons,List.any_cons,mV t fun z hz=>f z (List.mem_cons_of_mem _ hz)];rfl
section
variable {X:Cx}
end
section
variable {X:Cx} {k:Nat} {x m:Str} {ps:List Str} {sp:Sp} {p pos apos:Pos} {e o:Expr} {es:List Expr} {ta:TE} {t:TA}
noncomputable def kTupL (K:Frag):List V->Hp->VK->Prop:=fun xs H Q=>match xs with
 | [.ref p]=>∃ ys,SqL K H p ys/\∀ l,H l=none->Q (.ref l) (upd H l (.tup ys))
 | _=>False
theorem v9 (K:Frag) (hK:X.K=K):CallR X (.type "tuple") (kTupL K):=by
 subst hK;intro pins s σ H xs us Q I r q;unfold kTupL at q;split at q
 ·obtain ⟨ys,h,q⟩:=q;exact oA pins s σ H _ us Q I r ⟨_,ys,rfl,.inl ⟨h,q⟩⟩
 ·exact q.elim
theorem zS {K:Frag} {p:Addr} {H:Hp} {Q:VK}:kTupL K [.ref p] H Q=∃ ys,SqL K H p ys/\∀ l,H l=none->Q (.ref l) (upd H l (.tup ys)):=rfl
end
section
variable {X:Cx}
noncomputable def kMax2:List V->Hp->VK->Prop:=fun xs H Q=>match xs with
 | [.int a,.int b]=>Q (.int (if a < b then b else a)) H
 | _=>False
noncomputable def kMin2:List V->Hp->VK->Prop:=fun xs H Q=>match xs with
 | [.int a,.int b]=>Q (.int (if b < a then b else a)) H
 | _=>False
theorem tO (hc:X.calm=true):CallR X (.builtin "max") kMax2:=by
 intro pins s σ H xs us Q I r q;unfold kMax2 at q;split at q
 ·exact vV hc pins s σ H _ us Q I r ⟨_,_,rfl,q⟩
 ·exact q.elim
theorem jT (hc:X.calm=true):CallR X (.builtin "min") kMin2:=by
 intro pins s σ H xs us Q I r q;unfold kMin2 at q;split at q
 ·exact vd hc pins s σ H _ us Q I r ⟨_,_,rfl,q⟩
 ·exact q.elim
theorem zf {a b:Int} {H:Hp} {Q:VK}:kMax2 [.int a,.int b] H Q=Q (.int (if a < b then b else a)) H:=rfl
theorem yF {a b:Int} {H:Hp} {Q:VK}:kMin2 [.int a,.int b] H Q=Q (.int (if b < a then b else a)) H:=rfl
noncomputable def cListRng2 (te tf:TE):TE:=fun σ H Q=>te σ H fun x H1=>tf σ H1 fun y H2=>match x,y with
 | .int i,.int j=>-1000<=i/\i<=1000 /\ -1000<=j/\j<=100000/\∀ p,H2 p=none->Q (.ref p) (upd H2 p (.lst ((List.range (j - i).toNat).map fun (k:Nat)=>V.int (i+k))))
 | _,_=>False
theorem qY {acc:Array Value} {n:Nat} {a:Int} (h:ItemsOf (fun i v=>∃ t,v=Value.int (a+(i:Int)*1) t) acc n):Vals ((List.range n).map fun (i:Nat)=>V.int (a+i)) acc.toList:=by
 obtain ⟨hs,hi⟩:=h;have:∀ (l:List Value) (k:Nat),(∀ (j:Nat) (v:Value),l[j]? = some v->∃ t,v=Value.int (a+((k+j:Nat):Int)) t)->Vals ((List.range' k l.length).map fun (i:Nat)=>V.int (a+i)) l:=by
  intro l
  induction l with
  | nil=>intro k _; exact .nil
  | cons v l ih=>
   intro k hv;rw [List.length_cons,List.range'_succ,List.map_cons];refine .cons ?_ (ih (k+1) fun j u hu=>?_)
   ·obtain ⟨t,e⟩:=hv 0 v rfl;exact ⟨t,by simpa using e⟩
   ·obtain ⟨t,e⟩:=hv (j+1) u (by simpa using hu);exact ⟨t,by rw [e]; congr 3; omega⟩
 have:=this acc.toList 0 fun j v hv=>by
  obtain ⟨t,e⟩:=hi j v (by simpa using hv);exact ⟨t,by rw [e]; simp⟩
 rw [Array.length_toList,hs,<- List.range_eq_range'] at this;exact this
theorem rA {e f:Expr} {te tf:TE} {p p2 pos pos2:Pos} (hc:X.calm=true) (hg:Gl X "list") (hm:X.mg "list" = none) (hg2:Gl X "range") (hm2:X.mg "range" = none) (he:PE X e te) (hf:PE X f tf)
  (hs:starEach [e,f] X.env=[(false,eval e X.env),(false,eval f X.env)]:=by rfl)
  (hs2:starEach [Expr.Call (.Name "range" p2) [e,f] [] pos2] X.env=[(false,eval (Expr.Call (.Name "range" p2) [e,f] [] pos2) X.env)]:=by rfl)
  (hs3:starEach [e,f] X.env=(false,eval e X.env)::starEach [f] X.env:=by rfl) (hs4:(backTo pos2 (starEach [f] X.env)).any (·.1)=false:=by rfl):
  PE X (.Call (.Name "list" p) [.Call (.Name "range" p2) [e,f] [] pos2] [] pos) (cListRng2 te tf):=by
 intro pins s σ H Q I h;refine wpAny_Call_Name_kw (dA I hg hm fv ?_ (by decide) (by decide));refine PyProof.Rows.callWith_type1 ?_ hs2 rfl;rw [hs2];show wpAny _ _ (spliced [(false,eval (Expr.Call (.Name "range" p2) [e,f] [] pos2) X.env)]) _ _ s;refine Calls.spliced_cons ?_;refine wpAny_Call_Name_kw (dA I hg2 hm2 boot_range ?_ (by decide) (by decide));refine PyProof.Rows.callWith_type1 ?_ hs3 hs4;rw [hs];show wpAny _ _ (spliced [(false,eval e X.env),(false,eval f X.env)]) _ _ s;refine Calls.spliced_cons (thn (he pins s σ H _ I h) fun u s1 ⟨x,H1,I1,r1,q1⟩=>Calls.spliced_cons (thn (hf pins s1 σ H1 _ I1 q1) fun u2 s2 ⟨y,H2,I2,r2,q2⟩=>Calls.spliced_nil ?_));have key:∃ i j,x=.int i/\y=.int j:=by
  cases x <;> cases y <;> first | exact ⟨_,_,rfl,rfl⟩ | exact False.elim q2
 obtain ⟨i,j,rfl,rfl⟩:=key;obtain ⟨t,ht⟩:=r1;obtain ⟨t2,ht2⟩:=r2;obtain ⟨a0,a1,a2,a3,a4⟩:=q2;subst ht;subst ht2;refine call_range_2 (Calls.spliced_nil ?_);have I3:Inv X pins σ H2 { s2 with heap:=s2.heap.push { cls:=.type "range",data:=.fields #[.int i t,.int j t2,.int 1 s2.toks] },toks:=s2.toks+1 }:=I2.kept fun b o q=>Heap.get?_push_of_some _ q
 have hsz:Builtin.Range.rangeSize i j 1=(((j - i).toNat:Nat):Int):=by rw [rangeSize_one]; split <;> omega
 refine tokQ I3.tk (call_list_range (n:=(j - i).toNat) (I.ok.hd hc) (IsRange.new ..) (small_one (by omega) (by omega) (by omega) (by omega)) hsz (by omega) fun h' tk acc c' old ho hi (htk:0 < tk)=>?_);exact ⟨.ref _,_,I3.laid (o:=.lst ((List.range (j - i).toNat).map fun (k:Nat)=>V.int (i+k))) (t':=tk) old (Nat.le_refl _) ⟨by rw [List.length_map,List.length_range,sizeLine_eq]; omega,acc.toList,c',qY hi,by simpa using ho⟩,rfl,a4 _ (I3.hok.fresh (Nat.le_refl _))⟩
theorem rz {te tf:TE} {σ:St} {H:Hp} {Q:VK}:cListRng2 te tf σ H Q=te σ H fun x H1=>tf σ H1 fun y H2=>match x,y with
 | .int i,.int j=>-1000<=i/\i<=1000 /\ -1000<=j/\j<=100000/\∀ p,H2 p=none->Q (.ref p) (upd H2 p (.lst ((List.range (j - i).toNat).map fun (k:Nat)=>V.int (i+k))))
 | _,_=>False:=rfl
end
section
variable {X:Cx} {a b c:Expr} {ta tb tc:TE} {pos:Pos}
theorem yP {te:TE} {σ:St} {H:Hp} {Q:Bool->Hp->Prop}:tTest te σ H Q=te σ H fun z H3=>∃ k,z=.bl k/\Q k H3:=rfl
end
section
variable {K:Frag} {α:Type} {xs:List α} {item:α -> V} {h:α -> List V} {H:Hp} {D:Addr} {σc:St} {Q:VK}
end
end L2
namespace L2
open PySem
section
variable {K:Frag} {h:Heap} {mg:Str->Option Value} {x m qual:Str} {C f:Addr} {fd:FuncData} {st:Stmt}
end
end L2
namespace L2
open PySem PySem.Spec PyProof.Rows
section
variable {X:Cx} {o e f:Expr} {to te tf:TE} {apos cpos:Pos}
noncomputable def insAt (xs:List V) (k:Nat) (y:V):List V:=xs.take k++y::xs.drop k
noncomputable def rInsert:V->List V->Hp->VK->Prop:=fun x vs H Q=>∃ (l:Addr) (xs:List V) (i:Int) (k:Nat) (y:V),x=.ref l/\vs=[.int i,y]/\i=(k:Int)/\H l=some (.lst xs)/\k<=xs.length/\xs.length < 100000/\Q .non (upd H l (.lst (insAt xs k y)))
theorem yY (l:List Value) (k:Nat) (y:Value):(l.toArray.extract 0 k).push y++l.toArray.extract k=(l.take k++y::l.drop k).toArray:=by
 apply Array.toList_inj.mp;have:(l.drop k).take (l.length - k)=l.drop k:=List.take_of_length_le (by simp);simp [this]
theorem wf:MtM X "list.insert" rInsert:=by
 intro pins s σ H x vs v us Q I rx rv h;obtain ⟨l,xs,i,k,y,rfl,rfl,hi,hH,hk,hz,q⟩:=h;cases rx;obtain ⟨u,u2,rfl,ru,ru2⟩:=Vals.two rv;obtain ⟨t,rfl⟩:=ru;obtain ⟨z,its,n,r,hl,e⟩:=I.lstM hH;have hb:=big5;have h1:-(2 ^ 63)<=i:=by rw [hi]; exact Int.le_trans (by decide) (Int.natCast_nonneg k)
 have h2:i < 2 ^ 63:=by rw [hi]; exact Int.lt_of_le_of_lt (Int.ofNat_le.mpr (Nat.le_trans hk (Nat.le_of_lt hz))) (by decide)
 have h3:¬(!Builtin.List.listFitsIndex i)=true:=by rw [show Builtin.List.listFitsIndex i=true from fitsIndex_both h1 h2]; decide
 have h4:its.toArray.size<=sizeLine:=by rw [List.size_toArray]; omega
 refine call_meets F.slot_list_insert ⟨_,e,rfl⟩ F.entry_list_insert (F.args_list_insert_3 _ _ _) (AutoSeq1.list_insert_list_int_val_1 l its.toArray n i t u2 h3 h4) ⟨e,?_⟩;refine ⟨.non,_,I.lset (its':=its.take k++u2::its.drop k) hH e ?_ ((r.take k).append (.cons ru2 (r.drop k))) ?_,rfl,q⟩
 ·show (its.toArray.extract 0 (if i < 0 then (i+(its.toArray.size:Int)).toNat else min i.toNat its.toArray.size)).push u2++its.toArray.extract (if i < 0 then (i+(its.toArray.size:Int)).toNat else min i.toNat its.toArray.size)=_;rw [if_neg (by omega),show min i.toNat its.toArray.size=k by rw [List.size_toArray]; omega,yY]
 ·rw [List.length_append,List.length_cons,List.length_take,List.length_drop];omega
noncomputable def cInsert (to te tf:TE):TE:=fun σ H Q=>to σ H fun x H1=>match x with
 | .ref l=>(∃ xs,H1 l=some (.lst xs))/\te σ H1 fun y H2=>tf σ H2 fun z H3=>match y with
  | .int i=>∃ (xs:List V) (k:Nat),i=(k:Int)/\H3 l=some (.lst xs)/\k<=xs.length/\xs.length < 100000/\Q .non (upd H3 l (.lst (insAt xs k z)))
  | _=>False
 | _=>False
theorem oX (ho:PE X o to) (he:PE X e te) (hf:PE X f tf) (hbase:attributeBase o "insert" X.env (eval o X.env)=eval o X.env:=by rfl)
  (hfew:((backTo cpos (starEach [e,f] X.env)).all (fun x=>!x.1) && (backToKw cpos (keywordEach [] X.env)).all (fun x=>x.1.isSome) && decide ([e,f].length+([]:List Keyword).length+(if ([]:List Keyword).isEmpty then 0 else 1) < 30))=true:=by rfl)
  (hline:(apos.endLine == cpos.line)=true:=by rfl) (hs:starEach [e,f] X.env=(false,eval e X.env)::starEach [f] X.env:=by rfl) (hs2:starEach [f] X.env=(false,eval f X.env)::starEach [] X.env:=by rfl) (hplain:(backTo cpos (starEach [f] X.env)).any (·.1)=false:=by rfl):PE X (.Call (.Attribute o "insert" apos) [e,f] [] cpos) (cInsert to te tf):=
 (ny PySem.F.plainAttrs_list PySem.F.slot_list_insert PySem.F.type_list_insert wf ho.mono (aa he.mono (aa hf.mono ad hs2) hs) hbase hfew hline hs hplain).imp fun σ H Q q=>⟨_,q,fun x H1 z=>by
  split at z
  ·rename_i l;obtain ⟨⟨xs,h⟩,z⟩:=z;refine ⟨.inl ⟨rfl,_,SqL.of h⟩,_,z,fun y H2 z2=>⟨_,z2,fun w H3 z3=>?_⟩⟩;split at z3
   ·obtain ⟨xs2,k,rfl,h2,h3,h4,z4⟩:=z3;exact ⟨l,xs2,_,k,w,rfl,rfl,rfl,h2,h3,h4,z4⟩
   ·exact z3.elim
  ·exact z.elim⟩
theorem vB {σ:St} {H:Hp} {Q:VK}:cInsert to te tf σ H Q=to σ H fun x H1=>match x with
 | .ref l=>(∃ xs,H1 l=some (.lst xs))/\te σ H1 fun y H2=>tf σ H2 fun z H3=>match y with
  | .int i=>∃ (xs:List V) (k:Nat),i=(k:Int)/\H3 l=some (.lst xs)/\k<=xs.length/\xs.length < 100000/\Q .non (upd H3 l (.lst (insAt xs k z)))
  | _=>False
 | _=>False:=rfl
noncomputable def kAll (K:Frag):List V->Hp->VK->Prop:=fun xs H Q=>match xs with
 | [.ref p]=>∃ bs:List Bool,SqL K H p (bs.map V.bl)/\Q (.bl (bs.all id)) H
 | _=>False
theorem wk (K:Frag) (hK:X.K=K) (hc:X.calm=true):CallR X (.builtin "all") (kAll K):=by
 subst hK;intro pins s σ H xs us Q I r q;unfold kAll at q;split at q
 ·rename_i p;obtain ⟨bs,hq,q⟩:=q;obtain ⟨u,rfl,ru⟩:=vals1 r;cases ru;obtain ⟨its,rv,pl,_⟩:=I.list hq;obtain rfl:=sU rv;have hl:s.heap.IsList p (bs.map Value.bool).toArray:=pl.isList;have hp:p < s.heap.objs.size:=by obtain ⟨o,ho,_⟩:=hl; exact Heap.lt_size ho
  refine tokQ I.tk (call_all_walk (wpAny_pyIter_list hl ?_));refine ⟨_,_,_,_,_,_,fun i=>(bs[i]?).getD true,rfl,Walks.list (A:=X.A.in1) (I.ok.hd hc) _ p (Nat.ne_of_lt hp) (bs.map Value.bool).toArray,⟨⟨_,Heap.get?_push_size _ rfl,rfl,rfl⟩,hl.push _⟩,?_,fun h' tk k (htk:0 < tk)=>?_⟩
  ·intro i v s' Q' E' hP hQ';have hi:bs[i]?.map Value.bool=some v:=by simpa using hP
   cases hb:bs[i]? with
   | none=>rw [hb] at hi; cases hi
   | some b=>
    have e:(fun i=>(bs[i]?).getD true) i=b:=by simp [hb]
    rw [e] at hQ';rw [hb] at hi;cases hi;exact wpAny_truthy_bool hQ'
  ·have e:((List.range (bs.map Value.bool).toArray.size).all fun i=>(bs[i]?).getD true)=bs.all id:=by
    simp only [List.size_toArray,List.length_map];rw [Bool.eq_iff_iff,List.all_eq_true,List.all_eq_true];constructor
    ·intro h b hb;obtain ⟨i,hi,rfl⟩:=List.getElem_of_mem hb;have:=h i (by simpa using hi);rw [List.getElem?_eq_getElem hi] at this;exact this
    ·intro h i hi;have hi:i < bs.length:=by simpa using hi
     rw [List.getElem?_eq_getElem hi];exact h _ (List.getElem_mem hi)
   rw [e];refine ⟨.bl _,H,I.kept (fun b o q=>k b o ?_ (Heap.get?_push_of_some _ q)),rfl,q⟩;intro z;have:=Heap.lt_size q;rw [List.mem_singleton.mp z] at this;exact Nat.lt_irrefl _ this
 ·exact q.elim
theorem Av {K:Frag} {p:Addr} {H:Hp} {Q:VK}:kAll K [.ref p] H Q=∃ bs:List Bool,SqL K H p (bs.map V.bl)/\Q (.bl (bs.all id)) H:=rfl
noncomputable def kStr:List V->Hp->VK->Prop:=fun xs H Q=>match xs with
 | [.int i]=>(i=0\/i=1)/\Q (.str (st [48+i.toNat])) H
 | _=>False
theorem oR:CallR X (.type "str") kStr:=by
 intro pins s σ H xs us Q I r q;unfold kStr at q;split at q
 ·rename_i i;obtain ⟨hi,q⟩:=q;obtain ⟨u,rfl,t,rfl⟩:=vals1 r;refine P.str_of_int ?_ ⟨.str (st [48+i.toNat]),H,I.tok _,⟨s.toks,?_⟩,q⟩
  ·rcases hi with rfl | rfl <;> decide
  ·rcases hi with rfl | rfl
   ·exact congrArg (Value.str · s.toks) (by decide +kernel)
   ·exact congrArg (Value.str · s.toks) (by decide +kernel)
 ·exact q.elim
theorem AN {i:Int} {H:Hp} {Q:VK}:kStr [.int i] H Q=((i=0\/i=1)/\Q (.str (st [48+i.toNat])) H):=rfl
end
section
variable {X:Cx} {e:Expr} {te:TE} {lo hi:Option Expr} {st:Expr} {tl th ts:TO} {p2 pos:Pos}
end
def Rise (xs:Array Nat):Prop:=∀ a b,a < b->∀ (hb:b < xs.size) (ha:a < xs.size),xs[a] < xs[b]
theorem nL {xs:Array Nat} {j:Nat} (hr:Rise xs):∀ (fuel lo hi:Nat),hi - lo<=fuel->lo<=hi->hi<=xs.size->(∀ i (h:i < xs.size),i < lo->xs[i] < j)->(∀ i (h:i < xs.size),hi<=i->j<=xs[i]) ->
  SetTable.below.go xs j fuel lo hi<=xs.size/\(∀ i (h:i < xs.size),i < SetTable.below.go xs j fuel lo hi->xs[i] < j)/\(∀ i (h:i < xs.size),SetTable.below.go xs j fuel lo hi<=i->j<=xs[i])
 | 0,lo,hi,hf,h1,h2,h3,h4=>by
  have:lo=hi:=by omega
  subst this;unfold SetTable.below.go;exact ⟨h2,h3,h4⟩
 | fuel+1,lo,hi,hf,h1,h2,h3,h4=>by
  unfold SetTable.below.go;by_cases hlt:lo < hi
  ·rw [if_pos hlt];have hm:(lo+hi) / 2 < xs.size:=by omega
   have hg:xs.getD ((lo+hi) / 2) j=xs[(lo+hi) / 2]:=by simp [hm]
   simp only [hg];by_cases hx:xs[(lo+hi) / 2] < j
   ·rw [if_pos hx];refine nL hr fuel _ hi (by omega) (by omega) h2 (fun i h hi'=>?_) h4;rcases Nat.lt_or_ge i ((lo+hi) / 2) with z | z
    ·exact Nat.lt_trans (hr i _ z hm h) hx
    ·obtain rfl:i=(lo+hi) / 2:=by omega
     exact hx
   ·rw [if_neg hx];refine nL hr fuel lo _ (by omega) (by omega) (by omega) h3 (fun i h hi'=>?_);rcases Nat.lt_or_ge ((lo+hi) / 2) i with z | z
    ·have:=hr _ i z h hm;omega
    ·obtain rfl:i=(lo+hi) / 2:=by omega
     omega
  ·rw [if_neg hlt];obtain rfl:lo=hi:=by omega
   exact ⟨h2,h3,h4⟩
theorem mv {xs:Array Nat} (hr:Rise xs) (j:Nat):SetTable.below xs j<=xs.size/\(∀ i (h:i < xs.size),i < SetTable.below xs j->xs[i] < j)/\(∀ i (h:i < xs.size),SetTable.below xs j<=i->j<=xs[i]):=by
 unfold SetTable.below;exact nL hr xs.size 0 xs.size (by omega) (by omega) (Nat.le_refl _) (fun i _ h=>absurd h (by omega)) (fun i h z=>absurd h (by omega))
theorem ya {xs:Array Nat} (hr:Rise xs) {i:Nat} (h:i < xs.size):SetTable.below xs (xs[i]+1)=i+1:=by
 obtain ⟨b0,b1,b2⟩:=mv hr (xs[i]+1);rcases Nat.lt_trichotomy (SetTable.below xs (xs[i]+1)) (i+1) with z | z | z
 ·have:=b2 i h (by omega);omega
 ·exact z
 ·have h1:i+1 < xs.size:=by omega
  have:=b1 (i+1) h1 z;have:=hr i (i+1) (by omega) h1 h;omega
theorem uq {xs:Array Nat} (hr:Rise xs):SetTable.below xs 0=0:=by
 obtain ⟨b0,b1,b2⟩:=mv hr 0;rcases Nat.eq_zero_or_pos (SetTable.below xs 0) with z | z
 ·exact z
 ·exact absurd (b1 0 (by omega) z) (by omega)
theorem o0 {xs:Array Nat}:Rise xs ↔ xs.toList.Pairwise (· < ·):=by
 rw [List.pairwise_iff_getElem];constructor
 ·intro h a b ha hb hab;have:=h a b hab (by simpa using hb) (by simpa using ha);simpa using this
 ·intro h a b hab hb ha;have:=h a b (by simpa using ha) (by simpa using hb) hab;simpa using this
theorem rO {xs:Array Nat} (hr:Rise xs) {j:Nat} (hj:¬ xs[SetTable.below xs j]? = some j):Rise (SetTable.insertAt xs (SetTable.below xs j) j):=by
 obtain ⟨b0,b1,b2⟩:=mv hr j;generalize SetTable.below xs j=p at *;have hlt:∀ i (h:i < xs.size),p<=i->j < xs[i]:=fun i h z=>by
  have h0:=b2 i h z;rcases Nat.lt_or_ge j xs[i] with q | q
  ·exact q
  ·exfalso;have e:xs[i]=j:=by omega
   rcases Nat.lt_or_ge p i with z2 | z2
   ·have hp:p < xs.size:=by omega
    have:=hr p i z2 h hp;have:=b2 p hp (Nat.le_refl _);omega
   ·obtain rfl:i=p:=by omega
    exact hj (by rw [Array.getElem?_eq_getElem h,e])
 have hl:=o0.mp hr;rw [o0,SetTable.toList_insertAt];have A:∀ a ∈ xs.toList.take p,a < j:=fun a ha=>by
  obtain ⟨i,hi,rfl⟩:=List.mem_take_iff_getElem.mp ha;have:=b1 i (by simp at hi; omega) (by omega);simpa using this
 have B:∀ b ∈ xs.toList.drop p,j < b:=fun b hb=>by
  obtain ⟨i,hi,rfl⟩:=List.mem_drop_iff_getElem.mp hb;have:=hlt (p+i) (by simp at hi; omega) (by omega);simpa using this
 have hl':=hl;rw [<- List.take_append_drop p xs.toList,List.pairwise_append] at hl';refine List.pairwise_append.mpr ⟨hl'.1,List.pairwise_cons.mpr ⟨B,hl'.2.1⟩,fun a ha b hb=>?_⟩;rcases List.mem_cons.mp hb with rfl | hb
 ·exact A a ha
 ·exact Nat.lt_trans (A a ha) (B b hb)
def Laid0 (t:SetTable):Prop:=Rise t.place/\t.dummies=#[]
theorem uW (j:Nat):SetTable.has #[] j=false:=by
 unfold SetTable.has;simp
theorem nA {t:SetTable} (h0:t.dummies=#[]) (f:Nat->Int) (h:Int):∀ (n:Nat) (p:SetTable.Probe) (j:Nat) (d:Option Nat),p.dummy=none->SetTable.probe.go t f h n p=some (.empty j d)->d=none/\¬ t.place[SetTable.below t.place j]? = some j
 | 0,p,j,d,_,e=>by simp [SetTable.probe.go] at e
 | n+1,p,j,d,hp,e=>by
  unfold SetTable.probe.go at e;have hs:t.slot p.j=if t.place[SetTable.below t.place p.j]? == some p.j then .live (SetTable.below t.place p.j) else .empty:=by
   unfold SetTable.slot;rw [h0,uW];rfl
  rw [hs] at e;by_cases z:t.place[SetTable.below t.place p.j]? = some p.j
  ·rw [if_pos (by rw [z]; exact beq_self_eq_true _)] at e;dsimp only at e;split at e
   ·cases e
   ·refine nA h0 f h n _ j d ?_ e;unfold SetTable.advance;split
    ·exact hp
    ·exact hp
  ·rw [if_neg (by simpa using z)] at e;dsimp only at e;injection e with e
   injection e with e1 e2
   subst e1 e2;exact ⟨hp,z⟩
theorem tZ (n:Nat):Rise (Array.range n):=fun a b h hb ha=>by simpa using h
theorem dD (t:SetTable) (n:Nat):Laid0 (t.standIn n):=⟨tZ n,rfl⟩
theorem xU {t:SetTable} (h:Laid0 t) (n:Nat):Laid0 (t.orStandIn n):=by
 unfold SetTable.orStandIn;split
 ·exact h
 ·exact dD t n
theorem vE {t:SetTable} (L:Laid0 t) (es:Array (Int × Value)) (h:Int) (x:Value):Laid0 (layNew t es h x).2.1:=by
 unfold layNew;split
 ·rename_i slot wd e;refine xU ?_ _;unfold SetTable.freeSlot at e;split at e
  ·rename_i j d e2;obtain ⟨rfl,hj⟩:=nA L.2 _ h _ _ j d rfl e2;cases e;refine ⟨rO L.1 hj,?_⟩;show (if SetTable.has t.dummies _ then _ else t.dummies)=#[];rw [L.2,uW];rfl
  ·cases e
 ·exact dD t _
theorem tF {mask finger moves:Nat} {led plain:Bool} {hs:Array Int} {r:SetTable × Array Nat} (h:SetTable.laid mask finger moves led plain hs=some r):Laid0 r.1:=by
 unfold SetTable.laid at h;cases q:SetTable.layClean mask hs with
 | none=>rw [q] at h; cases h
 | some ow=>
  rw [q] at h;cases h;refine ⟨?_,rfl⟩;have:(((List.range (mask+1)).filterMap fun j=>(ow.getD j none).map (j,·)).map (·.1)).Pairwise (· < ·):=by
   rw [List.pairwise_map,List.pairwise_filterMap];refine List.pairwise_lt_range.imp fun {a b} hab x hx y hy=>?_
   obtain ⟨_,_,rfl⟩:=Option.map_eq_some_iff.mp hx;obtain ⟨_,_,rfl⟩:=Option.map_eq_some_iff.mp hy;exact hab
  intro a b hab hb ha;have:=List.pairwise_iff_getElem.mp this a b (by simpa using ha) (by simpa using hb) hab;simpa using this
theorem lC {t:SetTable} (es:Array (Int × Value)) (n:Nat):Laid0 (relayAll t es n).2.1:=by
 unfold relayAll;split
 ·rename_i t' order e;have q:=tF e;dsimp only;split
  ·exact q
  ·exact dD t _
 ·exact dD t _
noncomputable def intOf:Value->Int
 | .int x _=>x
 | _=>0
def IsInts (w:World) (h:Heap) (a:Addr) (led:Bool) (ss:List Int):Prop:=
 ∃ es ep t,h.get? a=some { cls:=.type "set",dict:=none,data:=.set es ep t,slots:=#[] }/\(∀ e ∈ es.toList,∃ x u,e=(hashInt x,Value.int x u)) /\
  (es.toList.map fun e=>intOf e.2).Perm ss/\t.fits es.size=true/\t.led=led/\Laid0 t
section
variable {prog:Program} {w:World} {A:Around} {E:Value->Shared->Prop} {s:Shared}
theorem jL (x:Int) (u:Tok):Value.isInt x (Value.int x u)=true:=by simp [Value.isInt]
theorem uo {es:Array (Int × Value)} (h:∀ e ∈ es.toList,∃ x u,e=(hashInt x,Value.int x u)):ElemsOf (PySem.intKind prog w) es.toList:=fun e he=>by
 obtain ⟨x,u,rfl⟩:=h e he;exact ⟨⟨x,jL x u,rfl⟩,rfl⟩
theorem wm {es:List (Int × Value)} (h:∀ e ∈ es,∃ x u,e=(hashInt x,Value.int x u)) (x:Int):
  (es.findIdx? fun e=>(PySem.intKind prog w).is x e.2)=none ↔ x ∉ es.map fun e=>intOf e.2:=by
 rw [List.findIdx?_eq_none_iff];constructor
 ·intro q hm;obtain ⟨e,he,rfl⟩:=List.mem_map.mp hm;obtain ⟨y,u,rfl⟩:=h e he;have:=q _ he;rw [show (PySem.intKind prog w).is (intOf (hashInt y,Value.int y u).2) (hashInt y,Value.int y u).2=true from jL y u] at this;cases this
 ·intro q e he;obtain ⟨y,u,rfl⟩:=h e he;cases hb:(PySem.intKind prog w).is x (Value.int y u) with
  | false=>rfl
  | true=>
   have e2:y=x:=by
    obtain ⟨t,q⟩:=Value.isInt_shape (v:=Value.int y u) hb;injection q
   exact absurd (List.mem_map.mpr ⟨_,he,by rw [<- e2]; rfl⟩) q
noncomputable def addI (ss:List Int) (x:Int):List Int:=if x ∈ ss then ss else ss++[x]
theorem add_int {a:Addr} {led:Bool} {ss:List Int} {x:Int} {u:Tok} {Q:Bool->Shared->Prop} (hS:IsInts w s.heap a led ss) (room:ss.length+1 < scanBound)
  (h:∀ h' b,Heap.SameBut a s.heap h'->IsInts w h' a led (addI ss x)->Q b { s with heap:=h' }):
  wpAny (model prog w) A (setAddHashed a (.int x u) (hashInt x)) Q E s:=by
 obtain ⟨es,ep,t,ho,hel,hp,hf,hl,hL⟩:=hS;have hE:=uo (prog:=prog) (w:=w) hel;have hk:(PySem.intKind prog w).is x (Value.int x u)=true:=jL x u;have hsz:es.size=ss.length:=by have:=hp.length_eq; simpa using this
 have hb:es.size < scanBound:=by omega
 unfold setAddHashed setAddHashedIn;refine wpAny_holding (wpAny_bind (wpAny_setState_of ho rfl hf ?_));dsimp only;rw [byScan_of (knd:=PySem.intKind prog w) rfl hb hE,if_pos rfl];unfold setAddByScan;refine wpAny_bind (wpAny_bind (wpAny_rule (wpAny_bind (wpAny_setScan_of (knd:=PySem.intKind prog w) hk ho rfl hf hE ?_))));have hfind:=wm (prog:=prog) (w:=w) hel x;cases hr:es.toList.findIdx? (fun e=>(PySem.intKind prog w).is x e.2) with
 | some j=>
  have hin:x ∈ ss:=by
   rw [<- hp.mem_iff];apply Classical.byContradiction;intro z;rw [hfind.mpr z] at hr;cases hr
  refine wpAny_pure (wpAny_pure ?_);have:=h s.heap false (Heap.SameBut.refl a s.heap) ⟨es,ep,t,ho,hel,by unfold addI; rw [if_pos hin]; exact hp,hf,hl,hL⟩;exact this
 | none=>
  have hin:x ∉ ss:=by
   rw [<- hp.mem_iff];exact hfind.mp hr
  dsimp only;have p1:=layNew_perm t es (hashInt x) (Value.int x u);have p2:=layNew_fits t es (hashInt x) (Value.int x u);have p3:=tU t es (hashInt x) (Value.int x u);have p4:=vE hL es (hashInt x) (Value.int x u);generalize layNew t es (hashInt x) (Value.int x u)=L at p1 p2 p3 p4 ⊢;obtain ⟨es1,t1,wd,gave⟩:=L;dsimp only at p1 p2 p3 p4 ⊢;rw [Array.toList_push] at p1;have hel1:∀ e ∈ es1.toList,∃ x u,e=(hashInt x,Value.int x u):=fun e he=>by
   rcases List.mem_append.mp (p1.mem_iff.mp he) with q | q
   ·exact hel e q
   ·rw [List.mem_singleton.mp q]; exact ⟨x,u,rfl⟩
  have hp1:(es1.toList.map fun e=>intOf e.2).Perm (addI ss x):=by
   refine (p1.map _).trans ?_;unfold addI;rw [if_neg hin,List.map_append];exact hp.append_right _
  have hz1:es1.size=ss.length+1:=by
   have:=p1.length_eq;simp only [Array.length_toList,List.length_append,List.length_singleton] at this;omega
  have gw:∀ (b:Bool) (s₁:Shared) (Q':Unit->Shared->Prop),Q' () s₁ -> wpAny (model prog w) A (match b with | true=>rule "set.scan.the-table-gave-way" | false=>pure ()) Q' E s₁:=fun b s₁ Q' q=>by
   cases b
   ·exact wpAny_pure q
   ·exact wpAny_rule q
  refine wpAny_bind (gw _ _ _ ?_);split
  ·refine wpAny_bind ?_;rw [hashByValue_scannable 8 (x:=Value.int x u) rfl];refine wpAny_pure ?_;have pk:plainKind (Value.int x u)=true:=rfl;simp only [pk,↓reduceIte];obtain ⟨t2,et,f2,l2,L2'⟩:∃ t2:SetTable,t2=t1/\t2.fits es1.size=true/\t2.led=led/\Laid0 t2:=⟨_,rfl,p2,p3.1.trans hl,p4⟩;rw [<- et];refine wpAny_bind (wpAny_storeSet_of ho rfl ?_ (fits_of_scanBound (by omega)));have o1:=mj (es':=es1) (t':=t2) ho;have sb1:=Heap.SameBut.update s.heap a (Obj.putSet es1 t2);refine wpAny_ite_split (fun _=>?_) fun _=>?_
   ·have q1:=relayAll_perm t2 es1 (SetTable.grown es1.size);have q2:=relayAll_fits t2 es1 (SetTable.grown es1.size);have q3:=px t2 es1 (SetTable.grown es1.size);have q4:=lC (t:=t2) es1 (SetTable.grown es1.size);generalize relayAll t2 es1 (SetTable.grown es1.size)=R at q1 q2 q3 q4 ⊢;obtain ⟨es2,t3,g2⟩:=R;dsimp only at q1 q2 q3 q4 ⊢;have z2:es2.size=es1.size:=by have:=q1.length_eq; simpa using this
    refine wpAny_bind (gw _ _ _ ?_);refine wpAny_bind (wpAny_storeSet_of o1 rfl ?_ (fits_of_scanBound (by omega)));have o2:=mj (s:={ s with heap:=s.heap.update a (Obj.putSet es1 t2) }) (es':=es2) (t':=t3) o1;exact wpAny_pure (wpAny_pure (h _ _ (sb1.trans (Heap.SameBut.update _ a _)) ⟨es2,_,t3,o2,fun e he=>hel1 e (q1.mem_iff.mp he),(q1.map _).trans hp1,q2,q3.1.trans l2,q4⟩))
   ·exact wpAny_pure (wpAny_pure (h _ _ sb1 ⟨es1,_,t2,o1,hel1,hp1,f2,l2,L2'⟩))
  ·rename_i np;refine wpAny_bind (wpAny_pure ?_);simp only [↓reduceIte];obtain ⟨t2,et,f2,l2,L2'⟩:∃ t2:SetTable,t2=t1/\t2.fits es1.size=true/\t2.led=led/\Laid0 t2:=⟨_,rfl,p2,p3.1.trans hl,p4⟩;rw [<- et];refine wpAny_bind (wpAny_storeSet_of ho rfl ?_ (fits_of_scanBound (by omega)));have o1:=mj (es':=es1) (t':=t2) ho;have sb1:=Heap.SameBut.update s.heap a (Obj.putSet es1 t2);refine wpAny_ite_split (fun _=>?_) fun _=>?_
   ·have q1:=relayAll_perm t2 es1 (SetTable.grown es1.size);have q2:=relayAll_fits t2 es1 (SetTable.grown es1.size);have q3:=px t2 es1 (SetTable.grown es1.size);have q4:=lC (t:=t2) es1 (SetTable.grown es1.size);generalize relayAll t2 es1 (SetTable.grown es1.size)=R at q1 q2 q3 q4 ⊢;obtain ⟨es2,t3,g2⟩:=R;dsimp only at q1 q2 q3 q4 ⊢;have z2:es2.size=es1.size:=by have:=q1.length_eq; simpa using this
    refine wpAny_bind (gw _ _ _ ?_);refine wpAny_bind (wpAny_storeSet_of o1 rfl ?_ (fits_of_scanBound (by omega)));have o2:=mj (s:={ s with heap:=s.heap.update a (Obj.putSet es1 t2) }) (es':=es2) (t':=t3) o1;exact wpAny_pure (wpAny_pure (h _ _ (sb1.trans (Heap.SameBut.update _ a _)) ⟨es2,_,t3,o2,fun e he=>hel1 e (q1.mem_iff.mp he),(q1.map _).trans hp1,q2,q3.1.trans l2,q4⟩))
   ·exact wpAny_pure (wpAny_pure (h _ _ sb1 ⟨es1,_,t2,o1,hel1,hp1,f2,l2,L2'⟩))
end
noncomputable def dI (l:List Int):List Int:=l.foldl addI []
theorem xO (ss:List Int) (x:Int):(addI ss x).length<=ss.length+1:=by
 unfold addI;split <;> simp
theorem zj {l:List Int} {i:Nat} {x:Int} (h:l[i]? = some x):dI (l.take (i+1))=addI (dI (l.take i)) x:=by
 unfold dI;rw [List.take_add_one,h,List.foldl_append];rfl
theorem mO (l:List Int):∀ ss:List Int,(l.foldl addI ss).length<=ss.length+l.length:=by
 induction l with
 | nil=>intro ss; simp
 | cons x l ih=>
  intro ss;have h1:=ih (addI ss x);have h2:=xO ss x;simp only [List.foldl_cons,List.length_cons];omega
theorem wH (l:List Int):(dI l).length<=l.length:=by
 have:=mO l [];simpa [dI] using this
theorem wB {ss:List Int} {x y:Int}:y ∈ addI ss x ↔ y ∈ ss\/y=x:=by
 unfold addI;split
 ·rename_i h;exact ⟨.inl,fun q=>q.elim id fun e=>e ▸ h⟩
 ·simp
theorem mT (l:List Int):∀ (ss:List Int) (y:Int),y ∈ l.foldl addI ss ↔ y ∈ ss\/y ∈ l:=by
 induction l with
 | nil=>intro ss y; simp
 | cons x l ih=>
  intro ss y;rw [List.foldl_cons,ih,wB,List.mem_cons];exact ⟨fun q=>q.elim (fun z=>z.elim .inl fun e=>.inr (.inl e)) fun z=>.inr (.inr z),fun q=>q.elim (fun z=>.inl (.inl z)) fun z=>z.elim (fun e=>.inl (.inr e)) .inr⟩
theorem AS {l:List Int} {y:Int}:y ∈ dI l ↔ y ∈ l:=by
 unfold dI;rw [mT];simp
theorem tE {ss:List Int} (h:ss.Nodup) (x:Int):(addI ss x).Nodup:=by
 unfold addI;split
 ·exact h
 ·rename_i n;rw [List.nodup_append];exact ⟨h,by simp,fun a ha b hb=>by rw [List.mem_singleton.mp hb]; exact fun e=>n (e ▸ ha)⟩
theorem k9 (l:List Int):∀ ss:List Int,ss.Nodup->(l.foldl addI ss).Nodup:=by
 induction l with
 | nil=>intro ss h; exact h
 | cons x l ih=>intro ss h; exact ih _ (tE h x)
theorem wL (l:List Int):(dI l).Nodup:=k9 l [] List.nodup_nil
theorem IsInts.at {w:World} {h h':Heap} {a:Addr} {led:Bool} {ss:List Int} (x:IsInts w h a led ss) (k:∀ o,h.get? a=some o->h'.get? a=some o):IsInts w h' a led ss:=by
 obtain ⟨es,ep,t,ho,r⟩:=x;exact ⟨es,ep,t,k _ ho,r⟩
section
variable {prog:Program} {w:World} {A:Around} {R:Result->Shared->Prop} {I:Addr} {fp wr:List Addr} {G:Array GenState->Array GenState->Prop} {n:Nat} {P:Nat->Value->Prop} {St:Nat->Shared->Prop}
theorem vA (W:WalksS prog w A.in1 I fp wr G n P St) (S:Addr) (hSf:S ∉ fp) (ss:List Int) (led:Bool) (hn:ss.length=n)
  (hval:∀ i v,P i v->∃ x t,ss[i]? = some x/\v=.int x t) (hb:n+1 < scanBound):
  ∀ (k i:Nat) (s:Shared),n - i=k->i<=n->St i s->IsInts w s.heap S led (dI (ss.take i)) ->
   (∀ s',Moved (S::wr) G s s'->IsInts w s'.heap S led (dI ss)->R (.ok (.ret .none)) s') ->
   codeAny (model prog w) A (.builtin "set.update.loop" ⟨[.ref S,.ref I],[]⟩) R s:=by
 have hSw:S ∉ wr:=fun h=>hSf (W.sub _ h)
 have up:∀ b ∈ wr,b ∈ S::wr:=fun b hb=>List.mem_cons_of_mem _ hb
 intro k
 induction k with
 | zero=>
  intro i s hk hi hst hS hR;obtain rfl:i=n:=by omega
  refine codeAny_builtin PyProof.Rows.F.entry_set_update_loop ?_;rw [Around.under_plainId PyProof.Rows.F.plain_set_update_loop _];show wpAny _ A.in1 (pyNext (.ref I)>>=_) _ _ s;refine wpAny_bind (W.done s _ _ hst fun s' hm=>?_);rw [List.take_of_length_le (Nat.le_of_eq hn)] at hS;exact wpAny_pure (hR s' (hm.mono up) (hS.at fun o e=>hm.heap S o hSw e))
 | succ k ih=>
  intro i s hk hi hst hS hR;have hlt:i < n:=by omega
  refine codeAny_builtin PyProof.Rows.F.entry_set_update_loop ?_;rw [Around.under_plainId PyProof.Rows.F.plain_set_update_loop _];show wpAny _ A.in1 (pyNext (.ref I)>>=_) _ _ s;refine wpAny_bind (W.item i s _ _ hlt hst fun v s' hP hst' hm=>?_);obtain ⟨x,t,hx,rfl⟩:=hval i v hP;have hS':IsInts w s'.heap S led (dI (ss.take i)):=hS.at fun o e=>hm.heap S o hSw e
  show wpAny _ A.in1 (holding [Value.int x t] (setAdd S (.int x t))>>=_) _ _ s';refine wpAny_bind (wpAny_holding ?_);unfold setAdd;refine wpAny_holding (wpAny_bind (wpAny_pyHash_int ?_));have hroom:(dI (ss.take i)).length+1 < scanBound:=by
   have h1:=wH (ss.take i);rw [List.length_take] at h1;omega
  refine add_int (s:={ s' with toks:=s'.toks+1 }) hS' hroom fun h' b hsb hS2=>?_
  rw [<- zj hx] at hS2;refine wpAny_pure ⟨plainId_quiet PyProof.Rows.F.plain_set_update_loop _,ih (i+1) _ (by omega) hlt (W.frame _ s' _ _ hst' (Nat.le_succ _) fun b hb o e=>?_) hS2 fun s'' hm'' hS''=>?_⟩
  ·rw [hsb.2 b (fun h:b=S=>hSf (h ▸ hb))];exact e
  ·refine hR s'' (Moved.trans W.gtrans ((hm.mono up).then_heap (Nat.le_succ _) fun b o hb e=>?_) hm'') hS'';rw [hsb.2 b (fun h:b=S=>hb (h ▸ List.mem_cons_self))];exact e
end
section
variable {prog:Program} {w:World} {A:Around} {E:Value->Shared->Prop} {s:Shared}
theorem isInts0 {w:World} {h:Heap} {a:Addr} (ho:h.get? a=some (setObj0 w)):IsInts w h a (ledW w) []:=
 ⟨#[],0,_,ho,fun e he=>by simp at he,by simp,rfl,rfl,⟨fun a b _ hb _=>absurd hb (by simp [SetTable.fresh]),rfl⟩⟩
set_option maxHeartbeats 3200000 in
theorem so {l:Addr} {items:Array Value} {ss:List Int} {Q:Value->Shared->Prop} (hh:A.handled=none) (hl:s.heap.IsList l items) (hn:ss.length=items.size)
  (hv:∀ (i:Nat) (v:Value),items[i]? = some v->∃ x t,ss[i]? = some x/\v=.int x t) (hb:items.size+1 < scanBound)
  (h:∀ (h':Heap) (tk:Nat),IsInts w h' s.heap.objs.size (ledW w) (dI ss)->(∀ b o,s.heap.get? b=some o->h'.get? b=some o)->Q (.ref s.heap.objs.size) { s with heap:=h',toks:=tk }):
  wpAny (model prog w) A (call (.type "set") [.ref l]) Q E s:=by
 apply oj;intro A₁ _;apply vC;have hS:(s.heap.push (setObj0 w)).get? s.heap.objs.size=some (setObj0 w):=Heap.get?_push_size _ rfl;have hT:Shared.TypeIs { s with heap:=s.heap.push (setObj0 w) } (.ref s.heap.objs.size) "set" := ⟨_,hS,rfl⟩;refine ⟨⟨_,rfl⟩,hT,fun A₂ h2=>?_⟩;apply codeAny_call_builtin PySem.F.called_set.init.plain PySem.F.entry_set_init;apply check_set_init_1 hT;obtain ⟨⟨ocls,odict,odata,oslots⟩,hol,hcl,nl,hdl⟩:=hl;change ocls=.type "list" at hcl;change odata=.seq items nl at hdl;subst hcl hdl;have hol':(s.heap.push (setObj0 w)).get? l=some { cls:=.type "list",dict:=odict,data:=.seq items nl,slots:=oslots }:=Heap.get?_push_of_some _ hol;have k1:=PySem.F.sub_list_set;have k2:=PySem.F.sub_list_frozenset;have k3:(Value.type "list" == Value.type "dict")=false:=by decide
 have hl1:(s.heap.push (setObj0 w)).IsList l items:=⟨_,hol',rfl,nl,rfl⟩;unfold Builtin.«set.__init__» noKeywords Builtin.Frozenset.updateFrom;generalize hPI:pyIter=PI
 wp_walk
 subst hPI;refine wpAny_pyIter_list hl1 ?_;apply wpAny_bind;apply wpAny_runValue;have hlS:l < s.heap.objs.size:=Heap.lt_size hol;have hsz:(s.heap.push (setObj0 w)).objs.size=s.heap.objs.size+1:=Heap.size_push ..;have hSf:s.heap.objs.size ∉ [(s.heap.push (setObj0 w)).objs.size,l]:=by
  rw [hsz];intro z;rcases List.mem_cons.mp z with z | z
  ·exact Nat.succ_ne_self _ z.symm
  ·exact Nat.ne_of_gt hlS (List.mem_singleton.mp z)
 have W:=Walks.list (prog:=prog) (w:=w) (A:=A₂.in1.in1) (by simp [h2,hh]) (s.heap.push (setObj0 w)).objs.size l (by rw [hsz]; exact Nat.ne_of_lt (Nat.lt_succ_of_lt hlS)) items;refine vA W.toS s.heap.objs.size hSf ss (ledW w) hn hv hb (items.size - 0) 0 _ (by omega) (Nat.zero_le _) ⟨⟨_,Heap.get?_push_size _ rfl,rfl,rfl⟩,hl1.push _⟩ (isInts0 (Heap.get?_push_of_some _ hS)) fun s' hm hS'=>?_
 obtain ⟨h',g',d',tk',os'⟩:=s';obtain rfl:g'=s.gens:=hm.gens;obtain rfl:d'=s.drawn:=hm.drawn;obtain rfl:os'=s.os:=hm.os;apply wpAny_pure;apply wpAny_pure;refine ⟨rfl,h h' tk' hS' fun b o e=>?_⟩;have hbs:=Heap.lt_size e;apply hm.heap b o
 ·intro z;rcases List.mem_cons.mp z with z | z
  ·exact Nat.ne_of_lt hbs z
  ·have z:=List.mem_singleton.mp z;rw [hsz] at z;exact Nat.ne_of_lt (Nat.lt_succ_of_lt hbs) z
 ·exact Heap.get?_push_of_some _ (Heap.get?_push_of_some _ e)
section
variable {it a:Addr} {es:Array (Int × Value)} {n ep i:Nat} {t:SetTable}
theorem jv {slot:Nat} {Q:Option (Value × Nat)->Shared->Prop} (hb:w.params.followText "set-order" = false) (ha:s.heap.get? a=some (setObj es ep t)) (hf:t.fits es.size=true) (hl:t.led=true) (h1:(!t.plain && decide (es.size > 1))=false)
  (h:Q (match es[SetTable.below t.place slot]?,t.place[SetTable.below t.place slot]? with | some (_,x),some j=>some (x,j+1) | _,_=>none) s):wpAny (model prog w) A (setNext a slot i ep) Q E s:=by
 unfold setNext;refine wpAny_bind (wpAny_setState_of ha rfl hf ?_);dsimp only;refine wpAny_bind (ml ?_);rw [hb];show wpAny _ _ (if (!t.plain && decide (es.size > 1))=true then _ else _) _ _ _;rw [h1];have d2:(!t.led && !es.isEmpty)=false:=by rw [hl]; rfl
 show wpAny _ _ ((if (!t.led && !es.isEmpty)=true then _ else pure ())>>=_) _ _ _;rw [d2];exact wpAny_bind (wpAny_pure (wpAny_pure h))
theorem qb (hh:A.handled=none) (hne:a≠it) (hb:w.params.followText "set-order" = false) (hf:t.fits es.size=true) (hz:es.size=n) (hl:t.led=true) (h1:(!t.plain && decide (es.size > 1))=false) (hL:Laid0 t):
  Walks prog w A it [it,a] [it] n (fun i v=>(es[i]?).map (·.2)=some v) (fun i h=>(∃ sl,h.get? it=some (itObj (.int (sl:Nat) 0) i a n ep)/\SetTable.below t.place sl=i)/\h.get? a=some (setObj es ep t)) where
 sub:=fun b hb=>by simp at hb; simp [hb]
 frame:=fun _ _ _ ⟨⟨sl,st,r⟩,st2⟩ k=>⟨⟨sl,k it (by simp) _ st,r⟩,k a (by simp) _ st2⟩
 item:=fun i s Q E hi ⟨⟨sl,st,r⟩,st2⟩ hQ=>by
  have hp:i < t.place.size:=by rw [wg hf]; omega
  have hi':i < es.size:=by omega
  have e1:es[i]? = some es[i]:=Array.getElem?_eq_getElem hi';have e2:t.place[i]? = some t.place[i]:=Array.getElem?_eq_getElem hp;refine jx (slot:=sl) (nx:=t.place[i]+1) (x:=es[i].2) st st2 hf hz (fun E' Q' q=>jv hb st2 hf hl h1 ?_) fun h' g sb=>?_
  ·rw [r,e1,e2];exact q
  ·exact hQ _ h' s.toks (by rw [e1]; rfl) ⟨⟨_,g,ya hL.1 hp⟩,sb.extBut _ _ hne st2⟩ fun b o hb e=>sb.extBut b o (fun z=>hb (by simp [z])) e
 done:=fun s Q E ⟨⟨sl,st,r⟩,st2⟩ hQ=>by
  refine km (slot:=sl) hh st st2 hf hz (fun E' Q' q=>jv hb st2 hf hl h1 ?_) fun h' k=>hQ h' s.toks fun b o hb e=>k b o (fun z=>hb (by simp [z])) e
  rw [r,Array.getElem?_eq_none (by omega)];exact q
 self:=fun i s Q E ⟨⟨sl,st,_⟩,_⟩ hQ=>j3 ⟨_,st,rfl⟩ hQ
end
structure WalkedI (prog:Program) (w:World) (A:Around) (h:Heap) (a:Addr) (ss:List Int) (it:Addr) (h':Heap):Prop where
 old:∀ b o,h.get? b=some o->h'.get? b=some o
 new:h.objs.size<=it
 walk:∃ fp St,∃ xs:List Value,Walks prog w A it fp [it] xs.length (fun i v=>xs[i]? = some v) St/\St 0 h'/\(∀ b ∈ fp,b=a\/h.objs.size<=b)/\(∀ v ∈ xs,∃ x u,v=Value.int x u)/\(xs.map intOf).Perm ss
theorem vt {a:Addr} {ss:List Int} {Q:Value->Shared->Prop} (hh:A.handled=none) (hS:IsInts w s.heap a (ledW w) ss) (hb:ss.length<=100000)
  (h:∀ it h' d,WalkedI prog w A s.heap a ss it h'->Q (.ref it) { s with heap:=h',drawn:=d }):wpAny (model prog w) A (pyIter (.ref a)) Q E s:=by
 obtain ⟨es,ep,t,ho,hel,hp,hf,hl,hpl⟩:=hS;have hT:s.TypeIs (.ref a) "set" := ⟨_,ho,rfl⟩;have hlt:=Heap.lt_size ho;have hsz:es.size=ss.length:=by have:=hp.length_eq; simpa using this
 have hvs:∀ v ∈ es.toList.map (·.2),∃ x u,v=Value.int x u:=fun v hv=>by
  obtain ⟨e,he,rfl⟩:=List.mem_map.mp hv;obtain ⟨x,u,rfl⟩:=hel e he;exact ⟨x,u,rfl⟩
 have hps:((es.toList.map (·.2)).map intOf).Perm ss:=by rw [List.map_map]; exact hp
 have mk:∀ (xs:List Value),xs.Perm (es.toList.map (·.2))->(∀ v ∈ xs,∃ x u,v=Value.int x u)/\(xs.map intOf).Perm ss:=fun xs q=>
  ⟨fun v hv=>hvs v (q.mem_iff.mp hv),(q.map _).trans hps⟩
 refine wpAny_pyIter_slot hT PySem.F.slot_set_iter (wpAny_call_entry PySem.F.slot_set_iter hT mJ ?_ (PySem.F.args_set_iter_1 _));unfold Builtin.«frozenset.__iter__» Builtin.Frozenset.slot0 slotArgs;simp only [List.isEmpty_nil,Bool.not_true,Bool.false_eq_true,↓reduceIte,bind_assoc,List.length_nil,bne_self_eq_false];unfold Builtin.Frozenset.addrOf Builtin.Frozenset.sizeOf;refine wpAny_bind (wpAny_pure ?_)
 try dsimp only
 refine wpAny_bind (wpAny_pure ?_);refine wpAny_bind (wpAny_bind (wpAny_setEntries_of ho rfl hf (wpAny_pure ?_)));unfold setDrawn;refine wpAny_bind (wpAny_bind (wpAny_setState_of ho rfl hf ?_));dsimp only;refine wpAny_bind (ml (wpAny_pure ?_));change wpAny _ _ (if (!w.params.followText "set-order" && (!t.plain && decide (es.size > 1)))=true then _ else _) _ _ _;have ne1:∀ (h1:Heap),s.heap.objs.size<=h1.objs.size->a≠h1.objs.size:=fun h1 q=>Nat.ne_of_lt (Nat.lt_of_lt_of_le hlt q)
 by_cases hd:(!w.params.followText "set-order" && (!t.plain && decide (es.size > 1)))=true
 ·rw [if_pos hd];refine wpAny_bind (tD es.size (List.range es.size) s _ (by simp) fun ys d hy=>?_);have hyl:ys.length=es.size:=by have:=hy.length_eq; simpa using this
  refine wpAny_bind (wpAny_newTuple ?_ (by rw [List.length_map,hyl,sizeLine_eq]; omega));refine wpAny_bind (wpAny_setEpoch_of (Heap.get?_push_of_some _ ho) rfl hf ?_);refine wpAny_bind (wpAny_newObj_type (wpAny_pure ⟨_,rfl, "set_iterator",_,⟨_,Heap.get?_push_size _ rfl,rfl⟩,cy.lookup,?_⟩));have hq:(atPlaces es ys).Perm (es.toList.map (·.2)):=by
   rw [<- sX];exact hy.map _
  have hlen:es.size=(atPlaces es ys).length:=by unfold atPlaces; rw [List.length_map,hyl]
  have e1:(s.heap.push (seqObj "tuple" (ys.map fun (k:Nat)=>rawInt k).toArray 0)).objs.size=s.heap.objs.size+1:=size_push' ..;refine h _ _ d ⟨fun b o e=>Heap.get?_push_of_some _ (Heap.get?_push_of_some _ e),Nat.le_trans (Nat.le_succ _) (Nat.le_of_eq e1.symm),_,_,_,
   Walks.cast (sP (A:=A) (a:=a) (T:=s.heap.objs.size) (ep:=ep) hh (ne1 _ (Nat.le_trans (Nat.le_succ _) (Nat.le_of_eq e1.symm))) ?_ hf rfl hy) hlen fun _ _=>Iff.rfl,?_,?_,(mk _ hq).1,(mk _ hq).2⟩
  ·exact Nat.ne_of_lt (Nat.lt_of_lt_of_le (Nat.lt_succ_self _) (Nat.le_of_eq e1.symm))
  ·exact ⟨Heap.get?_push_size _ rfl,Heap.get?_push_of_some _ (Heap.get?_push_of_some _ ho),Heap.get?_push_of_some _ (Heap.get?_push_size _ rfl)⟩
  ·intro b hb;simp only [List.mem_cons,List.not_mem_nil,or_false] at hb;rcases hb with rfl | rfl | rfl
   ·exact .inr (Nat.le_trans (Nat.le_succ _) (Nat.le_of_eq e1.symm))
   ·exact .inl rfl
   ·exact .inr (Nat.le_refl _)
 ·rw [if_neg hd];refine wpAny_bind (wpAny_pure ?_);refine wpAny_bind (wpAny_setEpoch_of ho rfl hf ?_);refine wpAny_bind (wpAny_newObj_type (wpAny_pure ⟨_,rfl, "set_iterator",_,⟨_,Heap.get?_push_size _ rfl,rfl⟩,cy.lookup,?_⟩));have fpo:∀ b ∈ [s.heap.objs.size,a],b=a\/s.heap.objs.size<=b:=fun b hb=>by
   simp only [List.mem_cons,List.not_mem_nil,or_false] at hb;rcases hb with rfl | rfl
   ·exact .inr (Nat.le_refl _)
   ·exact .inl rfl
  refine h _ _ s.drawn ⟨fun b o e=>Heap.get?_push_of_some _ e,Nat.le_refl _,?_⟩;cases hbt:w.params.followText "set-order" with
  | true=>
   have hq:((pickOrder (w.params.setOrder a ep) es).toList.map (·.2)).Perm (es.toList.map (·.2)):=(kZ (w.params.setOrder a ep) es).map _;refine ⟨_,_,_,Walks.cast (tG (A:=A) (a:=a) (ep:=ep) (t:=t) hh (ne1 _ (Nat.le_refl _)) hbt hf rfl) (by have:=hq.length_eq; simpa using this.symm) (fun i v=>?_),⟨Heap.get?_push_size _ rfl,Heap.get?_push_of_some _ ho⟩,fpo,(mk _ hq).1,(mk _ hq).2⟩;rw [List.getElem?_map,Array.getElem?_toList]
  | false=>
   have h1:(!t.plain && decide (es.size > 1))=false:=by
    rw [hbt] at hd;simpa using hd
   have hq:=List.Perm.refl (es.toList.map (·.2));refine ⟨_,_,_,Walks.cast (qb (A:=A) (a:=a) (ep:=ep) (t:=t) hh (ne1 _ (Nat.le_refl _)) hbt hf rfl (by rw [hl]; unfold ledW; rw [hbt]; rfl) h1 hpl) (by simp) (fun i v=>?_),⟨⟨0,Heap.get?_push_size _ rfl,uq hpl.1⟩,Heap.get?_push_of_some _ ho⟩,fpo,(mk _ hq).1,(mk _ hq).2⟩;rw [List.getElem?_map,Array.getElem?_toList]
theorem qI {a:Addr} {ss:List Int} {R:List Value->Shared->Prop} (hh:A.handled=none) (hS:IsInts w s.heap a (ledW w) ss) (hb:ss.length<=100000)
  (h:∀ (h':Heap) (tk:Nat) (d:Drawn) (vs:List Value),s.heap.objs.size < h'.objs.size->(∀ b o,s.heap.get? b=some o->h'.get? b=some o)->(∀ v ∈ vs,∃ x u,v=Value.int x u)->(vs.map intOf).Perm ss->R vs { s with heap:=h',toks:=tk,drawn:=d }):
  wpAny (model prog w) A (collect (.ref a)) R E s:=by
 unfold collect;refine wpAny_bind (wpAny_runValue (codeAny_builtin entry_proto_collect' ?_));rw [Around.under_plainId PySem.F.plain_proto_collect _];show wpAny _ A.in1 (newList []>>=fun l=>again (.builtin "list.__iadd__" ⟨[l,.ref a],[]⟩)) _ _ s;refine wpAny_bind (wpAny_newObj_type ?_);refine wpAny_pure ⟨plainId_quiet PySem.F.plain_list_iadd _,codeAny_builtin entry_list_iadd' ?_⟩;rw [Around.under_plainId PySem.F.plain_list_iadd _];generalize hL:s.heap.objs.size=S;have hS1:(s.heap.push { cls:=.type "list",data:=.seq ([]:List Value).toArray }).get? S=some { cls:=.type "list",data:=.seq #[] }:=hL ▸ Heap.get?_push_size _ rfl;have hkeep:∀ b o,s.heap.get? b=some o->(s.heap.push { cls:=.type "list",data:=.seq ([]:List Value).toArray }).get? b=some o:=fun b o e=>Heap.get?_push_of_some _ e
 have haS:a < S:=by obtain ⟨es,ep,t,ho,_⟩:=hS; rw [<- hL]; exact Heap.lt_size ho
 have hz1:(s.heap.push { cls:=.type "list",data:=.seq ([]:List Value).toArray }).objs.size=S+1:=by rw [size_push',hL]
 have hS':IsInts w (s.heap.push { cls:=.type "list",data:=.seq ([]:List Value).toArray }) a (ledW w) ss:=hS.at fun o e=>hkeep _ _ e
 generalize hg:s.heap.push { cls:=.type "list",data:=.seq ([]:List Value).toArray }=g at hS1 hkeep hz1 hS';have hT:Shared.TypeIs { s with heap:=g } (.ref a) "set" := by obtain ⟨es,ep,t,ho,_⟩:=hS'; exact ⟨_,ho,rfl⟩
 show wpAny _ A.in1 (Builtin.List.listExtendWith (.ref S) (.ref a) (.ref S)) _ _ { s with heap:=g };unfold Builtin.List.listExtendWith;refine wpAny_bind (wpAny_typeOf (T := "set") hT ?_);have h1:Builtin.List.listSameRef (.ref S) (.ref a)=false:=by simp [Builtin.List.listSameRef,Nat.ne_of_gt haS]
 have h2:(Value.type "set" == Value.type "list")=false:=by decide
 have h3:(Value.type "set" == Value.type "tuple")=false:=by decide
 simp only [h1,h2,h3,Bool.or_false,Bool.false_eq_true,if_false];refine wpAny_bind (vt (A:=A.in1) (s:={ s with heap:=g }) hh hS' hb fun it g' d W=>?_);obtain ⟨old,new,fp,St,xs,Wk,st,hfp,hxs,hpx⟩:=W;have hxl:xs.length=ss.length:=by have:=hpx.length_eq; simpa using this
 have hS2:=old _ _ hS1;have hSf:S ∉ fp:=fun z=>by
  rcases hfp S z with q | q
  ·exact Nat.lt_irrefl _ (q ▸ haS)
  ·rw [show ({ s with heap:=g }:Shared).heap.objs.size=S+1 from hz1] at q;exact absurd q (Nat.not_le.mpr (Nat.lt_succ_self _))
 have itS:it≠S:=fun z=>by
  subst z;rw [show ({ s with heap:=g }:Shared).heap.objs.size=it+1 from hz1] at new;exact absurd new (Nat.not_le.mpr (Nat.lt_succ_self _))
 have key:∀ (h:Heap) (c₁ tk:Nat),St 0 h->(∀ b o,b≠S->g'.get? b=some o->h.get? b=some o)->h.get? S=some { cls:=.type "list",data:=.seq #[] c₁ } ->
   codeAny (model prog w) A (.builtin "list.extend.loop" ⟨[.ref S,.ref it,.ref S],[]⟩) (fun r s'=>∃ vs c' k1 k2,r=.ok (.ret (.ref S))/\s'={ s with heap:=k1,toks:=k2,drawn:=d }/\k1.get? S=some { cls:=.type "list",dict:=none,data:=.seq vs c',slots:=#[] }/\vs.toList=xs /\
    (∀ b o,s.heap.get? b=some o->k1.get? b=some o)) { s with heap:=h,toks:=tk,drawn:=d }:=by
  intro h c₁ tk hst hk hl;refine codeAny_extend_loopS (Wk.toS) (by rw [hxl,sizeLine_eq]; omega) S hSf (.ref S) xs.length 0 _ #[] c₁ rfl (Nat.zero_le _) hst hl (ItemsOf.nil _) fun s' acc c' hm hl' hacc=>?_
  obtain ⟨k1,gg,dd',k2,oo⟩:=s';obtain rfl:gg=s.gens:=hm.gens;obtain rfl:dd'=d:=hm.drawn;obtain rfl:oo=s.os:=hm.os;refine ⟨acc,c',k1,k2,rfl,rfl,hl',?_,fun b o e=>hm.heap b o (fun z=>?_) (hk b o (fun z=>?_) (old b o (hkeep b o e)))⟩
  ·apply List.ext_getElem?;intro j;by_cases hj:j < xs.length
   ·have hj':j < acc.size:=by rw [hacc.1]; exact hj
    have:=hacc.2 j _ (Array.getElem?_eq_getElem hj');rw [this,Array.getElem?_toList,Array.getElem?_eq_getElem hj']
   ·rw [List.getElem?_eq_none (by rw [Array.length_toList,hacc.1]; omega),List.getElem?_eq_none (by omega)]
  ·have hbs:=Heap.lt_size e;rw [hL] at hbs;rcases List.mem_cons.mp z with q | q
   ·exact Nat.lt_irrefl _ (q ▸ hbs)
   ·rw [List.mem_singleton.mp q] at hbs;rw [show ({ s with heap:=g }:Shared).heap.objs.size=S+1 from hz1] at new;exact absurd (Nat.lt_of_le_of_lt new hbs) (Nat.not_lt.mpr (Nat.le_succ _))
  ·have hbs:=Heap.lt_size e;rw [hL] at hbs;exact Nat.lt_irrefl _ (z ▸ hbs)
 have hT2:Shared.TypeIs { s with heap:=g',drawn:=d } (.ref a) "set" := by obtain ⟨es,ep,t,ho,_⟩:=hS'; exact ⟨_,old _ _ ho,rfl⟩
 refine wpAny_bind (wpAny_holding (xw hT2 ?_));have last:∀ (r:Result) (s':Shared),(∃ vs c' k1 k2,r=.ok (.ret (.ref S))/\s'={ s with heap:=k1,toks:=k2,drawn:=d }/\k1.get? S=some { cls:=.type "list",dict:=none,data:=.seq vs c',slots:=#[] }/\vs.toList=xs /\
    (∀ b o,s.heap.get? b=some o->k1.get? b=some o))->∃ vs c' k1 k2,r=.ok (.ret (.ref S))/\s'={ s with heap:=k1,toks:=k2,drawn:=d }/\k1.get? S=some { cls:=.type "list",dict:=none,data:=.seq vs c',slots:=#[] }/\R vs.toList s':=by
  rintro r s' ⟨vs,c',k1,k2,rfl,rfl,hl,hv,hk⟩;exact ⟨vs,c',k1,k2,rfl,rfl,hl,h k1 k2 d vs.toList (hL ▸ Heap.lt_size hl) hk (hv ▸ hxs) (hv ▸ hpx)⟩
 refine wpAny_ite_split (fun _=>?_) (fun _=>wpAny_pure ⟨plainId_quiet PySem.F.plain_extend_loop _,codeAny_mono (key g' 0 s.toks st (fun _ _ _ e=>e) hS2) fun r s' q=>?_⟩)
 ·refine wpAny_bind (wpAny_rule ?_);refine wpAny_bind ?_;show wpAny _ _ (updateSeq S (·.push .none)>>=fun _=>updateSeq S (·.pop)) _ _ _;refine wpAny_bind (wpAny_updateSeq hS2 rfl ?_);have hS3:=Heap.get?_update_self (Obj.mapSeq (·.push Value.none)) hS2 rfl;refine wpAny_updateSeq (hz:=by seq_fits) hS3 rfl ?_;have hS4:=Heap.get?_update_self (Obj.mapSeq (·.pop)) hS3 rfl;have up:∀ b o,b≠S->g'.get? b=some o->((g'.update S (Obj.mapSeq (·.push Value.none))).update S (Obj.mapSeq (·.pop))).get? b=some o:=fun b o nb e=>
   (Heap.get?_update_other _ _ (Ne.symm nb)).trans ((Heap.get?_update_other _ _ (Ne.symm nb)).trans e)
  refine wpAny_pure ⟨plainId_quiet PySem.F.plain_extend_loop _,codeAny_mono (key _ _ s.toks (Wk.frame 0 _ _ st fun b hb o e=>up b o (fun z=>hSf (z ▸ hb)) e) up hS4) fun r s' q=>?_⟩;obtain ⟨vs,c',k1,k2,rfl,rfl,hl,hr⟩:=last r s' q;exact wpAny_bind (wpAny_load hl (wpAny_pure hr))
 ·obtain ⟨vs,c',k1,k2,rfl,rfl,hl,hr⟩:=last r s' q;exact wpAny_bind (wpAny_load hl (wpAny_pure hr))
end
section
variable {prog:Program} {w:World} {A:Around} {E:Value->Shared->Prop} {s:Shared}
theorem j6:∀ {vs:List Value},(∀ v ∈ vs,∃ x u,v=Value.int x u)->IntsAre vs (vs.map intOf)
 | [],_=>.nil
 | v::vs,h=>by
  obtain ⟨x,u,rfl⟩:=h v List.mem_cons_self;exact .cons x u (j6 fun v hv=>h v (List.mem_cons_of_mem _ hv))
theorem om {a:Addr} {ss:List Int} {Q:Value->Shared->Prop} (hh:A.handled=none) (hS:IsInts w s.heap a (ledW w) ss) (hb:ss.length < 64)
  (h:∀ (D:Addr) (h':Heap) (tk:Nat) (d:Drawn) (out:List Value) (ss':List Int) (e:Nat),(∀ b o,s.heap.get? b=some o->h'.get? b=some o)->s.heap.objs.size<=D->h'.get? D=some (seqObj "list" out.toArray e) ->
   IntsAre out ss'->ss'.Perm ss->ss'.Pairwise (· <= ·)->Q (.ref D) { s with heap:=h',toks:=tk,drawn:=d }):
  wpAny (model prog w) A (call (.builtin "sorted") [.ref a]) Q E s:=by
 refine Calls.call_function_entry kind_sorted plain_sorted entry_sorted (args_sorted1 _) ?_;unfold Builtin.«sorted»;refine wpAny_bind (m:=checkCount "sorted" 1 1 _) (wpAny_pure ?_);refine wpAny_bind (qI (A:=A.in1) hh hS (by omega) fun h1 tk d vs more old hv hp=>?_);have hl:vs.length=ss.length:=by have:=hp.length_eq; simpa using this
 refine wpAny_bind (wpAny_newList ?_ (by rw [hl,sizeLine_eq]; omega));have hD:(h1.push (seqObj "list" vs.toArray 0)).get? h1.objs.size=some (seqObj "list" vs.toArray 0):=Heap.get?_push_size _ rfl;have hSA:=j6 hv;refine wpAny_bind (wpAny_holding (wpAny_call_entry slot_list_sort ⟨_,hD,rfl⟩ entry_list_sort (list_sort_tree hD hSA (by omega) fun out ns' a1 a2 a3=>⟨_,rfl,?_⟩) (args_list_sort _)));obtain ⟨e,he⟩:=sortedHeap_at (out:=out) hD;refine wpAny_pure ⟨_,rfl,h _ _ tk d out.toList ns' e (fun b o q=>?_) ?_ (by rw [Array.toArray_toList]; exact he) a1 (a2.trans hp) a3⟩
 ·have hb1:=Heap.lt_size (old b o q);rw [sortedHeap_old (Nat.ne_of_lt hb1) (by rw [size_push']; exact Nat.lt_succ_of_lt hb1)];exact Heap.get?_push_of_some _ (old b o q)
 ·exact Nat.le_of_lt more
end
section
variable {X:Cx}
theorem uY:∀ {vs:List Value} {ys:List Int},IntsAre vs ys->∀ (i:Nat) (v:Value),vs[i]? = some v->∃ x t,ys[i]? = some x/\v=.int x t
 | _,_,.nil,i,v,h=>by simp at h
 | _,_,.cons y t r,0,v,h=>by simp at h; exact ⟨y,t,rfl,h.symm⟩
 | _,_,.cons y t r,i+1,v,h=>by simpa using uY r i v (by simpa using h)
noncomputable def cSortInts (K:Frag) (te:TE):TE:=fun σ H Q=>te σ H fun x H1=>match x with
 | .ref p=>∃ ns:List Int,SqL K H1 p (ns.map V.int)/\ns.length < 64/\∀ (q:Addr) (ms:List Int),H1 q=none->(∀ n,n ∈ ms ↔ n ∈ ns)->ms.length<=ns.length->ms.Pairwise (· <= ·)->ms.Nodup->Q (.ref q) (upd H1 q (.lst (ms.map V.int)))
 | _=>False
theorem lf {K:Frag} (hK:X.K=K) (hc:X.calm=true) {pins:List (Addr × Obj)} {s:Shared} {σ:St} {H:Hp} {p:Addr} {ns:List Int} {Q:VK} (I:Inv X pins σ H s)
  (h:SqL K H p (ns.map V.int)) (h1:ns.length < 64) (q:∀ (q:Addr) (ms:List Int),H q=none->(∀ n,n ∈ ms ↔ n ∈ ns)->ms.length<=ns.length->ms.Pairwise (· <= ·)->ms.Nodup->Q (.ref q) (upd H q (.lst (ms.map V.int)))):
  wpAny (model X.prog X.w) X.A (call (.type "set") [.ref p]) (fun v s1=>wpAny (model X.prog X.w) X.A (call (.builtin "sorted") [v]) (EP X pins σ Q) X.xe s1) X.xe s:=by
 subst hK;obtain ⟨its,rv,pl,_⟩:=I.list h;have hss:IntsAre its ns:=nE rv;have hlen:its.length=ns.length:=by have:=rv.length; simpa using this.symm
 have e63:scanBound=4096:=rfl;refine tokQ I.tk (so (items:=its.toArray) (ss:=ns) (I.ok.hd hc) pl.isList (by simp [hlen]) (fun i v hv=>uY hss i v (by simpa using hv)) (by simp only [List.size_toArray,hlen,e63]; omega) fun h' tk hS old (htk:0 < tk)=>?_);have I1:Inv X pins σ H { s with heap:=h',toks:=tk }:=I.kept old;have hdl:=wH ns;refine tokQ I1.tk (om (s:={ s with heap:=h',toks:=tk }) (I.ok.hd hc) hS (by omega) fun D h2 tk2 d out ss' e old2 hD ho hso hp hsd (htk2:0 < tk2)=>?_);have hl2:ss'.length=(dI ns).length:=hp.length_eq;have I2:=I1.laid (a:=D) (o:=.lst (ss'.map V.int)) (t':=tk2) old2 hD ⟨by rw [List.length_map,sizeLine_eq]; omega,out,e,kT hso,ho⟩;exact ⟨.ref D,_,I2.drew d,rfl,q D ss' (I1.hok.fresh hD) (fun n=>by rw [hp.mem_iff,AS]) (by omega) hsd (hp.nodup_iff.mpr (wL ns))⟩
theorem rJ {K:Frag} {e:Expr} {te:TE} {p p2 pos pos2:Pos} (hK:X.K=K) (hc:X.calm=true) (hg:Gl X "sorted") (hm:X.mg "sorted" = none) (hg2:Gl X "set") (hm2:X.mg "set" = none) (he:PE X e te)
  (hs:starEach [e] X.env=[(false,eval e X.env)]:=by rfl)
  (hs2:starEach [Expr.Call (.Name "set" p2) [e] [] pos2] X.env=[(false,eval (Expr.Call (.Name "set" p2) [e] [] pos2) X.env)]:=by rfl):
  PE X (.Call (.Name "sorted" p) [.Call (.Name "set" p2) [e] [] pos2] [] pos) (cSortInts K te):=by
 intro pins s σ H Q I h;refine wpAny_Call_Name_kw (dA I hg hm u3 ?_ (by decide) (by decide));refine PyProof.Rows.callWith_builtin1 ?_ hs2 rfl;rw [hs2];show wpAny _ _ (spliced [(false,eval (Expr.Call (.Name "set" p2) [e] [] pos2) X.env)]) _ _ s;refine Calls.spliced_cons ?_;refine wpAny_Call_Name_kw (dA I hg2 hm2 An ?_ (by decide) (by decide));refine PyProof.Rows.callWith_type1 ?_ hs rfl;rw [hs];show wpAny _ _ (spliced [(false,eval e X.env)]) _ _ s;refine Calls.spliced_cons (thn (he pins s σ H _ I h) fun u s1 ⟨x,H1,I1,r1,q1⟩=>Calls.spliced_nil ?_)
 match x,r1,q1 with
 | .ref p,rfl,⟨ls,a1,a2,a3⟩=>exact thn (lf hK hc I1 a1 a2 a3) fun v s2 q=>Calls.spliced_nil q
theorem rQ {K:Frag} {te:TE} {σ:St} {H:Hp} {Q:VK}:cSortInts K te σ H Q=te σ H fun x H1=>match x with
 | .ref p=>∃ ns:List Int,SqL K H1 p (ns.map V.int)/\ns.length < 64/\∀ (q:Addr) (ms:List Int),H1 q=none->(∀ n,n ∈ ms ↔ n ∈ ns)->ms.length<=ns.length->ms.Pairwise (· <= ·)->ms.Nodup->Q (.ref q) (upd H1 q (.lst (ms.map V.int)))
 | _=>False:=rfl
end
section
variable {prog:Program} {w:World} {A:Around} {E:Value->Shared->Prop} {s:Shared}
theorem nj {it:Addr} {Q:Value->Shared->Prop} (ty:s.TypeIs (.ref it) "tuple_iterator")
  (q:wpAny (model prog w) A.in1 (Builtin.«tuple_iterator.__next__» ⟨[.ref it],[]⟩) (fun fin s'=>∃ v,fin=.done (.ret v)/\Q v s') E s):wpAny (model prog w) A (Builtin.SmallTypes.nextOf (.ref it)) Q E s:=by
 have sl:=F.slot_tuple_iterator_next;unfold Builtin.SmallTypes.nextOf;refine wpAny_bind (wpAny_callSpecial?_slot (name:=Str.ofString "__next__") ty sl (wpAny_call_entry sl ty F.entry_tuple_iterator_next (wpAny_mono q (fun fin s' ⟨v,e,z⟩=>⟨v,e,wpAny_pure z⟩) fun _ _ z=>z) (F.args_tuple_iterator_next_1 _)))
theorem lW {it t:Addr} {i:Nat} {ys:Array Value} {x:Value} {Q:Value->Shared->Prop} (st:s.heap.IsTupleIter it t i) (tu:s.heap.IsTuple t ys) (e:ys[i]? = some x)
  (q:∀ h',h'.IsTupleIter it t (i+1)->Heap.SameBut it s.heap h'->Q x { s with heap:=h' }):wpAny (model prog w) A (Builtin.SmallTypes.nextOf (.ref it)) Q E s:=by
 apply nj st.typeIs;obtain ⟨ob,g1,g2,g3⟩:=st;obtain ⟨tb,k1,_,kn,k2⟩:=tu;change wpAny _ _ (field (.ref it) 0>>=_) _ _ _;apply wpAny_bind;apply wpAny_field g1 g3 (x:=.ref t) rfl;have nn:(Value.ref t == Value.none)=false:=rfl;simp only [nn,Bool.false_eq_true,if_false];apply wpAny_bind;apply wpAny_field g1 g3 (x:=.int i 0) rfl;apply wpAny_bind;apply wpAny_seqItems k1 k2;simp only [Int.toNat_natCast,e];apply wpAny_bind;apply wpAny_setField g1 g3 (by simp);apply wpAny_pure;refine ⟨x,rfl,q _ ⟨_,Heap.get?_update_self _ g1 (Obj.isFreed_of_fields (Obj.data_mapFields g3 _)),(Obj.cls_mapFields ..).trans g2,?_⟩ (Heap.SameBut.update ..)⟩;rw [Obj.data_mapFields g3];simp [rawInt]
theorem mI {it t:Addr} {i:Nat} {ys:Array Value} {Q:Value->Shared->Prop} (hh:A.handled=none) (st:s.heap.IsTupleIter it t i) (tu:s.heap.IsTuple t ys) (e:ys[i]? = none)
  (q:∀ h' e,Heap.ExtBut it s.heap h'->(∃ o,h'.get? e=some o/\o.cls=.type "StopIteration")->E (.ref e) { s with heap:=h' }):wpAny (model prog w) A (Builtin.SmallTypes.nextOf (.ref it)) Q E s:=by
 apply nj st.typeIs;obtain ⟨ob,g1,g2,g3⟩:=st;obtain ⟨tb,k1,_,kn,k2⟩:=tu;change wpAny _ _ (field (.ref it) 0>>=_) _ _ _;apply wpAny_bind;apply wpAny_field g1 g3 (x:=.ref t) rfl;have nn:(Value.ref t == Value.none)=false:=rfl;simp only [nn,Bool.false_eq_true,if_false];apply wpAny_bind;apply wpAny_field g1 g3 (x:=.int i 0) rfl;apply wpAny_bind;apply wpAny_seqItems k1 k2;simp only [Int.toNat_natCast,e];apply wpAny_bind;apply wpAny_rule;apply wpAny_bind;apply wpAny_setField g1 g3 (by simp);have hh1:A.in1.handled=none:=hh;exact jK hh1 fun h2 x k c=>q h2 x (fun b o nb z=>k b o ((Heap.SameBut.update s.heap it _).extBut b o nb z)) c
end
def TGo (H:Hp) (a:Addr) (i:Nat):Prop:=∃ xs v,H a=some (.tup xs)/\xs[i]? = some v
def TAt (H:Hp) (a:Addr) (i:Nat) (v:V):Prop:=∀ xs,H a=some (.tup xs)->xs[i]? = some v
def TEnd (H:Hp) (a:Addr) (i:Nat):Prop:=∃ xs,H a=some (.tup xs)/\xs.length<=i
theorem gy {h:Heap} {a it:Addr} {i:Nat} (st:h.IsTupleIter it a i):∃ o,h.get? it=some o/\(∀ v,o.data≠.cell v)/\o.cls≠.type "list" /\ o.cls≠.type "zip" /\ o.cls≠.type "tuple" := by
 obtain ⟨o,e,c,d⟩:=st;refine ⟨o,e,(fun v z=>by rw [d] at z; cases z),?_⟩;rw [c];decide
section
variable {X:Cx} {pins:List (Addr × Obj)} {σ:St} {H:Hp} {s:Shared} {A:Around}
theorem tt (I:Inv X pins σ H s) {a it:Addr} {i:Nat} (st:s.heap.IsTupleIter it a i) (go:TGo H a i):
  ∃ (f:List Addr) (Sa Sb:Heap->Prop) (P:Value->Prop),Nx X.prog X.w A it f Sa Sb P/\Sa s.heap/\(∀ c ∈ f,c=it\/((∃ o,s.heap.get? c=some o/\o.cls=.type "tuple")/\H c≠none))/\(∀ h,Sb h->h.IsTupleIter it a (i+1))/\∀ v,P v->∃ x,RelV x v/\TAt H a i x:=by
 obtain ⟨xs,v,hq,hv⟩:=go;obtain ⟨its,rv,pl,hz⟩:=I.tuple (SqT.of hq);obtain ⟨u,hu,ru⟩:=rv.get hv;have pl:s.heap.IsTuple a its.toArray:=pl;obtain ⟨o,e,c,n,hd⟩:=id pl;have hne:a≠it:=by
  rintro rfl;obtain ⟨o',e',c',_⟩:=st;rw [e] at e';cases e';rw [c] at c';exact absurd c' (by decide)
 refine ⟨[it,a],fun h=>h.IsTupleIter it a i/\h.IsTuple a its.toArray,fun h=>h.IsTupleIter it a (i+1)/\h.IsTuple a its.toArray,fun z=>z=u,⟨?_,?_,?_⟩,⟨st,pl⟩,?_,fun h q=>q.1,?_⟩
 ·rintro h h' ⟨⟨o1,s1,r1⟩,⟨o2,s2,r2⟩⟩ k;exact ⟨⟨o1,k it (by simp) o1 s1,r1⟩,⟨o2,k a (by simp) o2 s2,r2⟩⟩
 ·rintro h h' ⟨⟨o1,s1,r1⟩,⟨o2,s2,r2⟩⟩ k;exact ⟨⟨o1,k it (by simp) o1 s1,r1⟩,⟨o2,k a (by simp) o2 s2,r2⟩⟩
 ·intro s Q E st hQ;exact lW st.1 st.2 (x:=u) (by simpa using hu) fun h' st' sb=>hQ _ h' s.toks rfl ⟨st',st.2.extBut sb.extBut hne⟩ sb
 ·intro c' hc;rcases (by simpa using hc:c'=it\/c'=a) with z | z
  ·exact .inl z
  ·subst z;exact .inr ⟨⟨o,e,c⟩,by rw [hq]; simp⟩
 ·rintro z rfl;exact ⟨v,ru,fun ys hy=>by rw [hq] at hy; cases hy; exact hv⟩
theorem yc (I:Inv X pins σ H s) (hh:A.handled=none) {a it:Addr} {i:Nat} (st:s.heap.IsTupleIter it a i) (en:TEnd H a i):
  ∃ (f:List Addr) (Sa:Heap->Prop),Nd X.prog X.w A it f Sa/\Sa s.heap/\(∀ c ∈ f,c=it\/((∃ o,s.heap.get? c=some o/\o.cls=.type "tuple")/\H c≠none)):=by
 obtain ⟨xs,hq,hv⟩:=en;obtain ⟨its,rv,pl,hz⟩:=I.tuple (SqT.of hq);have pl:s.heap.IsTuple a its.toArray:=pl;obtain ⟨o,e,c,n,hd⟩:=id pl;have hl:=rv.length;refine ⟨[it,a],fun h=>h.IsTupleIter it a i/\h.IsTuple a its.toArray,⟨?_,?_⟩,⟨st,pl⟩,?_⟩
 ·rintro h h' ⟨⟨o1,s1,r1⟩,⟨o2,s2,r2⟩⟩ k;exact ⟨⟨o1,k it (by simp) o1 s1,r1⟩,⟨o2,k a (by simp) o2 s2,r2⟩⟩
 ·intro s Q E st hE;exact mI hh st.1 st.2 (by simp; omega) hE
 ·intro c' hc;rcases (by simpa using hc:c'=it\/c'=a) with z | z
  ·exact .inl z
  ·subst z;exact .inr ⟨⟨o,e,c⟩,by rw [hq]; simp⟩
end
noncomputable def ItzT (a b:Addr):It:=⟨fun i H=>TGo H a i/\TGo H b i,fun i H v H'=>∃ T x y,v=.ref T/\H T=none/\H'=upd H T (.tup [x,y])/\TAt H a i x/\TAt H b i y,
 fun i H=>TEnd H a i\/(TGo H a i/\TEnd H b i)⟩
def ZipTt (z TI TO i1 i2:Addr) (S1 S2:Addr) (i:Nat) (h:Heap):Prop:=∃ a b,IsZip h z TI TO .none/\IsPair h TI (.ref i1) (.ref i2)/\IsPair h TO a b/\h.IsTupleIter i1 S1 i/\h.IsTupleIter i2 S2 i
theorem j7 {H:Hp} {h:Heap} {f:List Addr} {z TI TO i1 i2:Addr} {S2:Addr} {k:Nat} (hTn:H TO=none) (hz:IsZip h z TI TO .none) (h2:h.IsTupleIter i2 S2 k) (n1:i1≠z) (n2:i1≠TO) (n3:i1≠i2)
  (m:∀ c ∈ f,c=i1\/((∃ o,h.get? c=some o/\o.cls=.type "tuple")/\H c≠none)):∀ c ∈ f,c≠z/\c≠TO/\c≠i2:=fun c hc=>by
 rcases m c hc with e | ⟨⟨o,e,c1⟩,hn⟩
 ·subst e;exact ⟨n1,n2,n3⟩
 ·refine ⟨?_,?_,?_⟩
  ·rintro rfl;rw [hz] at e;cases e;exact absurd (show Value.type "zip" = Value.type "tuple" from c1) (by decide)
  ·rintro rfl;exact hn hTn
  ·rintro rfl;obtain ⟨o',e',_,_,_,q⟩:=gy h2;rw [e] at e';cases e';exact q c1
theorem vc {P:Program} {w:World} {K:Frag} {elts:List Expr} {kk:Nat} {pos:Pos} {z TI TO i1 i2:Addr} (D:ZAp z TI TO i1 i2) (S1 S2:Addr):
  Turn P w K (.Tuple elts kk pos) (ItzT S1 S2) [z,TI,TO,i1,i2] z (ZipTt z TI TO i1 i2 S1 S2) where
 mem:=by simp
 obj:=fun i h st b hb=>by
  obtain ⟨a,c,hz,hTI,hTO,h1,h2⟩:=st;simp only [List.mem_cons,List.not_mem_nil,or_false] at hb;rcases hb with rfl | rfl | rfl | rfl | rfl
  ·exact ⟨_,hz,fun v q=>by have q':Data.fields _=Data.cell v:=q; cases q'⟩
  ·exact ⟨_,hTI,fun v q=>by have q':Data.seq _ _=Data.cell v:=q; cases q'⟩
  ·exact ⟨_,hTO,fun v q=>by have q':Data.seq _ _=Data.cell v:=q; cases q'⟩
  ·obtain ⟨o,e,q,_⟩:=(gy h1);exact ⟨o,e,q⟩
  ·obtain ⟨o,e,q,_⟩:=(gy h2);exact ⟨o,e,q⟩
 keep:=fun i h h' st k=>by
  obtain ⟨a,c,hz,hTI,hTO,h1,h2⟩:=st;exact ⟨a,c,k z (by simp) _ hz,k TI (by simp) _ hTI,k TO (by simp) _ hTO,h1.at fun o e=>k i1 (by simp) o e,h2.at fun o e=>k i2 (by simp) o e⟩
 item:=by
  intro X hP hw hK hc i pins s σ H E I hf st hg;subst hP hw hK;obtain ⟨a,b,hz,hTI,hTO,h1,h2⟩:=st;have hTn:H TO=none:=(hf TO (by simp)).1;obtain ⟨g1,g2⟩:=hg;obtain ⟨f1,Sa,Sb,P1,n1,a1,m1,b1,r1⟩:=tt (A:=X.A.in1) I h1 g1;obtain ⟨f2,Sc,Sd,P2,n2,a2,m2,b2,r2⟩:=tt (A:=X.A.in1) I h2 g2;refine tokQ I.tk (iF hz rfl (i7 D n1 n2 (j7 hTn hz h2 D.i1z D.TOi1.symm D.i12 m1) (j7 hTn hz h1 D.i2z D.TOi2.symm D.i12.symm m2) hz hTI hTO a1 a2 fun x y h' tk p1 p2 z1 z2 q1 q2 z3 z4 kp (htk:0 < tk)=>?_));obtain ⟨vx,rx,ax⟩:=r1 x p1;obtain ⟨vy,ry,ay⟩:=r2 y p2;have fresh:H s.heap.objs.size=none:=I.hok.fresh (Nat.le_refl _);have off:∀ {c o},s.heap.get? c=some o->c≠s.heap.objs.size:=fun e=>Nat.ne_of_lt (Heap.lt_size e)
  refine ⟨_,rfl,wpAny_letOwnedTupleGo_zip z1 fun h'' z1' sb=>?_⟩
  replace sb:Heap.SameBut z h' h'':=sb
  have hT:IsPair h'' s.heap.objs.size x y:=sb.extBut _ _ (Ne.symm (off hz)) z3;have I1:Inv X pins σ (upd H s.heap.objs.size (.tup [vx,vy])) { s with heap:=h'',toks:=tk }:=by
   refine I.turnedLaid (its:=[z,TO,i1,i2]) (fun c o hc' e=>?_) (fun c hc'=>hf c ?_) (Nat.le_refl _) ?_
   ·simp only [List.mem_cons,List.not_mem_nil,or_false,not_or] at hc';exact sb.extBut _ _ hc'.1 (kp c o hc'.1 hc'.2.1 hc'.2.2.1 hc'.2.2.2 e)
   ·simp only [List.mem_cons,List.not_mem_nil,or_false] at hc' ⊢;rcases hc' with q | q | q | q
    ·exact .inl q
    ·exact .inr (.inr (.inl q))
    ·exact .inr (.inr (.inr (.inl q)))
    ·exact .inr (.inr (.inr (.inr q)))
   ·exact ⟨by show 2<=sizeLine; decide,[x,y],.cons rx (.cons ry .nil),_,hT,rfl,_,rfl⟩
  refine ⟨.ref s.heap.objs.size,_,I1,rfl,⟨_,vx,vy,rfl,fresh,rfl,ax,ay⟩,⟨x,y,z1',?_,?_,?_,?_⟩,fun c hc'=>?_⟩
  ·exact sb.extBut _ _ D.TIz (kp _ _ D.TIz D.TITO D.TIi1 D.TIi2 hTI)
  ·exact sb.extBut _ _ D.TOz z2
  ·exact (b1 h' q1).at fun o e=>sb.extBut _ _ D.i1z e
  ·exact (b2 h' q2).at fun o e=>sb.extBut _ _ D.i2z e
  ·have ne:c≠s.heap.objs.size:=by
    simp only [List.mem_cons,List.not_mem_nil,or_false] at hc';rcases hc' with rfl | rfl | rfl | rfl | rfl
    ·exact off hz
    ·exact off hTI
    ·exact off hTO
    ·obtain ⟨o,e,_⟩:=(gy h1);exact off e
    ·obtain ⟨o,e,_⟩:=(gy h2);exact off e
   rw [av ne];exact (hf c hc').1
 done:=by
  intro X hP hw hK hc i pins s σ H E I hf st hg;subst hP hw hK;obtain ⟨a,b,hz,hTI,hTO,h1,h2⟩:=st;have hTn:H TO=none:=(hf TO (by simp)).1;have hh:X.A.in1.handled=none:=I.ok.hd hc;have fin:∀ (h':Heap) (tk:Nat),0 < tk->(∀ c o,c≠z->c≠TO->c≠i1->c≠i2->s.heap.get? c=some o->h'.get? c=some o)->Inv X pins σ H { s with heap:=h',toks:=tk }:=fun h' tk htk kp=>
   I.turnedL (its:=[z,TO,i1,i2]) (fun c o hc' e=>by
    simp only [List.mem_cons,List.not_mem_nil,or_false,not_or] at hc';exact kp c o hc'.1 hc'.2.1 hc'.2.2.1 hc'.2.2.2 e) (fun c hc'=>hf c (by
    simp only [List.mem_cons,List.not_mem_nil,or_false] at hc' ⊢;rcases hc' with q | q | q | q
    ·exact .inl q
    ·exact .inr (.inr (.inl q))
    ·exact .inr (.inr (.inr (.inl q)))
    ·exact .inr (.inr (.inr (.inr q)))))
  rcases hg with e1 | ⟨g1,e2⟩
  ·obtain ⟨f1,Sa,n1,a1,m1⟩:=yc I hh h1 e1;exact tokQ I.tk (c8 hz rfl (jE D n1 (j7 hTn hz h2 D.i1z D.TOi1.symm D.i12 m1) hz hTI a1 fun h' e tk kp he=>⟨e,rfl,he,fun htk=>⟨rfl,fin h' tk htk kp⟩⟩))
  ·obtain ⟨f1,Sa,Sb,P1,n1,a1,m1,b1,r1⟩:=tt (A:=X.A.in1) I h1 g1;obtain ⟨f2,Sc,n2,a2,m2⟩:=yc I hh h2 e2;exact tokQ I.tk (c8 hz rfl (jD D n1 n2 (j7 hTn hz h2 D.i1z D.TOi1.symm D.i12 m1) (j7 hTn hz h1 D.i2z D.TOi2.symm D.i12.symm m2) hz hTI hTO a1 a2 fun h' e tk kp he=>⟨e,rfl,he,fun htk=>⟨rfl,fin h' tk htk kp⟩⟩))
 self:=fun _ _ _ _ _ st h=>by
  obtain ⟨a,b,hz,_⟩:=st;exact wpAny_pyIter_zip hz h
noncomputable abbrev tupIt0 (a:Addr):Obj:={ cls:=.type "tuple_iterator",data:=.fields #[.ref a,.int 0 0] }
noncomputable abbrev yH1 (h:Heap) (a:Addr):Heap:=h.push (tupIt0 a)
noncomputable abbrev yH2 (h:Heap) (a b:Addr):Heap:=(yH1 h a).push (tupIt0 b)
noncomputable abbrev yH3 (h:Heap) (a b:Addr):Heap:=(yH2 h a b).push { cls:=.type "tuple",data:=.seq #[.ref h.objs.size,.ref (yH1 h a).objs.size] }
noncomputable abbrev yH4 (h:Heap) (a b:Addr):Heap:=(yH3 h a b).push { cls:=.type "tuple",data:=.seq #[.none,.none] }
noncomputable abbrev yH5 (h:Heap) (a b:Addr):Heap:=(yH4 h a b).push { cls:=.type "zip",data:=.fields #[.none,.bool false,.bool false,.ref (yH2 h a b).objs.size,.ref (yH3 h a b).objs.size] }
theorem my (a b:Addr):
  Meets (Builtin.«zip.__new__» ⟨[.type "zip",.ref a,.ref b],[]⟩) (fun _ R s=>(∃ x,s.heap.IsTuple a x)/\(∃ x,s.heap.IsTuple b x) /\
   R (.ok (.ret (.ref (yH4 s.heap a b).objs.size))) { s with heap:=yH5 s.heap a b }):=
 .of_wp fun prog w A R s h=>by
  obtain ⟨hp,g,d,tk,os⟩:=s; obtain ⟨⟨x1,hl1⟩,⟨x2,hl2⟩,h⟩:=h;have hsub:=sub_zip;have hL1:Heap.IsTuple (Shared.heap ⟨hp,g,d,tk,os⟩) a x1:=hl1;have hL2:Heap.IsTuple (Shared.heap ⟨hp.push (tupIt0 a),g,d,tk,os⟩) b x2:=hl2.push _
  wp_walk using wpAny_pyIter_tuple hL1,wpAny_pyIter_tuple hL2
  exact ⟨_,rfl,h⟩
section
variable {prog:Program} {w:World} {A:Around} {E:Value->Shared->Prop} {s:Shared}
theorem vN {a b:Addr} {Q:Value->Shared->Prop} (hl1:∃ x,s.heap.IsTuple a x) (hl2:∃ x,s.heap.IsTuple b x)
  (h:∀ h',ZipTt (s.heap.objs.size+4) (s.heap.objs.size+2) (s.heap.objs.size+3) s.heap.objs.size (s.heap.objs.size+1) a b 0 h'->(∀ c o,s.heap.get? c=some o->h'.get? c=some o)->Q (.ref (s.heap.objs.size+4)) { s with heap:=h' }):
  wpAny (model prog w) A (call (.type "zip") [.ref a,.ref b]) Q E s:=by
 refine callType_new F.called_zip (by decide) (F.typeCall_zip_2 _ _) (F.newCall_zip_2 _ _) (fun obj=>F.args_object_init_3 obj _ _) F.entry_zip_new
  (my a b) ⟨hl1,hl2,?_⟩
 have z1:(yH1 s.heap a).objs.size=s.heap.objs.size+1:=Heap.size_push ..;have z2:(yH2 s.heap a b).objs.size=s.heap.objs.size+2:=by rw [Heap.size_push,z1]
 have z3:(yH3 s.heap a b).objs.size=s.heap.objs.size+3:=by rw [Heap.size_push,z2]
 have z4:(yH4 s.heap a b).objs.size=s.heap.objs.size+4:=by rw [Heap.size_push,z3]
 have g5:(yH5 s.heap a b).get? (yH4 s.heap a b).objs.size=some _:=Heap.get?_push_size _ rfl;have g4:(yH5 s.heap a b).get? (yH3 s.heap a b).objs.size=some _:=Heap.get?_push_of_some _ (Heap.get?_push_size _ rfl);have g3:(yH5 s.heap a b).get? (yH2 s.heap a b).objs.size=some _:=Heap.get?_push_of_some _ (Heap.get?_push_of_some _ (Heap.get?_push_size _ rfl));have g2:(yH5 s.heap a b).get? (yH1 s.heap a).objs.size=some (tupIt0 b):=Heap.get?_push_of_some _ (Heap.get?_push_of_some _ (Heap.get?_push_of_some _ (Heap.get?_push_size _ rfl)));have g1:(yH5 s.heap a b).get? s.heap.objs.size=some (tupIt0 a):=Heap.get?_push_of_some _ (Heap.get?_push_of_some _ (Heap.get?_push_of_some _ (Heap.get?_push_of_some _ (Heap.get?_push_size _ rfl))));show _/\_;rw [z2,z3,z4] at g5;rw [z1,z2] at g3;rw [z3] at g4;rw [z1] at g2;rw [z4];exact ⟨⟨_,g5,rfl⟩,h _ ⟨_,_,g5,g3,g4,⟨_,g1,rfl,rfl⟩,⟨_,g2,rfl,rfl⟩⟩ fun c o x=>
  Heap.get?_push_of_some _ (Heap.get?_push_of_some _ (Heap.get?_push_of_some _ (Heap.get?_push_of_some _ (Heap.get?_push_of_some _ x))))⟩
end
section
variable {X:Cx}
noncomputable def cZipA (K:Frag) (ta tb:TE):TI:=fun σ H R=>ta σ H fun x H1=>tb σ H1 fun y H2=>(srcK K H2 x fun S1=>srcK K H2 y fun S2=>R (Itz K S1 S2) H2)\/∃ a b,x=.ref a/\y=.ref b/\(∃ xs,H2 a=some (.tup xs))/\(∃ xs,H2 b=some (.tup xs))/\R (ItzT a b) H2
theorem ze {a b:Expr} {ta tb:TE} {elts:List Expr} {kk:Nat} {tpos p pos:Pos} {K:Frag} (hK:X.K=K) (hg:Gl X "zip") (hm:X.mg "zip" = none) (ha:PE X a ta) (hb:PE X b tb) (hs:starEach [a,b] X.env=[(false,eval a X.env),(false,eval b X.env)]:=by rfl) (hs2:starEach [b] X.env=[(false,eval b X.env)]:=by rfl):
  PI X (.Tuple elts kk tpos) (.Call (.Name "zip" p) [a,b] [] pos) (cZipA K ta tb):=by
 subst hK;intro pins s σ H R I h;have hA:PA X [a,b] _:=aa ha.mono (aa hb.mono ad hs2) (by rw [hs,hs2]);refine Call_ (dA I hg hm se (PyProof.Rows.callWith_type1 (thn (hA pos pins s σ H (fun vs H2=>∃ x y,vs=[x,y]/\((srcK X.K H2 x fun S1=>srcK X.K H2 y fun S2=>R (Itz X.K S1 S2) H2)\/∃ a b,x=.ref a/\y=.ref b/\(∃ xs,H2 a=some (.tup xs))/\(∃ xs,H2 b=some (.tup xs))/\R (ItzT a b) H2)) I ⟨_,h,fun x H1 z=>⟨_,z,fun y H2 z=>⟨x,y,rfl,z⟩⟩⟩) fun us s1 ⟨vs,H1,I1,r1,q1⟩=>?_) (by rw [hs,hs2]) (by rw [hs2]; rfl)));obtain ⟨v1,v2,e,q⟩:=q1;subst e;cases r1 with
 | cons r rr=>
  cases rr with
  | cons r' rr=>
   cases rr;have fp:∀ c ∈ [s1.heap.objs.size+4,s1.heap.objs.size+2,s1.heap.objs.size+3,s1.heap.objs.size,s1.heap.objs.size+1],FpOk X pins H1 c:=fun c hc=>by
    have hc':s1.heap.objs.size<=c:=by
     simp only [List.mem_cons,List.not_mem_nil,or_false] at hc;rcases hc with rfl | rfl | rfl | rfl | rfl <;> omega
    exact I1.fpOk hc' (I1.hok.fresh hc')
   rcases q with q | ⟨a1,b1,rfl,rfl,⟨xs,e1⟩,⟨ys,e2⟩,q⟩
   ·obtain ⟨S1,o1,q⟩:=mh q;obtain ⟨S2,o2,q⟩:=mh q;obtain ⟨t1,rfl,k1⟩:=jk I1 o1 r;obtain ⟨t2,rfl,k2⟩:=jk I1 o2 r';refine pz k1 k2 fun h' st kp=>?_
    have st':=st;obtain ⟨_,_,hz,_⟩:=st';exact wpAny_pyIter_zip hz ⟨_,_,_,Itz X.K S1 S2,H1,rfl,I1.kept (t':=s1.toks) kp,rZ (qL _) S1 S2,st,fp,q⟩
   ·cases r;cases r';obtain ⟨_,_,p1,_⟩:=I1.tuple (SqT.of e1);obtain ⟨_,_,p2,_⟩:=I1.tuple (SqT.of e2);refine vN ⟨_,p1⟩ ⟨_,p2⟩ fun h' st kp=>?_
    have st':=st;obtain ⟨_,_,hz,_⟩:=st';exact wpAny_pyIter_zip hz ⟨_,_,_,ItzT a1 b1,H1,rfl,I1.kept (t':=s1.toks) kp,vc (qL _) a1 b1,st,fp,q⟩
theorem yJ {K:Frag} {ta tb:TE} {σ:St} {H:Hp} {R:It->Hp->Prop}:cZipA K ta tb σ H R=ta σ H fun x H1=>tb σ H1 fun y H2=>(srcK K H2 x fun S1=>srcK K H2 y fun S2=>R (Itz K S1 S2) H2)\/∃ a b,x=.ref a/\y=.ref b/\(∃ xs,H2 a=some (.tup xs))/\(∃ xs,H2 b=some (.tup xs))/\R (ItzT a b) H2:=rfl
end
theorem Aj:bootBuiltins "all" = some (.builtin "all"):=by decide +kernel
section
variable {K:Frag} {J:It} {g:TG} {tc:TT} {te:TE} {σc:St} {D:Addr} {Q:VK} {H:Hp}
theorem ly {α:Type} (xs:List α) (R:α -> V->Hp->Prop) (hfree:H D=none) (hn:xs.length<=100000) (hgo:∀ i H1,i < xs.length->Same H H1->J.go i H1) (hst:∀ H1,Same H H1->J.stop xs.length H1)
  (hy:∀ i H1 v H2,i < xs.length->J.yld i H1 v H2->Same H1 H2)
  (mono:∀ x v H1 H2 acc,H1 D=some (.lst acc)->(∀ b o,b≠D->H1 b=some o->H2 b=some o)->R x v H1->R x v H2)
  (hs:∀ i x v H1 H2 (out:VK) (non:Hp->Prop),xs[i]? = some x->Same H H1->(∀ b,H1 b=none->b≠D)->J.yld i H1 v H2->(∀ v H6,Same H2 H6->R x v H6->out v H6) ->
   g v σc H2 fun σ4 H4=>tc σ4 H4 fun b H5=>if b=true then te σ4 H5 out else non H5)
  (hq:∀ H' vs,Same H H'->H' D=some (.lst vs)->Paired (fun x v=>R x v H') xs vs->Q (.ref D) H'):compW J g tc te σc D Q H:=by
 refine ⟨fun i m acc H2=>m=xs.length - i/\i<=xs.length/\Paired (fun x v=>R x v H2) (xs.take i) acc/\Same H H2/\H2 D=some (.lst acc),⟨xs.length,by simp,Nat.zero_le _,.nil,ah hfree _,upd_same⟩,?_⟩;rintro i m acc H2 ⟨rfl,hi,pr,sm,hD⟩;have len:acc.length<=i:=by
  have a:=pr.length;rw [List.length_take] at a;omega
 by_cases hlt:i < xs.length
 ·refine .inr ⟨hgo i H2 hlt sm,fun x H3 y=>?_⟩;have s3:=hy i H2 x H3 hlt y;have hD3:=s3 _ _ hD;refine hs i xs[i] x _ _ _ _ (List.getElem?_eq_getElem hlt) sm (fun b hb z=>by rw [z,hD] at hb; cases hb) y fun v H6 s6 r=>?_
  refine ⟨s6 _ _ hD3,Nat.lt_of_le_of_lt len (sizeBig (by omega)),xs.length - (i+1),by omega,rfl,hlt,?_,aK (sm.trans (s3.trans s6)) hfree,upd_same⟩;rw [List.take_add_one,List.getElem?_eq_getElem hlt];have lift:∀ {l:List α} {vs:List V} {z:α} {u:V} {F G:α -> V->Prop},(∀ a b,F a b->G a b)->Paired F l vs->G z u->Paired G (l++[z]) (vs++[u]):=by
   intro l vs z u F G f pp r
   induction pp with
   | nil=>exact .cons r .nil
   | cons r' _ ih=>exact .cons (f _ _ r') ih
  exact lift (fun _ _ r'=>mono _ _ H2 _ acc hD (fun b o nb q=>by rw [av nb]; exact s6 _ _ (s3 _ _ q)) r') pr (mono _ _ H6 _ acc (s6 _ _ hD3) (fun b o nb q=>by rw [av nb]; exact q) r)
 ·have hi':i=xs.length:=by omega
  subst hi';rw [List.take_length] at pr;exact .inl ⟨hst H2 sm,hq H2 acc sm hD pr⟩
end
section
variable {X:Cx} {o e:Expr} {to te:TE} {apos cpos:Pos}
noncomputable def cExtend (to te:TE):TE:=fun σ H Q=>to σ H fun x H1=>match x with
 | .ref l=>(∃ xs,H1 l=some (.lst xs))/\te σ H1 fun y H2=>match y with
  | .ref b=>∃ xs zs,H2 l=some (.lst xs)/\H2 b=some (.lst zs)/\xs.length+zs.length<=sizeLine/\Q .non (upd H2 l (.lst (xs++zs)))
  | _=>False
 | _=>False
theorem v5 (ho:PE X o to) (he:PE X e te) (hbase:attributeBase o "extend" X.env (eval o X.env)=eval o X.env:=by rfl)
  (hfew:((backTo cpos (starEach [e] X.env)).all (fun x=>!x.1) && (backToKw cpos (keywordEach [] X.env)).all (fun x=>x.1.isSome) && decide ([e].length+([]:List Keyword).length+(if ([]:List Keyword).isEmpty then 0 else 1) < 30))=true:=by rfl)
  (hline:(apos.endLine == cpos.line)=true:=by rfl) (hs:starEach [e] X.env=(false,eval e X.env)::starEach [] X.env:=by rfl) (hplain:(backTo cpos (starEach [] X.env)).any (·.1)=false:=by rfl):
  PE X (.Call (.Attribute o "extend" apos) [e] [] cpos) (cExtend to te):=
 (ny PySem.F.plainAttrs_list PySem.F.slot_list_extend PySem.F.type_list_extend vJ ho.mono (aa he.mono ad hs) hbase hfew hline hs hplain).imp fun σ H Q q=>⟨_,q,fun x H1 z=>by
  split at z
  ·rename_i l;obtain ⟨⟨xs,h⟩,z⟩:=z;refine ⟨.inl ⟨rfl,_,SqL.of h⟩,_,z,fun y H2 z2=>?_⟩;split at z2
   ·obtain ⟨xs2,zs,h2,h3,h4,z3⟩:=z2;exact ⟨l,_,xs2,zs,rfl,rfl,h2,h3,h4,z3⟩
   ·exact z2.elim
  ·exact z.elim⟩
theorem vI {σ:St} {H:Hp} {Q:VK}:cExtend to te σ H Q=to σ H fun x H1=>match x with
 | .ref l=>(∃ xs,H1 l=some (.lst xs))/\te σ H1 fun y H2=>match y with
  | .ref b=>∃ xs zs,H2 l=some (.lst xs)/\H2 b=some (.lst zs)/\xs.length+zs.length<=sizeLine/\Q .non (upd H2 l (.lst (xs++zs)))
  | _=>False
 | _=>False:=rfl
end
end L2
namespace L2
open PySem PyProof.Rows
section
variable {α:Type} {le:α -> α -> Prop}
def Srt (le:α -> α -> Prop) (l:List α):Prop:=l.Pairwise le
structure MInv (le:α -> α -> Prop) (A B out:List α) (ia ib:Nat):Prop where
 ha:ia<=A.length
 hb:ib<=B.length
 srt:Srt le out
 low:∀ x ∈ out,(∀ y ∈ A.drop ia,le x y)/\∀ y ∈ B.drop ib,le x y
 perm:(out++(A.drop ia++B.drop ib)).Perm (A++B)
end
section
variable {α:Type} {le:α -> α -> Prop}
structure HInv (le:α -> α -> Prop) (A B out:List α) (na nb:Nat):Prop where
 ha:na<=A.length
 hb:nb<=B.length
 srt:Srt le out.reverse
 low:∀ x ∈ out,(∀ y ∈ A.take na,le y x)/\∀ y ∈ B.take nb,le y x
 perm:(A.take na++B.take nb++out).Perm (A++B)
end
section
variable {prog:Program} {w:World} {A:Around} {E:Value->Shared->Prop} {s:Shared}
abbrev At2 (st:SortSt) (P:Nat->Nat->Prop) (c:Option (Option Nat) × Nat × Nat) (st':SortSt):Prop:=st'=st/\∃ l o,c=(none,l,o)/\P l o
@[elab_as_elim] theorem At2.el {st:SortSt} {P:Nat->Nat->Prop} {motive:Option (Option Nat) × Nat × Nat->SortSt->Prop} {c:Option (Option Nat) × Nat × Nat} {st':SortSt} (h:At2 st P c st') (k:∀ l o,P l o->motive (none,l,o) st):motive c st':=by
 obtain ⟨rfl,l,o,rfl,h⟩:=h;exact k l o h
end
structure SameSt (st st':SortSt):Prop where
 k:kindOf st'=kindOf st
 a:arrOf st'=arrOf st
 p:pendingOf st'=pendingOf st
 f:failedOf st'=failedOf st
theorem SameSt.trans {a b c:SortSt} (h:SameSt a b) (k:SameSt b c):SameSt a c:=⟨k.k.trans h.k,k.a.trans h.a,k.p.trans h.p,k.f.trans h.f⟩
noncomputable abbrev leB (lt:Keyed->Keyed->Bool):Keyed->Keyed->Prop:=fun x y=>lt y x=false
section
variable {prog:Program} {w:World} {A:Around} {E:Value->Shared->Prop} {s:Shared}
abbrev Lo0 (lt:Keyed->Keyed->Bool) (a b:Array Keyed) (n:Nat) (c:Option (Array Keyed) × Array Keyed × Nat × Nat × Nat):Prop:=∃ out ia ib g,c=(none,out,ia,ib,g)/\MInv (leB lt) a.toList b.toList out.toList ia ib/\ia+1 < a.size/\ib < b.size/\n < ia+ib
@[elab_as_elim] theorem Lo0.el {lt:Keyed->Keyed->Bool} {a b:Array Keyed} {n:Nat} {motive:Option (Array Keyed) × Array Keyed × Nat × Nat × Nat->Prop} {c:Option (Array Keyed) × Array Keyed × Nat × Nat × Nat} (h:Lo0 lt a b n c) (k:∀ out ia ib g,MInv (leB lt) a.toList b.toList out.toList ia ib->ia+1 < a.size->ib < b.size->n < ia+ib->motive (none,out,ia,ib,g)):motive c:=by
 obtain ⟨out,ia,ib,g,rfl,h1,h2,h3,h4⟩:=h;exact k _ _ _ _ h1 h2 h3 h4
abbrev Lo1 (lt:Keyed->Keyed->Bool) (a b:Array Keyed) (n:Nat) (c:Option (Array Keyed) × Array Keyed × Nat × Nat × Nat × Nat):Prop:=∃ out ia ib ac bc,c=(none,out,ia,ib,ac,bc)/\MInv (leB lt) a.toList b.toList out.toList ia ib/\ia+1 < a.size/\ib < b.size/\n<=ia+ib
@[elab_as_elim] theorem Lo1.el {lt:Keyed->Keyed->Bool} {a b:Array Keyed} {n:Nat} {motive:Option (Array Keyed) × Array Keyed × Nat × Nat × Nat × Nat->Prop} {c:Option (Array Keyed) × Array Keyed × Nat × Nat × Nat × Nat} (h:Lo1 lt a b n c) (k:∀ out ia ib ac bc,MInv (leB lt) a.toList b.toList out.toList ia ib->ia+1 < a.size->ib < b.size->n<=ia+ib->motive (none,out,ia,ib,ac,bc)):motive c:=by
 obtain ⟨out,ia,ib,ac,bc,rfl,h1,h2,h3,h4⟩:=h;exact k _ _ _ _ _ h1 h2 h3 h4
abbrev Lo2 (lt:Keyed->Keyed->Bool) (a b:Array Keyed) (n:Nat) (c:Option (Array Keyed) × Array Keyed × Nat × Nat × Nat × Nat × Nat):Prop:=∃ out ia ib g ac bc,c=(none,out,ia,ib,g,ac,bc)/\MInv (leB lt) a.toList b.toList out.toList ia ib/\ia+1 < a.size/\ib < b.size/\n<=ia+ib
@[elab_as_elim] theorem Lo2.el {lt:Keyed->Keyed->Bool} {a b:Array Keyed} {n:Nat} {motive:Option (Array Keyed) × Array Keyed × Nat × Nat × Nat × Nat × Nat->Prop} {c:Option (Array Keyed) × Array Keyed × Nat × Nat × Nat × Nat × Nat} (h:Lo2 lt a b n c) (k:∀ out ia ib g ac bc,MInv (leB lt) a.toList b.toList out.toList ia ib->ia+1 < a.size->ib < b.size->n<=ia+ib->motive (none,out,ia,ib,g,ac,bc)):motive c:=by
 obtain ⟨out,ia,ib,g,ac,bc,rfl,h1,h2,h3,h4⟩:=h;exact k _ _ _ _ _ _ h1 h2 h3 h4
end
section
variable {prog:Program} {w:World} {A:Around} {E:Value->Shared->Prop} {s:Shared}
abbrev Hi0 (lt:Keyed->Keyed->Bool) (a b:Array Keyed) (x n:Nat) (c:Option (Array Keyed) × Nat × Nat × Array Keyed × Nat):Prop:=∃ na nb out g,c=(none,na,nb,out,g)/\HInv (leB lt) a.toList b.toList out.toList na nb/\0 < na/\1 < nb/\na+nb+x < n
@[elab_as_elim] theorem Hi0.el {lt:Keyed->Keyed->Bool} {a b:Array Keyed} {x n:Nat} {motive:Option (Array Keyed) × Nat × Nat × Array Keyed × Nat->Prop} {c:Option (Array Keyed) × Nat × Nat × Array Keyed × Nat} (h:Hi0 lt a b x n c) (k:∀ na nb out g,HInv (leB lt) a.toList b.toList out.toList na nb->0 < na->1 < nb->na+nb+x < n->motive (none,na,nb,out,g)):motive c:=by
 obtain ⟨na,nb,out,g,rfl,h1,h2,h3,h4⟩:=h;exact k _ _ _ _ h1 h2 h3 h4
abbrev Hi1 (lt:Keyed->Keyed->Bool) (a b:Array Keyed) (x n:Nat) (c:Option (Array Keyed) × Nat × Nat × Array Keyed × Nat × Nat):Prop:=∃ na nb out ac bc,c=(none,na,nb,out,ac,bc)/\HInv (leB lt) a.toList b.toList out.toList na nb/\0 < na/\1 < nb/\na+nb+x<=n
@[elab_as_elim] theorem Hi1.el {lt:Keyed->Keyed->Bool} {a b:Array Keyed} {x n:Nat} {motive:Option (Array Keyed) × Nat × Nat × Array Keyed × Nat × Nat->Prop} {c:Option (Array Keyed) × Nat × Nat × Array Keyed × Nat × Nat} (h:Hi1 lt a b x n c) (k:∀ na nb out ac bc,HInv (leB lt) a.toList b.toList out.toList na nb->0 < na->1 < nb->na+nb+x<=n->motive (none,na,nb,out,ac,bc)):motive c:=by
 obtain ⟨na,nb,out,ac,bc,rfl,h1,h2,h3,h4⟩:=h;exact k _ _ _ _ _ h1 h2 h3 h4
abbrev Hi2 (lt:Keyed->Keyed->Bool) (a b:Array Keyed) (x n:Nat) (c:Option (Array Keyed) × Nat × Nat × Array Keyed × Nat × Nat × Nat):Prop:=∃ na nb out g ac bc,c=(none,na,nb,out,g,ac,bc)/\HInv (leB lt) a.toList b.toList out.toList na nb/\0 < na/\1 < nb/\na+nb+x<=n
@[elab_as_elim] theorem Hi2.el {lt:Keyed->Keyed->Bool} {a b:Array Keyed} {x n:Nat} {motive:Option (Array Keyed) × Nat × Nat × Array Keyed × Nat × Nat × Nat->Prop} {c:Option (Array Keyed) × Nat × Nat × Array Keyed × Nat × Nat × Nat} (h:Hi2 lt a b x n c) (k:∀ na nb out g ac bc,HInv (leB lt) a.toList b.toList out.toList na nb->0 < na->1 < nb->na+nb+x<=n->motive (none,na,nb,out,g,ac,bc)):motive c:=by
 obtain ⟨na,nb,out,g,ac,bc,rfl,h1,h2,h3,h4⟩:=h;exact k _ _ _ _ _ _ h1 h2 h3 h4
end
section
variable {prog:Program} {w:World} {A:Around} {E:Value->Shared->Prop} {s:Shared}
end
end L2
namespace L2
open PySem PySem.Spec PyProof.Rows
section
variable {X:Cx} {pins:List (Addr × Obj)} {σ:St} {H:Hp} {s:Shared} {a:Addr} {e o:Expr} {te to ty:TE}
theorem oV:∀ as:List Addr,Vals (as.map V.ref) (as.map Value.ref)
 | []=>.nil
 | a::as=>.cons rfl (oV as)
end
section
variable {prog:Program} {w:World} {A:Around} {E:Value->Shared->Prop} {s:Shared}
end
section
variable {X:Cx}
end
section
variable {prog:Program} {w:World} {A:Around} {E:Value->Shared->Prop} {s:Shared}
end
section
variable {prog:Program} {w:World} {A:Around} {E:Value->Shared->Prop} {s:Shared}
end
theorem ck {α β:Type} {R:α -> β -> Prop}:∀ {l:List α} {m:List β},Paired R l m->Paired (fun b a=>R a b) m l
 | _,_,.nil=>.nil
 | _,_,.cons r t=>.cons r (ck t)
section
variable {X:Cx}
end
section
variable {prog:Program} {w:World} {A:Around} {E:Value->Shared->Prop} {s:Shared} {a:Addr} {δ:Type} {R:δ -> Value->Prop} {D:List (Str × δ)} {k:Str} {tk:Tok}
end
section
variable {X:Cx} {i:Expr} {p pos:Pos} {ty:TE} {x:Str}
end
section
variable {X:Cx} {k:Nat} {x:Str} {ps:List Str} {sp:Sp} {p pos:Pos} {e:Expr} {es:List Expr} {t:TA}
end
section
variable {prog:Program} {w:World} {A:Around} {E:Value->Shared->Prop} {s:Shared}
end
section
variable {X:Cx}
end
section
variable {X:Cx} {o e:Expr} {td ty to te:TE} {apos cpos:Pos}
end
section
variable {prog:Program} {w:World} {A:Around} {E:Value->Shared->Prop} {s:Shared} {it d:Addr} {i ep:Nat} {es:Array DictEntry}
def RawD (h:Heap) (d:Addr) (es:Array DictEntry) (ep:Nat):Prop:=∃ o,h.get? d=some o/\o.ExactDict/\o.data=.dict es ep
theorem RawD.ty (hm:RawD s.heap d es ep):s.TypeIs (.ref d) "dict" := let ⟨o,ho,hc,_⟩:=hm; ⟨o,ho,hc.1⟩
theorem RawD.to {h h':Heap} (hm:RawD h d es ep) (k:∀ o,h.get? d=some o->h'.get? d=some o):RawD h' d es ep:=let ⟨o,ho,r⟩:=hm; ⟨o,k o ho,r⟩
theorem RawD.lt {h:Heap} (hm:RawD h d es ep):d < h.objs.size:=let ⟨_,ho,_⟩:=hm; Heap.lt_size ho
theorem wu {Q:Value->Shared->Prop} (lo:(d == sysModules)=false) (hm:RawD s.heap d es ep)
  (q:Q (.ref s.heap.objs.size) { s with heap:=s.heap.push { cls:=.type "dict_keyiterator",data:=.fields #[.ref d,.int 0 0,.int es.size 0,.int ep 0] } }):wpAny (model prog w) A (pyIter (.ref d)) Q E s:=by
 have ty:=hm.ty;obtain ⟨o,ho,hc,hdat⟩:=hm;refine wpAny_pyIter_slot ty PySem.F.slot_dict_iter (wpAny_call_entry PySem.F.slot_dict_iter ty PySem.F.entry_dict_iter ?_ (PySem.F.args_dict_iter_1 _));unfold Builtin.«dict.__iter__»; refine wpAny_bind ?_; unfold Builtin.Dict.dictSlotNone; refine wpAny_bind (wpAny_notOrdered_dict ty ?_);change wpAny _ _ (pure _) _ _ s; refine wpAny_pure ?_; change wpAny _ _ (Builtin.Dict.showsAll d>>=_) _ _ s; unfold Builtin.Dict.showsAll; rw [if_neg (by simp [lo])];exact wpAny_bind (wpAny_pure (wpAny_bind (wpAny_dictEntries ho hdat (wpAny_bind (wpAny_dictEpoch ho hdat (wpAny_bind (wpAny_newObj_type (wpAny_pure ⟨_,rfl, "dict_keyiterator",_,⟨_,Heap.get?_push_size _ rfl,rfl⟩,PySem.F.slot_dict_keyiterator_next.lookup,by simpa [rawInt] using q⟩))))))))
theorem pC {Q:Option Value->Shared->Prop} (hh:A.handled=none) (hit:s.heap.IsKeyIter it d i es.size ep) (hm:RawD s.heap d es ep)
  (one:∀ e h',es[i]? = some e->h'.IsKeyIter it d (i+1) es.size ep->Heap.SameBut it s.heap h'->Q (some e.key) { s with heap:=h' })
  (non:es[i]? = none->∀ h',Heap.ExtBut it s.heap h'->Q none { s with heap:=h' }):wpAny (model prog w) A (pyNext (.ref it)) Q E s:=by
 have ty:=hit.typeIs;obtain ⟨o,ho,hc,hd⟩:=id hit;obtain ⟨od,hod,_,hdd⟩:=id hm;unfold pyNext; refine wpAny_bind (wpAny_attempt (wpAny_callSpecial?_slot (name:=Str.ofString "__next__") ty PySem.F.slot_dict_keyiterator_next (wpAny_call_entry PySem.F.slot_dict_keyiterator_next ty PySem.F.entry_dict_keyiterator_next ?_ (PySem.F.args_dict_keyiterator_next_1 _))));refine wpAny_bind (wpAny_pure (wpAny_bind (wpAny_bind ?_))); refine wpAny_bind (wpAny_typeNameOfWhole_keyiter ty (wpAny_pure (wpAny_bind (wpAny_fieldsOf ho hd ?_))));simp only [show Builtin.Dict_items.ownsTuple "dict_keyiterator" = false by decide,if_false,Bool.false_eq_true];change wpAny _ _ (if (Value.ref d == Value.none)=true then _ else _) _ _ s;rw [if_neg (nofun:¬ ((Value.ref d == Value.none)=true))];refine wpAny_bind (wpAny_pure (wpAny_bind (wpAny_dictEntries hod hdd ?_))); rw [if_neg (by simp)];refine wpAny_bind (wpAny_pure (wpAny_bind (wpAny_dictEpoch hod hdd ?_))); rw [if_neg (by simp)]; refine wpAny_pure ?_;simp only [Int.toNat_natCast,show ¬ ((i:Int) < 0) by omega,if_false];cases he:es[i]? with
 | some e=>
  refine wpAny_bind ?_; refine wpAny_bind (wpAny_typeNameOfWhole_keyiter ty (wpAny_pure ?_)); refine wpAny_bind (wpAny_isOneOf_keyiter ty ?_);change wpAny _ _ (setField (.ref it) 1 (rawInt ((i:Int)+1))>>=_) _ _ s; refine wpAny_bind (wpAny_setField ho hd (by simp) ?_);have nx:(s.heap.update it (Obj.mapFields (·.setIfInBounds 1 (rawInt ((i:Int)+1))))).IsKeyIter it d (i+1) es.size ep:=⟨_,Heap.get?_update_self _ ho (Obj.isFreed_of_fields (Obj.data_mapFields hd _)),(Obj.cls_mapFields ..).trans hc,by rw [Obj.data_mapFields hd]; simp [rawInt]⟩;refine wpAny_bind (wpAny_holding (wpAny_bind (wpAny_isOneOf_keyiter (s:={ s with heap:=s.heap.update it (Obj.mapFields (·.setIfInBounds 1 (rawInt ((i:Int)+1)))) }) nx.typeIs ?_)));change wpAny _ _ (pure e.key) _ _ _; exact wpAny_pure (wpAny_pure ⟨_,rfl,wpAny_pure (one e _ he nx (Heap.SameBut.update ..))⟩)
 | none=>
  refine wpAny_bind ?_; refine wpAny_bind (wpAny_typeNameOfWhole_keyiter ty (wpAny_pure ?_));change wpAny _ _ (setField (.ref it) 0 .none>>=_) _ _ s; refine wpAny_bind (wpAny_setField ho hd (by simp) ?_);change wpAny _ _ (newExc (.type "StopIteration") []>>=_) _ _ _; refine wpAny_bind ?_; simp only [newTuple,newExc];refine wpAny_bind (wpAny_newObj_type (wpAny_bind (m:=firstArgMember _ _) (wpAny_of_eq (a:=Value.none) (by first | rfl | (unfold firstArgMember; rfl)) (wpAny_newObj_type ?_ (by size_fits)))) (by size_fits));simp only [raiseNew]; refine wpAny_bind (wpAny_handled ?_); rw [show A.in1.handled=_ from hh]; refine wpAny_bind (wpAny_pure (wpAny_throw ?_));refine wpAny_bind (wpAny_isInstance (b:=true) (T := "StopIteration") ⟨_,Heap.get?_push_size _ rfl,rfl⟩ isSubtype_stop (wpAny_pure (non he _ ?_)));exact ((Heap.SameBut.update ..).extBut.push _).push _
theorem tz (hh:A.handled=none) (I d:Addr) (ne:d≠I) (es:Array DictEntry) (ep:Nat):Walks prog w A I [I,d] [I] es.size (fun i v=>∃ e,es[i]? = some e/\v=e.key) (fun i h=>h.IsKeyIter I d i es.size ep/\RawD h d es ep) where
 sub:=fun b hb=>by simp only [List.mem_singleton] at hb; simp [hb]
 frame:=fun _ _ _ st k=>⟨Heap.IsKeyIter.at st.1 fun o e=>k I (by simp) o e,st.2.to fun o e=>k d (by simp) o e⟩
 item:=fun i s Q E hi st q=>pC hh st.1 st.2 (fun e h' he it' sb=>q e.key h' s.toks ⟨e,he,rfl⟩ ⟨it',st.2.to fun o z=>sb.extBut d o ne z⟩ fun b o hb z=>sb.extBut b o (fun y=>hb (by simp [y])) z) fun he=>by simp [hi] at he
 done:=fun s Q E st q=>pC hh st.1 st.2 (fun e h' he=>by simp at he) fun _ h' eb=>q h' s.toks fun b o hb z=>eb b o (fun y=>hb (by simp [y])) z
 self:=fun _ _ _ _ st q=>wpAny_pyIter_keyiter st.1 q
theorem xo (lo:(d == sysModules)=false):PySem.W.KdlSrc prog w "dict" d d es.size (fun i v=>∃ e,es[i]? = some e/\v=e.key) (fun h=>RawD h d es ep) where
 type:=fun _ hm=>hm.ty
 there:=fun _ hm=>⟨hm.lt,hm.lt⟩
 keep:=fun _ _ hm k=>hm.to fun o e=>k d (.inl rfl) o e
 notList:=by decide
 notTuple:=by decide
 hint:=fun _ _ _ _ hm q=>PySem.W.kdl_hint_dict hm.ty q
 iter:=fun _ _ hh hm=>⟨_,_,(fun _ _ q=>wu lo hm q),tz hh _ d (Nat.ne_of_lt hm.lt) es ep,⟨⟨_,Heap.get?_push_size _ rfl,rfl,rfl⟩,hm.to fun o e=>Heap.get?_push_of_some _ e⟩⟩
end
section
variable {X:Cx}
theorem uV {H:Hp}:∀ {kvs:List (List Key × V)} {xs:List (List Key × Addr × Value)},KT H kvs xs->Paired (fun (kv:List Key × V) v=>∃ b,v=.ref b/\H b=some (.tup (kv.1.map kV))) kvs (xs.map fun x=>V.ref x.2.1)
 | _,_,.nil=>.nil
 | _,_,.cons h t=>.cons ⟨_,rfl,h.2.1⟩ (uV t)
noncomputable def kListD:List V->Hp->VK->Prop:=fun xs H Q=>match xs with
 | [.ref a]=>∃ kvs:List (List Key × V),H a=some (.dT kvs)/\∀ p vs,H p=none->Paired (fun (kv:List Key × V) v=>∃ b,v=.ref b/\H b=some (.tup (kv.1.map kV))) kvs vs->Q (.ref p) (upd H p (.lst vs))
 | _=>False
theorem jZ (hc:X.calm=true):CallR X (.type "list") kListD:=by
 intro pins s σ H xs us Q I r q;unfold kListD at q;split at q
 ·obtain ⟨kvs,e,q⟩:=q;rename_i a;obtain ⟨u,rfl,ru⟩:=vals1 r;obtain rfl:u=Value.ref a:=ru;obtain ⟨z,lo,xs,kt,o,es,ep,ho,hx,hdat,hes,_⟩:=zZ I.hok e;have hsz:es.size=xs.length:=size_of_entries hes;have hlen:kvs.length=xs.length:=Paired.length kt;refine tokQ I.tk (PySem.W.kdl_call (xo (es:=es) (ep:=ep) lo) (I.ok.hd hc) ⟨o,ho,hx,hdat⟩ (by omega) fun h' tk acc c' kp hl hi (htk:0 < tk)=>?_);have hacc:acc.toList=(xs.map fun x=>x.2.1).map Value.ref:=by
   refine List.ext_getElem? fun j=>?_
   rw [Array.getElem?_toList];cases hj:acc[j]? with
   | none=>
    have:=Array.getElem?_eq_none_iff.mp hj;rw [List.getElem?_eq_none (by rw [List.length_map,List.length_map]; have:=hi.1; omega)]
   | some v=>
    obtain ⟨e1,h1,rfl⟩:=hi.2 j v hj;rw [entry_at hes j] at h1;obtain ⟨x,hx1,rfl⟩:=Option.map_eq_some_iff.mp h1;rw [List.getElem?_map,List.getElem?_map,hx1];rfl
  refine ⟨.ref s.heap.objs.size,_,I.laid (a:=s.heap.objs.size) (o:=.lst (xs.map fun x=>V.ref x.2.1)) kp (Nat.le_refl _) ⟨?_,acc.toList,c',?_,by simpa using hl⟩,rfl,q _ _ I.fresh (uV kt)⟩
  ·rw [List.length_map];omega
  ·rw [hacc,show (xs.map fun x=>V.ref x.2.1)=(xs.map fun x=>x.2.1).map V.ref by rw [List.map_map]; rfl];exact oV _
 ·exact q.elim
theorem wI {a:Addr} {H:Hp} {Q:VK}:kListD [.ref a] H Q=∃ kvs:List (List Key × V),H a=some (.dT kvs)/\∀ p vs,H p=none->Paired (fun (kv:List Key × V) v=>∃ b,v=.ref b/\H b=some (.tup (kv.1.map kV))) kvs vs->Q (.ref p) (upd H p (.lst vs)):=rfl
end
section
variable {X:Cx}
noncomputable def kCatT (K:Frag):R2:=fun x y H Q=>match x,y with
 | .ref a,.ref b=>∃ xs ys,SqT K H a xs/\SqT K H b ys/\xs≠[]/\ys≠[]/\xs.length+ys.length<=1000/\∀ p,H p=none->Q (.ref p) (upd H p (.tup (xs++ys)))
 | _,_=>False
theorem zB (K:Frag) (hK:X.K=K):OpR X (binaryOp .Add) (kCatT K):=by
 subst hK;intro pins s σ H x y v u Q I rx ry q;unfold kCatT at q;split at q
 ·obtain ⟨xs,ys,h1,h2,h3,h4,h5,q⟩:=q;refine yS pins s σ H _ _ v u Q I rx ry ⟨_,_,xs,ys,rfl,rfl,h1,h2,h3,Nat.le_trans h5 (by decide),fun z=>absurd z h4,fun _ p hp=>q p hp⟩
 ·exact q.elim
theorem zw {K:Frag} {a b:Addr} {H:Hp} {Q:VK}:kCatT K (.ref a) (.ref b) H Q=∃ xs ys,SqT K H a xs/\SqT K H b ys/\xs≠[]/\ys≠[]/\xs.length+ys.length<=1000/\∀ p,H p=none->Q (.ref p) (upd H p (.tup (xs++ys))):=rfl
end
noncomputable def minT:List (List Nat)->List Nat
 | []=>[]
 | x::l=>l.foldl (fun m y=>if y < m then y else m) x
theorem py (f:Nat->List Nat):∀ n,f (argBest (fun i j=>decide (f i < f j)) n)=((List.range n).map fun i=>f (i+1)).foldl (fun m y=>if y < m then y else m) (f 0)
 | 0=>rfl
 | n+1=>by
  rw [List.range_succ,List.map_append,List.foldl_append,<- py f n];generalize e:(fun i j=>decide (f i < f j))=bt;rw [show argBest bt (n+1)=if bt (n+1) (argBest bt n) then n+1 else argBest bt n from rfl];generalize argBest bt n=k;subst e;simp only [decide_eq_true_eq,List.map_cons,List.map_nil,List.foldl_cons,List.foldl_nil];split <;> rfl
theorem xH {l:List (List Nat)} (h:0 < l.length):l.getD (argBest (fun i j=>decide (l.getD i [] < l.getD j [])) (l.length - 1)) []=minT l:=by
 rw [py (fun i=>l.getD i [])];cases l with
 | nil=>simp at h
 | cons x l=>
  show _=l.foldl _ x;congr 1;apply List.ext_getElem?;intro i;by_cases c:i < l.length
  ·simp [c]
  ·rw [List.getElem?_eq_none (by simp; omega),List.getElem?_eq_none (by omega)]
section
variable {X:Cx}
theorem wq {prog:Program} {w:World} {A:Around} {E:Value->Shared->Prop} {s:Shared} {l:Addr} {its:List Value} {ts:List (List Nat)} {Q:Value->Shared->Prop} (hh:A.handled=none) (hl:s.heap.IsList l its.toArray) (hv:Vals (ts.map fun x=>V.str (st x)) its) (hne:0 < ts.length)
  (q:∀ t h' tk,(∀ b o,s.heap.get? b=some o->h'.get? b=some o)->Q (.str (st (minT ts)) t) { s with heap:=h',toks:=tk }):wpAny (model prog w) A (call (.builtin "min") [.ref l]) Q E s:=by
 have lt:l < s.heap.objs.size:=by obtain ⟨_,e,_⟩:=hl; exact Heap.lt_size e
 have hlen:ts.length=its.length:=by have:=Paired.length hv; simpa using this
 have at_:∀ (i:Nat) (v:Value),its.toArray[i]? = some v->∃ t,v=Value.str (st (ts.getD i [])) t:=fun i v e=>by
  have hi:i < ts.length:=by
   have:=(Array.getElem?_eq_some_iff.mp e).1;simp at this;omega
  obtain ⟨u,hu,t,ru⟩:=aE hv (j:=i) (x:=V.str (st ts[i])) (by rw [List.getElem?_map,List.getElem?_eq_getElem hi]; rfl);rw [List.getElem?_toArray] at e;rw [hu] at e;cases e;exact ⟨t,by rw [ru,List.getD_eq_getElem?_getD,List.getElem?_eq_getElem hi]; rfl⟩
 refine call_min_walk (wpAny_pyIter_list hl ⟨_,_,_,_,_,_,fun i j=>decide (ts.getD i [] < ts.getD j []),rfl,Walks.list (A:=A.in1) hh _ l (Nat.ne_of_lt lt) its.toArray,⟨⟨_,Heap.get?_push_size _ rfl,rfl,rfl⟩,hl.push _⟩,fun b hb=>?_,?_,fun i j vi vj s Q E hi hj h=>?_,fun v h' tk hP hk=>?_⟩)
 ·show b < (s.heap.push _).objs.size;rw [Heap.size_push];simp only [List.mem_cons,List.not_mem_nil,or_false] at hb;rcases hb with rfl | rfl
  ·exact Nat.lt_succ_self _
  ·exact Nat.lt_succ_of_lt lt
 ·simpa [<- hlen] using hne
 ·obtain ⟨t,rfl⟩:=at_ i vi hi;obtain ⟨u,rfl⟩:=at_ j vj hj;have h':Q (.bool ((st (ts.getD i [])).cps.toList < (st (ts.getD j [])).cps.toList)) s:=by simpa only [am] using h
  exact PyProof.Rows.lt_str h'
 ·obtain ⟨t,rfl⟩:=at_ _ v hP;have hsz:its.toArray.size=ts.length:=by simp [hlen]
  rw [hsz,xH hne];refine q t h' tk fun b o e=>hk b o ?_ (Heap.get?_push_of_some _ e)
  simp only [List.mem_singleton];exact Nat.ne_of_lt (Heap.lt_size e)
noncomputable def kMinS (K:Frag):List V->Hp->VK->Prop:=fun xs H Q=>match xs with
 | [.ref p]=>∃ ts:List (List Nat),SqL K H p (ts.map fun x=>V.str (st x))/\0 < ts.length/\Q (.str (st (minT ts))) H
 | _=>False
theorem pq (K:Frag) (hK:X.K=K) (hc:X.calm=true):CallR X (.builtin "min") (kMinS K):=by
 subst hK;intro pins s σ H xs us Q I r q;unfold kMinS at q;split at q
 ·obtain ⟨ts,hq,hn,q⟩:=q;obtain ⟨u,rfl,ru⟩:=vals1 r;cases ru;obtain ⟨its,rv,pl,_⟩:=I.list hq;refine tokQ I.tk (wq (I.ok.hd hc) pl.isList rv hn fun t h' tk kp (htk:0 < tk)=>?_);exact ⟨.str (st (minT ts)),H,I.kept kp htk,⟨t,rfl⟩,q⟩
 ·exact q.elim
theorem yB {K:Frag} {p:Addr} {H:Hp} {Q:VK}:kMinS K [.ref p] H Q=∃ ts:List (List Nat),SqL K H p (ts.map fun x=>V.str (st x))/\0 < ts.length/\Q (.str (st (minT ts))) H:=rfl
end
section
variable {X:Cx} {o e:Expr} {to te:TE} {apos cpos:Pos}
theorem lx {H:Hp} {zs:List V}:∀ {xs:List V} {us:List Value},Vals xs us->(∀ y ∈ xs,FlatT H y)->∀ (i:Nat) (h1:i < us.length) (h2:i < xs.length),tupEqU H zs us[i]=tupEq H zs xs[i]
 | y::xs,u::us,.cons r t,f,0,_,_=>by
  obtain ⟨a,ys,rfl,_⟩:=f _ List.mem_cons_self;cases r;rfl
 | y::xs,u::us,.cons r t,f,i+1,h1,h2=>lx t (fun z hz=>f z (List.mem_cons_of_mem _ hz)) i (Nat.lt_of_succ_lt_succ h1) (Nat.lt_of_succ_lt_succ h2)
noncomputable def rIndexT (K:Frag) (k:Nat):V->List V->Hp->VK->Prop:=fun x vs H Q=>∃ p r zs xs,x=.ref p/\vs=[.ref r]/\SqL K H p xs/\xs.length<=100000/\H r=some (.tup zs)/\zs.all flatV=true/\(∀ y ∈ xs,FlatT H y)/\xs.any (tupEq H zs)=true/\Q (.int (xs.findIdx (tupEq H zs):Nat)) H
theorem we {k:Nat} (hr:Room k X.A):MtR X "list.index" (rIndexT X.K k):=by
 intro pins s σ H x vs v us Q I rx rv h;obtain ⟨p,r,zs,xs,rfl,rfl,hq,hn,hz,fz,fs,ha,q⟩:=h;cases rx;obtain ⟨u,rfl,ru⟩:=vals1 rv;cases ru;obtain ⟨its,rl,pl,_⟩:=I.list hq;have hlen:xs.length=its.length:=Paired.length rl;have hj:xs.findIdx (tupEq H zs) < xs.length:=List.findIdx_lt_length.mpr (by simpa using ha);obtain ⟨⟨cls,dd,data,sl⟩,ho,hc,n,hd⟩:=pl.isList;simp only at hc hd;subst hc hd;refine call_meets PySem.F.slot_list_index ⟨_,ho,rfl⟩ PySem.F.entry_list_index (PySem.F.args_list_index_2 _ _) (SeqAt.list_indexAt p its.toArray n dd sl (.ref r) (tupEqU H zs) (xs.findIdx (tupEq H zs)) (by simp; omega) (by omega) ?_ fun m hm hlt=>?_) ⟨ho,fun w hw=>?_,?_⟩
 ·simp only [List.getElem_toArray];rw [lx rl fs _ (by omega) hj];exact List.findIdx_getElem
 ·simp only [List.getElem_toArray];rw [lx rl fs _ (by simpa using hm) (by omega)];exact List.not_of_lt_findIdx hlt
 ·have hw:w ∈ its:=by simpa using hw
  obtain ⟨y,hy,ry⟩:=iL rl w hw;obtain ⟨t,ys,rfl,ht,fy⟩:=fs y hy;cases ry;have:=jm I 1 X.A.in1 (.ref t) (.ref r) (.t (ys.map D.f)) (.t (zs.map D.f)) (.ref t) (.ref r) (by have:=hr.un; show X.A.units+1+1 < _; omega) (.inr (.inr ⟨t,ys,_,rfl,rfl,SqT.of ht,du fy⟩)) (.inr (.inr ⟨r,zs,_,rfl,rfl,SqT.of hz,du fz⟩)) rfl rfl;have e:tupEqU H zs (.ref t)=eqD (.t (ys.map D.f)) (.t (zs.map D.f)):=by
   show tupEq H zs (.ref t)=_;unfold tupEq;simp only [ht];rw [eqD]
  rw [e];exact this
 ·exact ⟨.int _,H,I.tok _,⟨_,rfl⟩,q⟩
noncomputable def cIndexT (K:Frag) (to te:TE):TE:=fun σ H Q=>to σ H fun x H1=>match x with
 | .ref p=>(∃ xs,SqL K H1 p xs)/\te σ H1 fun y H2=>match y with
  | .ref r=>∃ zs xs,SqL K H2 p xs/\xs.length<=100000/\H2 r=some (.tup zs)/\zs.all flatV=true/\(∀ y ∈ xs,FlatT H2 y)/\xs.any (tupEq H2 zs)=true/\Q (.int (xs.findIdx (tupEq H2 zs):Nat)) H2
  | _=>False
 | _=>False
theorem oH (K:Frag) (hK:X.K=K) {k:Nat} (hr:Room k X.A) (ho:PE X o to) (he:PE X e te) (hbase:attributeBase o "index" X.env (eval o X.env)=eval o X.env:=by rfl)
  (hfew:((backTo cpos (starEach [e] X.env)).all (fun x=>!x.1) && (backToKw cpos (keywordEach [] X.env)).all (fun x=>x.1.isSome) && decide ([e].length+([]:List Keyword).length+(if ([]:List Keyword).isEmpty then 0 else 1) < 30))=true:=by rfl)
  (hline:(apos.endLine == cpos.line)=true:=by rfl) (hs:starEach [e] X.env=(false,eval e X.env)::starEach [] X.env:=by rfl) (hplain:(backTo cpos (starEach [] X.env)).any (·.1)=false:=by rfl):
  PE X (.Call (.Attribute o "index" apos) [e] [] cpos) (cIndexT K to te):=by
 subst hK;exact (ny PySem.F.plainAttrs_list PySem.F.slot_list_index PySem.F.type_list_index (we hr) ho.mono (aa he.mono ad hs) hbase hfew hline hs hplain).imp fun σ H Q q=>⟨_,q,fun x H1 z=>by
  split at z
  ·rename_i p;obtain ⟨⟨xs,h⟩,z⟩:=z;refine ⟨.inl ⟨rfl,_,h⟩,_,z,fun y H2 z2=>?_⟩;split at z2
   ·obtain ⟨zs,xs2,h1,h2,h3,h4,h5,h6,z3⟩:=z2;exact ⟨p,_,zs,xs2,rfl,rfl,h1,h2,h3,h4,h5,h6,z3⟩
   ·exact z2.elim
  ·exact z.elim⟩
theorem vq {K:Frag} {σ:St} {H:Hp} {Q:VK}:cIndexT K to te σ H Q=to σ H fun x H1=>match x with
 | .ref p=>(∃ xs,SqL K H1 p xs)/\te σ H1 fun y H2=>match y with
  | .ref r=>∃ zs xs,SqL K H2 p xs/\xs.length<=100000/\H2 r=some (.tup zs)/\zs.all flatV=true/\(∀ y ∈ xs,FlatT H2 y)/\xs.any (tupEq H2 zs)=true/\Q (.int (xs.findIdx (tupEq H2 zs):Nat)) H2
  | _=>False
 | _=>False:=rfl
end
theorem ql:typeLookup (.type "list") "keys" = pure none:=am_miss_of_fast (by kernel_rfl)
section
variable {prog:Program} {w:World} {A:Around} {E:Value->Shared->Prop} {s:Shared} {a:Addr} {its:Array Value} {n:Nat}
theorem u0 {Q:Option Value->Shared->Prop} (hx:s.heap.get? a=some { cls:=.type "list",dict:=none,data:=.seq its n,slots:=#[] }) (hA:A.handled=none)
  (q:∀ h' tk,(∀ b o,s.heap.get? b=some o->h'.get? b=some o)->Q none { s with heap:=h',toks:=tk }):wpAny (model prog w) A (getAttr? (.ref a) "keys") Q E s:=by
 obtain ⟨hp,g,d,tk,os⟩:=s;have ty:∀ tk',(⟨hp,g,d,tk',os⟩:Shared).TypeIs (.ref a) "list" := fun _=>⟨_,hx,rfl⟩
 have g1:=sub_AttributeError; have g3:=PySem.F.slot_list_getattribute.lookup; have g4:=PySem.F.slot_list_getattribute.bind (.ref a); have g5:=am_list_getattr_none;unfold getAttr? getAttrBy? getAttrBy
 repeat (any_goals (first | assumption | exact ty _ | ((with_reducible show wpAny _ _ (call (Value.builtin "list.__getattribute__") _ _) _ _ _); refine call_meets PySem.F.slot_list_getattribute (ty _) am_entry_list_getattribute (PySem.F.args_list_getattribute_2 _ _) (meets_getattribute_miss_list a its n #[] "keys" _ ql (by decide) (by size_fits)) ⟨hx,hA,fun h' tk' e hx'=>?_⟩) | wp_step))
 obtain ⟨t',u',he⟩:=hx'.there;show wpAny _ _ (getattributeRaised _ _ _ _ _ _ _) _ _ _;unfold getattributeRaised
 repeat (any_goals (first | assumption | wp_step))
 exact q h' tk' hx'.keeps
end
theorem db:plainId "dict.update.loop" = true:=by decide +kernel
theorem i9:entryFor table "dict.update.loop" = some Builtin.«dict.update.loop»:=entryFor_of_tree (by kernel_rfl)
section
variable {prog:Program} {w:World} {A:Around} {E:Value->Shared->Prop} {K:Type} [DecidableEq K] {knd:KeyKind prog w K}
theorem xB {s:Shared} {d I l t:Addr} {i n:Nat} {its:Array Value} {kvs:List (K × Value)} {k:K} {key v:Value} {o:Obj} {Q:PySem.Fin->Shared->Prop} (hit:s.heap.IsListIter I l i) (hl:s.heap.IsList l its) (hx:its[i]? = some (.ref t)) (ht:s.heap.get? t=some o) (tc:o.cls=.type "tuple") (td:o.data=.seq #[key,v] n)
  (hk:knd.is k key=true) (hd:s.heap.DictOf knd d kvs) (hz:kvs.length<=sizeLine) (nt:t≠I) (nd:d≠I)
  (q:∀ h' tk,h'.IsListIter I l (i+1)->h'.DictOf knd d (stored kvs k v)->(∀ b o,b≠I->b≠d->s.heap.get? b=some o->h'.get? b=some o)->Q (.again (.builtin "dict.update.loop" ⟨[.ref d,.ref I,rawInt ((i:Int)+1),.none],[]⟩)) { s with heap:=h',toks:=tk }):
  wpAny (model prog w) A (Builtin.«dict.update.loop» ⟨[.ref d,.ref I,rawInt i,.none],[]⟩) Q E s:=by
 unfold Builtin.«dict.update.loop»;refine wpAny_bind (wpAny_pyNext_list_item hit hl hx fun h1 hit1 sb=>?_);have ht1:=sb.extBut t _ nt ht;have hT:({ s with heap:=h1 }:Shared).TypeIs (.ref t) "tuple" := ⟨_,ht1,tc⟩;have hd1:h1.DictOf knd d kvs:=by
  obtain ⟨o,es,ep,ho,r⟩:=hd;exact ⟨o,es,ep,sb.extBut d o nd ho,r⟩
 change wpAny _ _ (holding [Value.ref t] _>>=_) _ _ _;refine wpAny_bind (wpAny_holding (wpAny_bind ?_));change wpAny _ _ (tryCatch _ _) _ _ _;refine wpAny_tryCatch ?_;unfold Builtin.Dict.pairItems;refine wpAny_bind (wpAny_typeOf hT ?_);rw [if_pos (by decide)];refine wpAny_bind (wpAny_seqItems ht1 td (wpAny_pure ?_));change wpAny _ _ (holding [key,v] (dictSet d key v)) _ _ _;unfold dictSet;refine wpAny_holding (wpAny_holding (wpAny_bind (knd.pyHash hk (wpAny_dictSetHashed_pairs (s:={ s with heap:=h1,toks:=s.toks+1 }) hk hd1 (fun h2 hd2 sb2=>?_) hz))));change wpAny _ _ (pure _) _ _ _;refine wpAny_pure (q h2 (s.toks+1) ?_ hd2 fun b o n1 n2 e=>sb2.extBut b o n2 (sb.extBut b o n1 e));obtain ⟨o,ho,r⟩:=hit1;exact ⟨o,sb2.extBut I o (Ne.symm nd) ho,r⟩
theorem zv {s:Shared} {d I l:Addr} {i:Nat} {its:Array Value} {Q:PySem.Fin->Shared->Prop} (hh:A.handled=none) (hit:s.heap.IsListIter I l i) (hl:s.heap.IsList l its) (hx:its[i]? = none)
  (q:∀ h',Heap.ExtBut I s.heap h'->Q (.done (.ret .none)) { s with heap:=h' }):wpAny (model prog w) A (Builtin.«dict.update.loop» ⟨[.ref d,.ref I,rawInt i,.none],[]⟩) Q E s:=by
 unfold Builtin.«dict.update.loop»;refine wpAny_bind (wpAny_pyNext_list_end hh hit hl hx fun h1 eb=>?_);change wpAny _ _ (Builtin.Dict.addKeywords d []>>=_) _ _ _;exact wpAny_bind (wpAny_pure (wpAny_pure (q h1 eb)))
def PairAt (knd:KeyKind prog w K) (h:Heap) (p:K × Value) (u:Value):Prop:=∃ (t n:Nat) (key:Value) (o:Obj),u=.ref t/\h.get? t=some o/\o.cls=.type "tuple" /\ o.data=.seq #[key,p.2] n/\knd.is p.1 key=true
theorem xI {d I l:Addr} {its:Array Value} {R:Result->Shared->Prop} (hh:A.handled=none) (nd:d≠I) (nl:l≠I) (nld:l≠d) (ps:List (K × Value)) (hlen:ps.length=its.size) (hsz:ps.length<=100000):
  ∀ (m i:Nat) (s:Shared) (kvs:List (K × Value)),its.size - i=m->i<=its.size->s.heap.IsListIter I l i->s.heap.IsList l its->s.heap.DictOf knd d kvs->kvs.length<=i->(∀ (j:Nat) p u,ps[j]? = some p->its[j]? = some u->PairAt knd s.heap p u) ->
   (∀ h' tk,h'.DictOf knd d ((ps.drop i).foldl (fun a p=>stored a p.1 p.2) kvs)->(∀ b o,b≠I->b≠d->s.heap.get? b=some o->h'.get? b=some o)->R (.ok (.ret .none)) { s with heap:=h',toks:=tk }) ->
   codeAny (model prog w) A (.builtin "dict.update.loop" ⟨[.ref d,.ref I,rawInt i,.none],[]⟩) R s:=by
 intro m
 induction m with
 | zero=>
  intro i s kvs hm hi hit hl hd hk hp q;refine codeAny_builtin i9 ?_;rw [Around.under_plainId db];refine zv hh hit hl (by simp; omega) fun h' eb=>q h' s.toks ?_ fun b o n1 _ e=>eb b o n1 e
  rw [List.drop_eq_nil_of_le (by omega)];obtain ⟨o,es,ep,ho,r⟩:=hd;exact ⟨o,es,ep,eb d o nd ho,r⟩
 | succ m ih=>
  intro i s kvs hm hi hit hl hd hk hp q;have hlt:i < its.size:=by omega
  have hlp:i < ps.length:=by omega
  obtain ⟨t,n,key,ot,eu,ht,tc,td,hkey⟩:=hp i ps[i] its[i] (List.getElem?_eq_getElem hlp) (Array.getElem?_eq_getElem hlt);have nt:t≠I:=fun z=>by
   obtain ⟨o,ho,hc,_⟩:=hit;rw [z,ho] at ht;cases ht;rw [tc] at hc; exact absurd hc (by simp)
  refine codeAny_builtin i9 ?_;rw [Around.under_plainId db];refine xB hit hl (t:=t) (by rw [Array.getElem?_eq_getElem hlt,eu]) ht tc td hkey hd (Nat.le_trans hk (Nat.le_trans hi (by rw [<- hlen]; exact Nat.le_trans hsz (by decide)))) nt nd fun h1 tk hit1 hd1 kp=>⟨plainId_quiet db _,?_⟩
  have hl1:h1.IsList l its:=by
   obtain ⟨o,ho,r⟩:=hl;exact ⟨o,kp l o nl nld ho,r⟩
  have hc:((i:Int)+1)=((i+1:Nat):Int):=by push_cast; rfl
  rw [hc];refine ih (i+1) { s with heap:=h1,toks:=tk } _ (by omega) (by omega) hit1 hl1 hd1 (Nat.le_trans (stored_length_le _ _ _) (by omega)) (fun j p u hj hu=>?_) fun h2 tk2 hd2 kp2=>?_
  ·obtain ⟨t',n',key',o',e1,e2,tc,td',e3⟩:=hp j p u hj hu;refine ⟨t',n',key',o',e1,kp t' _ (fun z=>?_) (fun z=>?_) e2,tc,td',e3⟩
   ·obtain ⟨o,ho,hc,_⟩:=hit;rw [z,ho] at e2;cases e2;rw [tc] at hc; exact absurd hc (by simp)
   ·obtain ⟨o,es,ep,ho,hc,_⟩:=hd;rw [z,ho] at e2;cases e2;have hc:=hc.1; rw [tc] at hc; exact absurd hc (by simp)
  ·refine q h2 tk2 ?_ fun b o n1 n2 e=>kp2 b o n1 n2 (kp b o n1 n2 e)
   rw [List.drop_eq_getElem_cons hlp];exact hd2
theorem mM:∀ (ps kvs:List (K × Value)),((kvs++ps).map (·.1)).Nodup->ps.foldl (fun a p=>stored a p.1 p.2) kvs=kvs++ps
 | [],kvs,_=>by simp
 | p::ps,kvs,h=>by
  have hn:valueAt kvs p.1=none:=by
   unfold valueAt;rw [List.find?_eq_none.mpr fun x hx=>?_]
   ·rfl
   ·rw [List.map_append,List.map_cons,List.nodup_append] at h;exact fun e=>h.2.2 x.1 (List.mem_map.mpr ⟨x,hx,rfl⟩) p.1 List.mem_cons_self (by simpa using e)
  rw [List.foldl_cons,stored_absent hn,mM ps _ (by simpa using h)];simp
theorem sZ {s:Shared} {l:Addr} {its:Array Value} {n:Nat} {Q:Value->Shared->Prop} (hh:A.handled=none) (hl:s.heap.get? l=some { cls:=.type "list",dict:=none,data:=.seq its n,slots:=#[] }) (ps:List (K × Value)) (hlen:ps.length=its.size) (hsz:ps.length<=100000) (nd:(ps.map (·.1)).Nodup)
  (hp:∀ (j:Nat) p u,ps[j]? = some p->its[j]? = some u->PairAt knd s.heap p u)
  (q:∀ h' tk,h'.DictOf knd s.heap.objs.size ps->(∀ b o,s.heap.get? b=some o->h'.get? b=some o)->Q (.ref s.heap.objs.size) { s with heap:=h',toks:=tk }):wpAny (model prog w) A (call (.type "dict") [.ref l]) Q E s:=by
 refine callType_codes (Q₁:=fun obj s₁=>obj=.ref s.heap.objs.size/\s₁ = { s with heap:=s.heap.push { cls:=.type "dict",data:=.dict #[] } }) PySem.F.kt_called_dict (PySem.F.kt_typeCall_dict_1 _) PySem.F.entry_dict_init (kt_code_dict_new _ ⟨rfl,rfl⟩) ?_;rintro obj s₁ ⟨rfl,rfl⟩;have new:(s.heap.push { cls:=.type "dict",data:=.dict #[] }).DictOf knd s.heap.objs.size []:=Heap.DictOf.new s.heap;have hl1:=Heap.get?_push_of_some (h:=s.heap) { cls:=.type "dict",data:=.dict #[] } hl;have lt:l < s.heap.objs.size:=Heap.lt_size hl;refine ⟨new.typeIs,PySem.F.args_dict_init_2 _ _,?_⟩;unfold Builtin.«dict.__init__»; refine wpAny_bind ?_; unfold Builtin.Dict.selfAndRest; refine wpAny_bind (wpAny_notOrdered_dict new.typeIs ?_);change wpAny _ _ (pure (s.heap.objs.size,[Value.ref l])) _ _ _; refine wpAny_pure ?_;change wpAny _ _ (Builtin.Dict.updateFrom "dict.__init__" s.heap.objs.size (.ref l) [] .none) _ _ _; unfold Builtin.Dict.updateFrom;refine wpAny_bind (wpAny_typeOf (T := "list") ⟨_,hl1,rfl⟩ ?_);rw [if_pos (by decide)];refine wpAny_bind (u0 hl1 hh fun h1 tk1 kp1=>?_);rw [if_pos (show (none:Option Value).isNone=true from rfl)];have hl2:h1.IsList l its:=⟨_,kp1 _ _ hl1,rfl,n,rfl⟩;have sz:s.heap.objs.size < h1.objs.size:=by
  obtain ⟨o,es,ep,ho,_⟩:=new;exact Heap.lt_size (kp1 _ _ ho)
 refine wpAny_bind (wpAny_rule ?_);refine wpAny_bind (wpAny_pyIter_list (s:={ s with heap:=h1,toks:=tk1 }) hl2 ?_);refine wpAny_pure ⟨plainId_quiet db _,?_⟩;have old:∀ b o,s.heap.get? b=some o->(h1.push { cls:=.type "list_iterator",data:=.fields #[.ref l,.int 0 0] }).get? b=some o:=fun b o e=>Heap.get?_push_of_some _ (kp1 _ _ (Heap.get?_push_of_some _ e))
 have new2:(h1.push { cls:=.type "list_iterator",data:=.fields #[.ref l,.int 0 0] }).DictOf knd s.heap.objs.size []:=by
  obtain ⟨o,es,ep,ho,r⟩:=new;exact ⟨o,es,ep,Heap.get?_push_of_some _ (kp1 _ _ ho),r⟩
 refine xI (A:=A.in1) (s:={ s with heap:=h1.push { cls:=.type "list_iterator",data:=.fields #[.ref l,.int 0 0] },toks:=tk1 }) (knd:=knd) (show A.in1.handled=none from hh) (Nat.ne_of_lt sz) (Nat.ne_of_lt (Nat.lt_trans lt sz)) (Nat.ne_of_lt lt) ps hlen hsz its.size 0 [] rfl (Nat.zero_le _) ⟨_,Heap.get?_push_size _ rfl,rfl,rfl⟩ (hl2.push _) new2 (Nat.le_refl _) (fun j p u hj hu=>?_) fun h2 tk2 hd2 kp2=>⟨rfl,?_⟩
 ·obtain ⟨t,n',key,o',e1,e2,e3⟩:=hp j p u hj hu;exact ⟨t,n',key,o',e1,old _ _ e2,e3⟩
 ·rw [List.drop_zero,mM ps [] (by simpa using nd),List.nil_append] at hd2;refine q h2 tk2 hd2 fun b o e=>kp2 b o (fun z=>?_) (fun z=>?_) (old b o e)
  ·have:=Heap.lt_size e;rw [z] at this;exact Nat.lt_asymm this sz
  ·exact Nat.lt_irrefl _ (z ▸ Heap.lt_size e)
end
section
variable {X:Cx}
noncomputable def kDictP:List V->Hp->VK->Prop:=fun xs H Q=>match xs with
 | [.ref p]=>∃ (vs:List V) (kvs:List (Key × V)),H p=some (.lst vs)/\kvs.length<=100000/\(kvs.map (·.1)).Nodup/\Paired (fun (kv:Key × V) v=>∃ t,v=.ref t/\H t=some (.tup [kV kv.1,kv.2])) kvs vs/\∀ d,H d=none->Q (.ref d) (upd H d (.dK kvs))
 | _=>False
theorem nc {P:Program} {w:World} {H:Hp} {h:Heap} (ok:HOk P w H h):∀ {kvs:List (Key × V)} {vs:List V} {us:List Value},Paired (fun (kv:Key × V) v=>∃ t,v=.ref t/\H t=some (.tup [kV kv.1,kv.2])) kvs vs->Vals vs us->∃ ps:List (Key × Value),KV kvs ps/\Paired (PairAt (mixKind P w) h) ps us
 | _,_,_,.nil,.nil=>⟨[],.nil,.nil⟩
 | kv::kvs,_,u::us,.cons ⟨t,rfl,ht⟩ p,.cons ru r=>by
  obtain ⟨ps,h1,h2⟩:=nc ok p r;cases ru;obtain ⟨_,its,rv,o,e1,e2,n,e3⟩:=(show ObjOk P w H h t (.tup [kV kv.1,kv.2]) from ok t _ ht);cases rv with
  | cons r1 rv=>cases rv with
   | cons r2 rv=>
    cases rv;exact ⟨(kv.1,_)::ps,.cons ⟨rfl,r2⟩ h1,.cons ⟨t,n,_,o,rfl,e1,e2,e3,pE r1⟩ h2⟩
theorem ub (hc:X.calm=true):CallR X (.type "dict") kDictP:=by
 intro pins s σ H xs us Q I r q;unfold kDictP at q;split at q
 ·rename_i p;obtain ⟨vs,kvs,hp,hn,nd,pr,q⟩:=q;obtain ⟨u,rfl,ru⟩:=vals1 r;cases ru;obtain ⟨z,its,n,rl,hl,e⟩:=I.lstM hp;obtain ⟨ps,kv,pa⟩:=nc I.hok pr rl;have hl1:kvs.length=ps.length:=Paired.length kv;have hl2:ps.length=its.length:=Paired.length pa;have hk:kvs.map (·.1)=ps.map (·.1):=KV.keys kv;refine tokQ I.tk (sZ (knd:=mixKind X.prog X.w) (I.ok.hd hc) e ps (by simp [hl2]) (by omega) (by rw [<- hk]; exact nd) (fun j x u hj hu=>?_) fun h' tk dd kp (htk:0 < tk)=>?_)
  ·obtain ⟨u',hu',h1⟩:=aE pa hj;rw [List.getElem?_toArray,hu'] at hu;cases hu;exact h1
  ·refine ⟨.ref s.heap.objs.size,_,I.laid (a:=s.heap.objs.size) (o:=.dK kvs) kp (Nat.le_refl _) (wD (Nat.le_trans hn (by decide)) ?_ kv dd),rfl,q _ I.fresh⟩;have:=I.big;simp only [beq_eq_false_iff_ne];exact Nat.ne_of_gt this
 ·exact q.elim
theorem xG {p:Addr} {H:Hp} {Q:VK}:kDictP [.ref p] H Q=∃ (vs:List V) (kvs:List (Key × V)),H p=some (.lst vs)/\kvs.length<=100000/\(kvs.map (·.1)).Nodup/\Paired (fun (kv:Key × V) v=>∃ t,v=.ref t/\H t=some (.tup [kV kv.1,kv.2])) kvs vs/\∀ d,H d=none->Q (.ref d) (upd H d (.dK kvs)):=rfl
end
theorem y8:bootBuiltins "dict" = some (.type "dict"):=by decide +kernel
section
variable {X:Cx}
noncomputable def kNotInT (K:Frag):R2:=fun x y H Q=>match x,y with
 | .ref r,.ref p=>∃ zs xs,SqL K H p xs/\H r=some (.tup zs)/\zs.all flatV=true/\(∀ y ∈ xs,FlatT H y)/\Q (.bl (!xs.any (tupEq H zs))) H
 | _,_=>False
theorem vF (K:Frag) (hK:X.K=K) {k:Nat} (hr:Room k X.A):OpR X (compareOp .NotIn) (kNotInT K):=by
 subst hK;intro pins s σ H x y v u Q I rx ry q;unfold kNotInT at q;split at q
 ·rename_i r p;obtain ⟨zs,xs,hq,hz,fz,fs,q⟩:=q;cases rx;cases ry;obtain ⟨its,rv,pl,_⟩:=I.list hq;refine SeqAt.notIn_listAt (tupEqU H zs) pl.isList (fun w hw=>?_) ⟨.bl _,H,I,rfl,?_⟩
  ·have hw:w ∈ its:=by simpa using hw
   obtain ⟨y,hy,ry⟩:=iL rv w hw;obtain ⟨t,ys,rfl,ht,fy⟩:=fs y hy;cases ry;have:=jm I 1 X.A.in1 (.ref t) (.ref r) (.t (ys.map D.f)) (.t (zs.map D.f)) (.ref t) (.ref r) (by have:=hr.un; show X.A.units+1+1 < _; omega) (.inr (.inr ⟨t,ys,_,rfl,rfl,SqT.of ht,du fy⟩)) (.inr (.inr ⟨r,zs,_,rfl,rfl,SqT.of hz,du fz⟩)) rfl rfl;have e:tupEqU H zs (.ref t)=eqD (.t (ys.map D.f)) (.t (zs.map D.f)):=by
    show tupEq H zs (.ref t)=_;unfold tupEq;simp only [ht];rw [eqD]
   rw [e];exact this
  ·rw [show its.toArray.any (tupEqU H zs)=its.any (tupEqU H zs) by simp,mV rv fs];exact q
 ·exact q.elim
theorem wj {K:Frag} {r p:Addr} {H:Hp} {Q:VK}:kNotInT K (.ref r) (.ref p) H Q=∃ zs xs,SqL K H p xs/\H r=some (.tup zs)/\zs.all flatV=true/\(∀ y ∈ xs,FlatT H y)/\Q (.bl (!xs.any (tupEq H zs))) H:=rfl
end
section
variable {X:Cx} {e:Expr} {te:TE} {pos:Pos}
noncomputable def cFmtC (tv:TE):TE:=fun σ H Q=>tv σ H fun x H1=>match x with
 | .non=>∀ z:Str,z.length<=200000->Q (.str z) H1
 | .bl _=>∀ z:Str,z.length<=200000->Q (.str z) H1
 | .int i=>i=7/\∀ z:Str,z.length<=200000->Q (.str z) H1
 | .str y=>(∀ c ∈ y.cps.toList,c < 16 ^ 8)/\y.length<=10000/\∀ z:Str,z.length<=200000->Q (.str z) H1
 | .ref p=>∃ ls,Few ls/\(H1 p=some (.lst (ls.map fun l=>V.str (st l)))\/H1 p=some (.tup (ls.map fun l=>V.str (st l))))/\∀ z:Str,z.length<=200000->Q (.str z) H1
 | _=>False
theorem yC (hgd:X.A.guards=some []) (hu:X.A.units < cLine) (hv:PE X e te):PE X (.FormattedValue e 114 none pos) (cFmtC te):=by
 intro pins s σ H Q I q;refine wpAny_FormattedValue_repr (thn (hv pins s σ H _ I q) fun u s1 ⟨x,H1,I1,r,z⟩=>?_);dsimp only at z;have fin:∀ (y:Str) (h':Heap) (tk:Nat),0 < tk->(∀ b o,s1.heap.get? b=some o->h'.get? b=some o)->y.length<=200000->(∀ z:Str,z.length<=200000->Q (.str z) H1)->∀ u,wpAny (model X.prog X.w) X.A (formatField (.str y u) Str.empty) (EP X pins σ Q) X.xe { s1 with heap:=h',toks:=tk }:=
  fun y h' tk htk kp hy z u=>tokQ htk (formatField_str (fun t' tk' (htk':0 < tk')=>⟨.str y,H1,I1.kept kp,⟨_,rfl⟩,z y hy⟩) (Nat.le_trans hy (by decide)))
 have same:∀ b o,s1.heap.get? b=some o->s1.heap.get? b=some o:=fun _ _ e=>e
 split at z
 ·cases r;exact pyReprObj_none (fin _ s1.heap _ (Nat.succ_pos _) same (by decide) z _)
 ·rename_i b;cases r;exact pyReprObj_bool (fin _ s1.heap _ (Nat.succ_pos _) same (by cases b <;> decide) z _)
 ·rename_i i;obtain ⟨t,rfl⟩:=r;obtain ⟨rfl,z⟩:=z;exact pyReprObj_int (by decide) (fin _ s1.heap _ (Nat.succ_pos _) same (by decide) z _)
 ·rename_i y;obtain ⟨t,rfl⟩:=r;obtain ⟨h1,h2,z⟩:=z;have hl:=PySem.StrLaws.reprText_len y h1;exact wpAny_pyReprObj_str (fin _ s1.heap _ (Nat.succ_pos _) same (by omega) z _) (Nat.le_trans (by omega:(reprText y).length<=200000) (by decide))
 ·rename_i p;cases r;obtain ⟨ls,hf,hp,z⟩:=z;have hb:=xP hf;have hmul:(1002+2)*(ls.map fun l=>reprText (st l)).length+3<=200000:=by
   rw [List.length_map];have:=hf.1;omega
  rcases hp with hp | hp
  ·obtain ⟨_,its,n,rv,ho⟩:=I1.hok p _ hp;obtain ⟨_,hlen,hat⟩:=mS rv;have hsz:(listText (ls.map fun l=>reprText (st l))).length<=200000:=by have:=sh hb; omega
   cases its with
   | nil=>
    have e:ls=[]:=by cases ls with | nil=>rfl | cons _ _=>simp at hlen
    exact wpAny_pyReprObj_list_empty (s:=s1) ⟨_,ho,rfl⟩ hu ho rfl (fin _ s1.heap _ (Nat.succ_pos _) same (by decide) z _)
   | cons v vs=>
    refine tokQ I1.tk (wpAny_pyReprObj_list (s:=s1) (ts:=ls.map fun l=>reprText (st l)) ⟨_,ho,rfl⟩ hgd (fun _ _ _ hm=>by cases hm) hu ho rfl (by simp only [List.length_map,List.size_toArray]; exact hlen.symm) (fun i y hy=>?_) (fun h' u tk kp (htk:0 < tk)=>fin _ h' tk htk kp hsz z u) (Nat.le_trans hsz (by decide)));rw [List.getElem?_toArray] at hy;obtain ⟨l,t,hl,rfl⟩:=hat i y hy;have hlb:=hb _ (List.mem_map.mpr ⟨l,List.mem_of_getElem? hl,rfl⟩);exact ⟨reprText (st l),by rw [List.getElem?_map,hl]; rfl,ReprIs.str (st l) t (Nat.le_trans hlb (by decide))⟩
  ·obtain ⟨_,its,rv,o,ho,hoc,n,hod⟩:=I1.hok p _ hp;obtain ⟨_,hlen,hat⟩:=mS rv;have hsz:(tupleText (ls.map fun l=>reprText (st l))).length<=200000:=by have:=pJ hb; omega
   have all:∀ (ls:List (List Nat)) (us:List Value),us.length=ls.length->(∀ (i:Nat) u,us[i]? = some u->∃ l t,ls[i]? = some l/\u=Value.str (st l) t)->(∀ l ∈ ls,(reprText (st l)).length<=1002)->ReprAll X.prog X.w us (ls.map fun l=>reprText (st l)):=by
    intro ls
    induction ls with
    | nil=>intro us h1 _ _; cases us with | nil=>exact .nil | cons _ _=>simp at h1
    | cons l ls ih=>
     intro us h1 h2 h3;cases us with
     | nil=>simp at h1
     | cons u us=>
      obtain ⟨l',t,e1,rfl⟩:=h2 0 u rfl;cases e1;exact .cons (ReprIs.str (st l) t (Nat.le_trans (h3 l List.mem_cons_self) (by decide))) (ih us (by simpa using h1) (fun i u hu=>h2 (i+1) u (by simpa using hu)) fun x hx=>h3 x (List.mem_cons_of_mem _ hx))
   refine tokQ I1.tk (wpAny_pyReprObj_tuple (s:=s1) (ts:=ls.map fun l=>reprText (st l)) ⟨_,ho,hoc⟩ hgd (fun _ hm=>by cases hm) hu ho hod (all ls its hlen hat fun l hl=>hb _ (List.mem_map.mpr ⟨l,hl,rfl⟩)) (fun u tk (htk:0 < tk)=>fin _ s1.heap tk htk same hsz z u) (Nat.le_trans hsz (by decide)))
 ·exact z.elim
theorem yw {te:TE} {σ:St} {H:Hp} {Q:VK}:cFmtC te σ H Q=te σ H fun x H1=>match x with
 | .non=>∀ z:Str,z.length<=200000->Q (.str z) H1
 | .bl _=>∀ z:Str,z.length<=200000->Q (.str z) H1
 | .int i=>i=7/\∀ z:Str,z.length<=200000->Q (.str z) H1
 | .str y=>(∀ c ∈ y.cps.toList,c < 16 ^ 8)/\y.length<=10000/\∀ z:Str,z.length<=200000->Q (.str z) H1
 | .ref p=>∃ ls,Few ls/\(H1 p=some (.lst (ls.map fun l=>V.str (st l)))\/H1 p=some (.tup (ls.map fun l=>V.str (st l))))/\∀ z:Str,z.length<=200000->Q (.str z) H1
 | _=>False:=rfl
end
end L2
set_option maxHeartbeats 4000000
namespace L2
open PySem PySem.Spec PyProof.Rows
theorem lc {c:Scope} {x:Str} (h:Loc c x:=by first | exact Or.inl rfl | exact Or.inr rfl):Loc c x:=h
theorem Room.m {j k:Nat} {A:Around} (r:Room k A) (h:j<=k:=by first | decide | omega):Room j A:=r.mono h
end L2
namespace Law
open PySem L2 Mir
noncomputable def top (i:Nat):Stmt:=PySem.Challenge.pw_throng_k41_no_walk.main.body.getD i (.Pass ⟨0,0,0,0⟩)
noncomputable abbrev iK:Stmt:=top 13
theorem qu:FnScope ["thing", "width"] ["thing", "width"] (defScope iK):=⟨rfl,rfl,rfl,by decide +kernel,rfl,by decide +kernel,by decide +kernel⟩
noncomputable abbrev hV:Stmt:=top 14
theorem jz:FnScope ["thing", "width", "signs", "sign"] ["thing", "width", "signs"] (defScope hV):=⟨rfl,rfl,rfl,by decide +kernel,rfl,by decide +kernel,by decide +kernel⟩
noncomputable abbrev iV:Stmt:=top 15
theorem qr:FnScope ["row", "letter"] ["row", "letter"] (defScope iV):=⟨rfl,rfl,rfl,by decide +kernel,rfl,by decide +kernel,by decide +kernel⟩
noncomputable abbrev gM:Stmt:=top 16
theorem fO:FnScope ["one", "other", "mine", "its"] ["one", "other"] (defScope gM):=⟨rfl,rfl,rfl,by decide +kernel,rfl,by decide +kernel,by decide +kernel⟩
noncomputable abbrev dL:Stmt:=top 17
theorem mr:FnScope ["row", "over"] ["row", "over"] (defScope dL):=⟨rfl,rfl,rfl,by decide +kernel,rfl,by decide +kernel,by decide +kernel⟩
noncomputable abbrev cZ:Stmt:=top 19
theorem l6:FnScope ["layout"] ["layout"] (defScope cZ):=⟨rfl,rfl,rfl,by decide +kernel,rfl,by decide +kernel,by decide +kernel⟩
noncomputable abbrev ip:Stmt:=top 20
theorem cS:FnScope ["layout", "name", "first", "field", "size"] ["layout", "name"] (defScope ip):=⟨rfl,rfl,rfl,by decide +kernel,rfl,by decide +kernel,by decide +kernel⟩
noncomputable abbrev gN:Stmt:=top 21
theorem jF:FnScope ["layout", "name", "row", "span"] ["layout", "name", "row"] (defScope gN):=⟨rfl,rfl,rfl,by decide +kernel,rfl,by decide +kernel,by decide +kernel⟩
noncomputable abbrev iw:Stmt:=top 23
theorem fV:FnScope ["rules", "letter", "number", "rule"] ["rules", "letter"] (defScope iw):=⟨rfl,rfl,rfl,by decide +kernel,rfl,by decide +kernel,by decide +kernel⟩
noncomputable abbrev g9:Stmt:=top 24
theorem n4:FnScope ["rules", "number"] ["rules", "number"] (defScope g9):=⟨rfl,rfl,rfl,by decide +kernel,rfl,by decide +kernel,by decide +kernel⟩
noncomputable abbrev iY:Stmt:=top 26
theorem cw:FnScope ["ways", "signs", "longest", "found", "beginning", "door"] ["ways", "signs"] (defScope iY):=⟨rfl,rfl,rfl,by decide +kernel,rfl,by decide +kernel,by decide +kernel⟩
noncomputable abbrev gY:Stmt:=top 28
theorem fS:FnScope ["house", "door", "gate", "rules"] ["house", "door"] (defScope gY):=⟨rfl,rfl,rfl,by decide +kernel,rfl,by decide +kernel,by decide +kernel⟩
noncomputable abbrev gX:Stmt:=top 29
theorem dJ:FnScope ["layout", "house", "door", "letter", "rules", "number", "sent"] ["layout", "house", "door", "letter"] (defScope gX):=⟨rfl,rfl,rfl,by decide +kernel,rfl,by decide +kernel,by decide +kernel⟩
noncomputable abbrev lw:Stmt:=top 30
theorem ua:FnScope ["door", "thing"] ["door", "thing"] (defScope lw):=⟨rfl,rfl,rfl,by decide +kernel,rfl,by decide +kernel,by decide +kernel⟩
noncomputable abbrev ie:Stmt:=top 32
theorem oF:FnScope ["net", "house", "door"] ["net", "house", "door"] (defScope ie):=⟨rfl,rfl,rfl,by decide +kernel,rfl,by decide +kernel,by decide +kernel⟩
noncomputable abbrev fK:Stmt:=top 33
theorem fo:FnScope ["net", "name", "its", "house"] ["net", "name"] (defScope fK):=⟨rfl,rfl,rfl,by decide +kernel,rfl,by decide +kernel,by decide +kernel⟩
noncomputable abbrev i6:Stmt:=top 34
theorem eK:FnScope ["net", "ends", "one", "other"] ["net"] (defScope i6):=⟨rfl,rfl,rfl,by decide +kernel,rfl,by decide +kernel,by decide +kernel⟩
noncomputable abbrev jW:Stmt:=top 36
theorem cm:FnScope ["net", "house", "door", "letter", "houses", "ends", "steps", "step", "does", "end"] ["net", "house", "door", "letter"] (defScope jW):=⟨rfl,rfl,rfl,by decide +kernel,rfl,by decide +kernel,by decide +kernel⟩
noncomputable abbrev mY:Stmt:=top 37
theorem vk:FnScope ["does", "house", "door", "ends"] ["does", "house", "door", "ends"] (defScope mY):=⟨rfl,rfl,rfl,by decide +kernel,rfl,by decide +kernel,by decide +kernel⟩
noncomputable abbrev im:Stmt:=top 38
theorem r8:FnScope ["trail", "step"] ["trail", "step"] (defScope im):=⟨rfl,rfl,rfl,by decide +kernel,rfl,by decide +kernel,by decide +kernel⟩
noncomputable abbrev iU:Stmt:=top 39
theorem qg:FnScope ["net", "house", "door", "letter"] ["net", "house", "door", "letter"] (defScope iU):=⟨rfl,rfl,rfl,by decide +kernel,rfl,by decide +kernel,by decide +kernel⟩
noncomputable abbrev jQ:Stmt:=top 40
theorem sd:FnScope ["end"] ["end"] (defScope jQ):=⟨rfl,rfl,rfl,by decide +kernel,rfl,by decide +kernel,by decide +kernel⟩
noncomputable abbrev iM:Stmt:=top 42
theorem eO:FnScope ["_law_script", "_law_k", "_law_many", "_law_cell", "_law_mixed"] ["_law_script", "_law_k", "_law_many"] (defScope iM):=⟨rfl,rfl,rfl,by decide +kernel,rfl,by decide +kernel,by decide +kernel⟩
noncomputable abbrev de:Stmt:=top 43
theorem bA:FnScope ["_law_script", "_law_k", "_law_many", "_law_letters_here", "_law_start", "_law_body", "_law_j", "_law_at", "_law_step"] ["_law_script", "_law_k", "_law_many"] (defScope de):=⟨rfl,rfl,rfl,by decide +kernel,rfl,by decide +kernel,by decide +kernel⟩
noncomputable abbrev dM:Stmt:=top 44
theorem aT:FnScope ["_law_script", "_law_size", "_law_ahead", "_law_behind", "_law_names_here", "_law_layout_here"] ["_law_script"] (defScope dM):=⟨rfl,rfl,rfl,by decide +kernel,rfl,by decide +kernel,by decide +kernel⟩
noncomputable abbrev eF:Stmt:=top 45
theorem n6:FnScope ["_law_layout_here"] ["_law_layout_here"] (defScope eF):=⟨rfl,rfl,rfl,by decide +kernel,rfl,by decide +kernel,by decide +kernel⟩
noncomputable abbrev iR:Stmt:=top 46
theorem da:FnScope ["_law_layout_here", "_law_first", "_law_name", "_law_size"] ["_law_layout_here"] (defScope iR):=⟨rfl,rfl,rfl,by decide +kernel,rfl,by decide +kernel,by decide +kernel⟩
noncomputable abbrev i8:Stmt:=top 47
theorem cK:FnScope ["_law_script", "_law_layout_here", "_law_width_here", "_law_first", "_law_behind", "_law_places", "_law_k"] ["_law_script", "_law_layout_here"] (defScope i8):=⟨rfl,rfl,rfl,by decide +kernel,rfl,by decide +kernel,by decide +kernel⟩
noncomputable abbrev dg:Stmt:=top 48
theorem dX:FnScope ["_law_script", "_law_told_here", "_law_turn", "_law_count"] ["_law_script", "_law_told_here"] (defScope dg):=⟨rfl,rfl,rfl,by decide +kernel,rfl,by decide +kernel,by decide +kernel⟩
noncomputable abbrev iz:Stmt:=top 49
theorem dF:FnScope ["_law_number", "_law_places", "_law_width_here", "_law_menu", "_law_signs_here", "_law_place"] ["_law_number", "_law_places", "_law_width_here", "_law_menu"] (defScope iz):=⟨rfl,rfl,rfl,by decide +kernel,rfl,by decide +kernel,by decide +kernel⟩
noncomputable abbrev i4:Stmt:=top 50
theorem eQ:FnScope ["_law_script", "_law_k", "_law_told_here", "_law_over_at_here", "_law_width_here", "_law_row", "_law_number", "_law_over"] ["_law_script", "_law_k", "_law_told_here", "_law_over_at_here", "_law_width_here"] (defScope i4):=⟨rfl,rfl,rfl,by decide +kernel,rfl,by decide +kernel,by decide +kernel⟩
noncomputable abbrev fI:Stmt:=top 51
theorem ba:FnScope ["_law_script", "_law_k", "_law_doors", "_law_size", "_law_ways_here", "_law_j", "_law_number", "_law_beginning", "_law_door"] ["_law_script", "_law_k", "_law_doors", "_law_size"] (defScope fI):=⟨rfl,rfl,rfl,by decide +kernel,rfl,by decide +kernel,by decide +kernel⟩
noncomputable abbrev di:Stmt:=top 52
theorem aI:FnScope ["_law_script", "_law_k", "_law_told_here", "_law_layout_here", "_law_pool", "_law_width_here", "_law_first", "_law_behind", "_law_over_at_here", "_law_turn", "_law_count", "_law_doors", "_law_gates", "_law_g", "_law_many", "_law_rules", "_law_over"] ["_law_script", "_law_k", "_law_told_here", "_law_layout_here", "_law_pool"] (defScope di):=⟨rfl,rfl,rfl,by decide +kernel,rfl,by decide +kernel,by decide +kernel⟩
noncomputable abbrev d9:Stmt:=top 53
theorem dN:FnScope ["_law_houses", "_law_spots_here", "_law_name", "_law_house_here"] ["_law_houses"] (defScope d9):=⟨rfl,rfl,rfl,by decide +kernel,rfl,by decide +kernel,by decide +kernel⟩
noncomputable abbrev gZ:Stmt:=top 54
theorem cB:FnScope ["_law_script", "_law_spots_here", "_law_pool", "_law_most", "_law_lines_here", "_law_j", "_law_one"] ["_law_script", "_law_spots_here"] (defScope gZ):=⟨rfl,rfl,rfl,by decide +kernel,rfl,by decide +kernel,by decide +kernel⟩
noncomputable abbrev io:Stmt:=top 55
theorem cV:FnScope ["_law_script", "_law_told_here", "_law_most", "_law_layout_here", "_law_pool", "_law_many", "_law_names_here", "_law_houses"] ["_law_script", "_law_told_here", "_law_most"] (defScope io):=⟨rfl,rfl,rfl,by decide +kernel,rfl,by decide +kernel,by decide +kernel⟩
noncomputable abbrev b8:Stmt:=top 56
theorem aH:FnScope ["_law_script", "_law_told_here", "_law_width_here", "_law_filler", "_law_size", "_law_place", "_law_letters_here", "_law_number", "_law_bits", "_law_rest"] ["_law_script", "_law_told_here", "_law_width_here"] (defScope b8):=⟨rfl,rfl,rfl,by decide +kernel,rfl,by decide +kernel,by decide +kernel⟩
noncomputable abbrev iQ:Stmt:=top 57
theorem ik:FnScope ["_law_row", "_law_letter", "_law_sign", "_law_own"] ["_law_row", "_law_letter"] (defScope iQ):=⟨rfl,rfl,rfl,by decide +kernel,rfl,by decide +kernel,by decide +kernel⟩
noncomputable abbrev df:Stmt:=top 58
theorem md:FnScope ["_law_letter", "_law_over"] ["_law_letter", "_law_over"] (defScope df):=⟨rfl,rfl,rfl,by decide +kernel,rfl,by decide +kernel,by decide +kernel⟩
noncomputable abbrev iI:Stmt:=top 59
theorem bz:FnScope ["_law_layout_here", "_law_ways_here", "_law_letter", "_law_first", "_law_behind", "_law_longest", "_law_what", "_law_beginning", "_law_door"] ["_law_layout_here", "_law_ways_here", "_law_letter"] (defScope iI):=⟨rfl,rfl,rfl,by decide +kernel,rfl,by decide +kernel,by decide +kernel⟩
noncomputable abbrev iO:Stmt:=top 60
theorem cr:FnScope ["_law_layout_here", "_law_house_here", "_law_door", "_law_letter", "_law_rules", "_law_name", "_law_some", "_law_number", "_law_rule_here"] ["_law_layout_here", "_law_house_here", "_law_door", "_law_letter"] (defScope iO):=⟨rfl,rfl,rfl,by decide +kernel,rfl,by decide +kernel,by decide +kernel⟩
noncomputable abbrev d0:Stmt:=top 61
theorem dB:FnScope ["_law_houses", "_law_name", "_law_own", "_law_house_here"] ["_law_houses", "_law_name"] (defScope d0):=⟨rfl,rfl,rfl,by decide +kernel,rfl,by decide +kernel,by decide +kernel⟩
noncomputable abbrev fQ:Stmt:=top 62
theorem eZ:FnScope ["_law_lines_here", "_law_spot", "_law_one", "_law_other"] ["_law_lines_here", "_law_spot"] (defScope fQ):=⟨rfl,rfl,rfl,by decide +kernel,rfl,by decide +kernel,by decide +kernel⟩
noncomputable abbrev fG:Stmt:=top 63
theorem bx:FnScope ["_law_net_here", "_law_spot", "_law_letter", "_law_layout_here", "_law_houses", "_law_lines_here", "_law_trail", "_law_coming", "_law_does_here", "_law_beyond_here"] ["_law_net_here", "_law_spot", "_law_letter"] (defScope fG):=⟨rfl,rfl,rfl,by decide +kernel,rfl,by decide +kernel,by decide +kernel⟩
noncomputable abbrev fA:Stmt:=top 64
theorem kr:FnScope ["_law_found", "_law_due"] ["_law_found", "_law_due"] (defScope fA):=⟨rfl,rfl,rfl,by decide +kernel,rfl,by decide +kernel,by decide +kernel⟩
noncomputable abbrev dQ:Stmt:=top 65
theorem j9:FnScope ["_law_thing"] ["_law_thing"] (defScope dQ):=⟨rfl,rfl,rfl,by decide +kernel,rfl,by decide +kernel,by decide +kernel⟩
noncomputable abbrev gP:Stmt:=top 66
theorem gr:FnScope ["_law_e", "_law_marks_here"] ["_law_e"] (defScope gP):=⟨rfl,rfl,rfl,by decide +kernel,rfl,by decide +kernel,by decide +kernel⟩
noncomputable abbrev cJ:Stmt:=top 67
theorem fu:FnScope ["_law_name", "_law_some"] ["_law_name"] (defScope cJ):=⟨rfl,rfl,rfl,by decide +kernel,rfl,by decide +kernel,by decide +kernel⟩
noncomputable abbrev aJ:Stmt:=top 68
theorem cp:FnScope ["_law_script", "_law_k", "_law_letter", "_law_at", "_law_sign", "_law_some"] ["_law_script", "_law_k", "_law_letter"] (defScope aJ):=⟨rfl,rfl,rfl,by decide +kernel,rfl,by decide +kernel,by decide +kernel⟩
noncomputable abbrev fm:Stmt:=top 69
theorem cT:FnScope ["_law_way", "_law_net_here", "_law_house_here", "_law_door", "_law_letter", "_law_marks_here", "_law_e"] ["_law_way", "_law_net_here", "_law_house_here", "_law_door", "_law_letter"] (defScope fm):=⟨rfl,rfl,rfl,by decide +kernel,rfl,by decide +kernel,by decide +kernel⟩
noncomputable abbrev j4:Stmt:=top 70
theorem cI:FnScope ["_law_script", "_law_told_here", "_law_net_here", "_law_spots_here", "_law_house_here", "_law_door", "_law_letters_here", "_law_letter", "_law_odd", "_law_none", "_law_own", "_law_doors", "_law_handed", "_law_way", "_law_some", "_law_gate"] ["_law_script"] (defScope j4):=⟨rfl,rfl,rfl,by decide +kernel,rfl,by decide +kernel,by decide +kernel⟩
structure Top (K:Frag) (mg:Str->Option Value):Prop where
 lI:Fn K mg "is_letter" iK
 kM:Fn K mg "is_text_of" hV
 lK:Fn K mg "row_holds" iV
 kA:Fn K mg "row_within" gM
 jJ:Fn K mg "row_written" dL
 jh:Fn K mg "layout_width" cZ
 kN:Fn K mg "field_span" ip
 kL:Fn K mg "field_part" gN
 kG:Fn K mg "rule_first" iw
 kC:Fn K mg "is_dropped" g9
 lR:Fn K mg "way_found" iY
 kK:Fn K mg "gate_rules" gY
 ky:Fn K mg "house_does" gX
 pG:Fn K mg "sent_by" lw
 kP:Fn K mg "check_spot" ie
 jI:Fn K mg "house_named" fK
 lP:Fn K mg "line_ends" i6
 nT:Fn K mg "net_walk" jW
 sS:Fn K mg "end_by" mY
 nP:Fn K mg "ring_end" im
 lO:Fn K mg "net_fared" iU
 nW:Fn K mg "fared_by" jQ
 lJ:Fn K mg "_law_draw" iM
 kE:Fn K mg "_law_names" de
 jG:Fn K mg "_law_layout" dM
 kO:Fn K mg "_law_width" eF
 lQ:Fn K mg "_law_span" iR
 lS:Fn K mg "_law_told" i8
 jg:Fn K mg "_law_over_at" dg
 kz:Fn K mg "_law_signs" iz
 lH:Fn K mg "_law_rule" i4
 lM:Fn K mg "_law_ways" fI
 kR:Fn K mg "_law_house" di
 kF:Fn K mg "_law_spots" d9
 kx:Fn K mg "_law_lines" gZ
 nQ:Fn K mg "_law_net" io
 je:Fn K mg "_law_letters" b8
 lG:Fn K mg "_law_lies" iQ
 jf:Fn K mg "_law_written" df
 lL:Fn K mg "_law_goes" iI
 lN:Fn K mg "_law_does" iO
 iG:Fn K mg "_law_house_of" d0
 jH:Fn K mg "_law_beyond" fQ
 lT:Fn K mg "_law_walk" fG
 jb:Fn K mg "_law_same" fA
 ji:Fn K mg "_law_copy" dQ
 kQ:Fn K mg "_law_marks" gP
 gH:Fn K mg "_law_marks_due" cJ
 fJ:Fn K mg "_law_odd_letter" aJ
 jc:Fn K mg "_law_refused" fm
 Af:Fn K mg "law" j4
 az:mg "isinstance" = none
 pH:mg "str" = none
 b5:mg "len" = none
 pI:mg "zip" = none
 ym:mg "sum" = none
 jd:mg "enumerate" = none
 yl:mg "dict" = none
 iA:mg "list" = none
 pF:mg "min" = none
 b7:mg "range" = none
 sT:mg "sorted" = none
 Ae:mg "set" = none
 Ad:mg "max" = none
 yn:mg "int" = none
 ku:mg "tuple" = none
 Ac:mg "all" = none
 nU:mg "bool" = none
 kB:mg "ValueError" = none
 gI:Xn K mg "NoField"
 gD:Xn K mg "NoDoor"
 eU:Xn K mg "NoHouse"
 gF:Xn K mg "Misfit"
 gu:Xn K mg "ThrongError"
 lA:Xn K mg "BadWord"
 nR:Xn K mg "NoLine"
 nN:Xn K mg "NoRule"
 qU:Xn K mg "NoWay"
 qV:Xn K mg "Twice"
 nO:Xn K mg "Unlike"
 gE:Xv K "NoDoor"
 aQ:Xm K "NoDoor" "ThrongError" true
 bL:Xm K "NoDoor" "BadWord" false
 bY:Xm K "NoDoor" "Misfit" false
 bS:Xm K "NoDoor" "NoDoor" true
 bH:Xm K "NoDoor" "NoField" false
 bI:Xm K "NoDoor" "NoHouse" false
 bX:Xm K "NoDoor" "NoLine" false
 bR:Xm K "NoDoor" "NoRule" false
 ci:Xm K "NoDoor" "NoWay" false
 cj:Xm K "NoDoor" "Twice" false
 bW:Xm K "NoDoor" "Unlike" false
 eX:Xv K "NoHouse"
 aN:Xm K "NoHouse" "ThrongError" true
 bo:Xm K "NoHouse" "BadWord" false
 bG:Xm K "NoHouse" "Misfit" false
 bF:Xm K "NoHouse" "NoDoor" false
 bn:Xm K "NoHouse" "NoField" false
 bp:Xm K "NoHouse" "NoHouse" true
 bE:Xm K "NoHouse" "NoLine" false
 bM:Xm K "NoHouse" "NoRule" false
 bO:Xm K "NoHouse" "NoWay" false
 bT:Xm K "NoHouse" "Twice" false
 bJ:Xm K "NoHouse" "Unlike" false
 gK:Xv K "Misfit"
 aR:Xm K "Misfit" "ThrongError" true
 bK:Xm K "Misfit" "BadWord" false
 bU:Xm K "Misfit" "Misfit" true
 bN:Xm K "Misfit" "NoDoor" false
 bD:Xm K "Misfit" "NoField" false
 bC:Xm K "Misfit" "NoHouse" false
 bQ:Xm K "Misfit" "NoLine" false
 bV:Xm K "Misfit" "NoRule" false
 cg:Xm K "Misfit" "NoWay" false
 cf:Xm K "Misfit" "Twice" false
 bP:Xm K "Misfit" "Unlike" false
local macro_rules | `(tactic| walk_at "rd")=>`(tactic| try simp only [AU,BX,BB,yT,zP,y3,BW,BJ,zE,zi,Aw,xQ,AW,zV,zn,zH,BK,Bm,A9,Bf,Bh,zK,yW,zJ,v6,AT,BP,vK,y4,Bu,xK,Bt,Ty.isBl,Ty.isInt,Ty.isStr,Ty.isLst,Ty.isTup,zI,BV,zr,AJ,Bn,BQ,Bd,Br,BN,AV,xZ,Bx,zT,yL,BI,Aq,AX,zu,Al,yZ,A8,Bl,At,y9,zm,AH,yN,zU,Bi,yO,zq,yr,compσ,L2.start,BS,AC,CDiv,CPow,List.map_cons,List.map_nil,List.length_cons,List.length_nil,List.replicate_succ,List.replicate_zero,List.cons_append,List.nil_append,List.getElem?_cons_zero,List.getElem?_cons_succ,List.set_cons_zero,List.set_cons_succ,Option.getD_some,Option.getD_none,Nat.reduceAdd,Nat.reduceSub,Bool.false_bne,Bool.true_bne,Bool.false_xor,Bool.true_xor,Bool.not_eq_true',decide_eq_true_eq,decide_eq_false_iff_not,Bool.not_true,Bool.not_false,if_true,if_false,true_and,and_true,Int.reduceLT,Int.reduceLE,Nat.reduceLeDiff,Bool.false_eq_true,yz,Be,AA,x9,xj,As,vf,wM,AE,tP,AY,zh,AB,yI,x8,wP,BH,Az,yA,yu,Au,xg,A4,zC,Bg,zk,wJ,BT,yv,zS,zf,yF,rz,yP,vB,Av,AN,rQ,yJ,vI,wI,zw,yB,vq,xG,wj,yw,ite_not,am,Bool.true_eq_false,Int.zero_add,reduceIte,ite_true,ite_false])
section
variable {P:Program} {w:World} {K:Frag} {mg:Str->Option Value} {base:Heap}
noncomputable def gp:Sp:=fun vs H Q _=>match vs with
 | [.str a,.str b]=>∀ H',Same H H'->Q (.bl (within a.cps.toList b.cps.toList)) H'
 | _=>False
theorem oi (T:Top K mg):Callee P w K mg base 1 "row_within" ["one", "other"] gp:=by
 refine T.kA.cal fO (by intro vs H Q E h; unfold gp at h; split at h <;> first | rfl | exact h.elim) (fun _ _ _ _ _ _ us hl=>match us,hl with | [_,_],_=>rfl) (fun f cdv A outer s H vs Q E hr h=>?_);unfold gp at h;split at h
 case h_2=>exact h.elim
 refine ⟨_,(ae (aU PassesOwn.never rfl (zipE K rfl rfl T.pI (qv 0) (qv 1)) (tupE K rfl rfl (n:=2) (aq (aj (i:=2) fO.nd rfl lc) (aq (aj (i:=3) fO.nd rfl lc) aP))) (ai (aG (PW.pt (mP (aC jN (qv 3) (qs [45])) (kj (aC jN (qv 3) (qv 2))))) (ai (ao dm)) aA)))
   (ai (ao dm))),?_⟩
 rename_i a b;obtain ⟨x,rfl⟩:∃ x,a=st x:=⟨_,(aF a).symm⟩;obtain ⟨y,rfl⟩:∃ y,b=st y:=⟨_,(aF b).symm⟩;walk_at "rd";refine rD (xs:=x.map fun c=>V.str (st [c])) (ys:=y.map fun c=>V.str (st [c])) (fun i σ H'=>∃ u v,σ = [some (.str (st x)),some (.str (st y)),u,v]/\Same H H'/\within (x.take i) (y.take i)=true) ⟨none,none,rfl,Same.refl _,by simp [within]⟩
  (fun i σ H' _=>⟨rfl,rfl⟩) ?_ ?_
 ·rintro i c d σ H1 p hx hy ⟨u,v,rfl,s1,e1⟩ hp;rw [List.getElem?_map] at hx hy;obtain ⟨c,hc,rfl⟩:=Option.map_eq_some_iff.mp hx;obtain ⟨d,hd,rfl⟩:=Option.map_eq_some_iff.mp hy;walk_at "rd";have s2:Same H (upd H1 p (.tup [V.str (st [c]),V.str (st [d])])):=s1.trans (ah hp _);have bad:¬ d=45->¬ d=c->within x y=false:=fun h1 h2=>by
   unfold within;rw [Bool.eq_false_iff];intro z;rw [List.all_eq_true] at z;have:=z (c,d) (List.mem_of_getElem? (List.getElem?_zip_eq_some.mpr ⟨hc,hd⟩));simp [h1,h2] at this
  have good:d=45\/d=c->within (x.take (i+1)) (y.take (i+1))=true:=fun h=>by
   unfold within at e1 ⊢;rw [List.take_succ,List.take_succ,hc,hd];have hl:(x.take i).length=(y.take i).length:=by
    have:=(List.getElem?_eq_some_iff.mp hc).1;have:=(List.getElem?_eq_some_iff.mp hd).1;simp; omega
   rw [List.zip_append hl,List.all_append,e1];simpa using h
  refine ite2 (fun h1=>?_) fun h1=>ite2 (fun h2=>?_) fun h2=>?_
  ·exact ⟨_,_,rfl,s2,good (.inl h1)⟩
  ·exact ⟨_,_,rfl,s2,good (.inr h2)⟩
  ·have:=h _ s2;simp only [am,bad h1 h2] at this;exact this
 ·rintro σ H1 ⟨u,v,rfl,s1,e1⟩;walk_at "rd";have e2:within x y=true:=by
   simp only [List.length_map] at e1;unfold within at e1 ⊢;rw [List.all_eq_true] at e1 ⊢;rintro ⟨c,d⟩ hm;obtain ⟨i,hi⟩:=List.mem_iff_getElem?.mp hm;obtain ⟨h1,h2⟩:=List.getElem?_zip_eq_some.mp hi;have l1:=(List.getElem?_eq_some_iff.mp h1).1;have l2:=(List.getElem?_eq_some_iff.mp h2).1;refine e1 (c,d) (List.mem_of_getElem? (i:=i) (List.getElem?_zip_eq_some.mpr ⟨?_,?_⟩))
   ·rw [List.getElem?_take_of_lt (by omega)]; exact h1
   ·rw [List.getElem?_take_of_lt (by omega)]; exact h2
  have:=h _ s1;simp only [am,e2] at this;exact this
noncomputable def ix:Sp:=fun vs H Q _=>match vs with
 | [.str a,.str b]=>∀ H',Same H H'->Q (.bl (within b.cps.toList a.cps.toList)) H'
 | _=>False
theorem qt (T:Top K mg):Callee P w K mg base 2 "row_holds" ["row", "letter"] ix:=by
 refine T.lK.cal qr (by intro vs H Q E h; unfold ix at h; split at h <;> first | rfl | exact h.elim) (fun _ _ _ _ _ _ us hl=>match us,hl with | [_,_],_=>rfl) (fun f cdv A outer s H vs Q E hr h=>?_);unfold ix at h;split at h
 case h_2=>exact h.elim
 refine ⟨_,(ai (ao (au (oi T) hr.m rfl (aa (qv 1) (aa (qv 0) ad))))),?_⟩;rename_i a b;walk_at "rd";exact h
noncomputable def wSign (s o:Nat):Nat:=if o=45 then s else o
noncomputable def written (r o:List Nat):List Nat:=(r.zip o).map fun p=>wSign p.1 p.2
theorem fE {r o:List Nat} (h:r.length=o.length):(written r o).length=r.length:=by simp [written,h]
noncomputable def vcode:V->Nat
 | .str x=>x.cps.toList.headD 0
 | _=>0
theorem pA (r o:List Nat):((r.map fun c=>V.str (st [c])).zip (o.map fun c=>V.str (st [c]))).flatMap (fun p=>[V.str (st [wSign (vcode p.1) (vcode p.2)])])=(written r o).map fun k=>V.str (st [k]):=by
 unfold written
 induction r generalizing o with
 | nil=>rfl
 | cons a r ih=>
  cases o with
  | nil=>rfl
  | cons b o=>
   simp only [List.map_cons,List.zip_cons_cons,List.flatMap_cons,ih o];rfl
noncomputable def fh:Sp:=fun vs H Q _=>match vs with
 | [.str a,.str b]=>a.cps.toList.length<=1000/\∀ H',Same H H'->Q (.str (st (written a.cps.toList b.cps.toList))) H'
 | _=>False
theorem nh (T:Top K mg):Callee P w K mg base 1 "row_written" ["row", "over"] fh:=by
 refine T.jJ.cal mr (by intro vs H Q E h; unfold fh at h; split at h <;> first | rfl | exact h.elim) (fun _ _ _ _ _ _ us hl=>match us,hl with | [_,_],_=>rfl) (fun f cdv A outer s H vs Q E hr h=>?_);unfold fh at h;split at h
 case h_2=>exact h.elim
 refine ⟨_,(ai (ao (joinE K rfl (bZ (nt:=2) (fi:=[]) (N':=["mine", "its"]) rfl (cscope rfl (by decide +kernel)) (cnames (N:=["row", "over"]) (sc:=defScope dL) rfl rfl (by decide +kernel)) (j5 (by decide) (by decide)) (zipE K rfl rfl T.pI (qv 0) (qv 1)) (fun _ _ _ _ _=>(tupE K rfl rfl (n:=2) (aq (aj (i:=0) (by show (["mine", "its"]:List Str).Nodup; decide +kernel) rfl lc) (aq (aj (i:=1) (by show (["mine", "its"]:List Str).Nodup; decide +kernel) rfl lc) aP)))) (fun _ _ _ _ _=>aZ) (fun _ _ _ _ _=>(ki (aC bf (qv 1) (qs [45])) (qv 0) (qv 1))))))),?_⟩;rename_i a b;obtain ⟨r,rfl⟩:∃ x,a=st x:=⟨_,(aF a).symm⟩;obtain ⟨o,rfl⟩:∃ x,b=st x:=⟨_,(aF b).symm⟩;obtain ⟨h1,q⟩:=h;simp only [am] at h1 q;walk_at "rd";intro D hD;refine rk (us:=r.map fun c=>V.str (st [c])) (ws:=o.map fun c=>V.str (st [c])) (h:=fun x y=>[V.str (st [wSign (vcode x) (vcode y)])]) hD (fun _ _=>rfl) (fun _ _=>rfl) (by simp; omega) (fun _ _=>by simp) ?_ ?_
 ·intro x y H1 out non hm s1 ho hn;obtain ⟨hx,hy⟩:=List.of_mem_zip hm;obtain ⟨c,_,rfl⟩:=List.mem_map.mp hx;obtain ⟨d,_,rfl⟩:=List.mem_map.mp hy;walk_at "rd";refine ite2 (fun h4=>?_) fun h4=>?_
  ·exact ho _ _ (by simp [wSign,vcode,h4]) (Same.refl _)
  ·exact ho _ _ (by simp [wSign,vcode,h4]) (Same.refl _)
 ·intro H1 s1 e1;rw [pA] at e1;exact ⟨_,SqL.of e1,by simp [written]; omega,q H1 s1⟩
noncomputable def wayStep (s:List Nat) (a:Int × Option (List Nat)) (w:List Nat × List Nat):Int × Option (List Nat):=if (w.1.length:Int) > a.1/\w.1 <+: s then ((w.1.length:Int),some w.2) else a
noncomputable def wayL (ws:List (List Nat × List Nat)) (s:List Nat):Int × Option (List Nat):=ws.foldl (wayStep s) (-1,none)
noncomputable def textOf (v:V) (w:Int) (l:List Nat):Bool:=match v with
 | .str a=>decide ((a.cps.toList.length:Int)=w) && a.cps.toList.all fun c=>decide (c ∈ l)
 | _=>false
def Known (H:Hp) (v:V):Prop:=match v with
 | .non=>True
 | .bl _=>True
 | .int _=>True
 | .str a=>a.cps.toList.length<=1000
 | .ref p=>(∃ xs,H p=some (.lst xs))\/(∃ xs,H p=some (.tup xs))
 | _=>False
noncomputable def fU:Sp:=fun vs H Q _=>match vs with
 | [v,.int w,.str l]=>Known H v/\Q (.bl (textOf v w l.cps.toList)) H
 | _=>False
theorem ox (T:Top K mg):Callee P w K mg base 1 "is_text_of" ["thing", "width", "signs"] fU:=by
 refine T.kM.cal jz (by intro vs H Q E h; unfold fU at h; split at h <;> first | rfl | exact h.elim) (fun _ _ _ _ _ _ us hl=>match us,hl with | [_,_,_],_=>rfl) (fun f cdv A outer s H vs Q E hr h=>?_);unfold fU at h;split at h
 case h_2=>exact h.elim
 refine ⟨_,(ae (aG (PW.pt (z9 (mF (cG (bh .str rfl T.az (qv 0) rfl T.pH mQ))) (xq (aC jN (aB (lenE K rfl) rfl T.b5 aW (aa (qv 0) ad)) (qv 1))))) (ai (ao dm)) aA)
   (ae (aU PassesOwn.never rfl (iterE K rfl (qv 0)) (aj (i:=3) jz.nd rfl lc) (ai (aG (aC (notinE K rfl) (qv 3) (qv 2)) (ai (ao dm)) aA)))
   (ai (ao dm)))),?_⟩
 rename_i v n z;obtain ⟨l,rfl⟩:∃ x,z=st x:=⟨_,(aF z).symm⟩;obtain ⟨hk,q⟩:=h;simp only [am] at q;walk_at "rd";cases v with
 | str a=>
  obtain ⟨x,rfl⟩:∃ x,a=st x:=⟨_,(aF a).symm⟩;walk_at "rd";have hk':x.length<=1000:=hk;refine ⟨by omega,ite2 (fun g1=>?_) fun g1=>?_⟩
  ·refine wK (fun i σ H'=>∃ k,σ = [some (.str (st x)),some (.int n),some (.str (st l)),k]/\H'=H/\(x.take i).all (fun c=>decide (c ∈ l))=true) ⟨none,rfl,rfl,rfl⟩ ?_ ?_
   ·rintro i c σ H1 hc ⟨k,rfl,rfl,e1⟩;walk_at "rd";refine ite2 (fun g2=>⟨_,rfl,?_⟩) fun g2=>?_
    ·rw [List.take_succ,hc,List.all_append,e1];simp [g2]
    ·have e:textOf (.str (st x)) n l=false:=by
      simp only [textOf,am,Bool.and_eq_false_iff];refine .inr ?_;rw [Bool.eq_false_iff];intro z;rw [List.all_eq_true] at z;exact g2 (of_decide_eq_true (z c (List.mem_of_getElem? hc)))
     rw [e] at q;exact q
   ·rintro σ H1 ⟨k,rfl,rfl,e1⟩;walk_at "rd";rw [List.take_length] at e1;have e:textOf (.str (st x)) n l=true:=by
     simp only [textOf,am,Bool.and_eq_true];exact ⟨decide_eq_true g1,e1⟩
    rw [e] at q;exact q
  ·have e:textOf (.str (st x)) n l=false:=by
    simp only [textOf,am,Bool.and_eq_false_iff];exact .inl (decide_eq_false g1)
   rw [e] at q;exact q
 | ref p=>
  rcases hk with hk | hk
  ·exact .inl ⟨hk,q⟩
  ·exact .inr ⟨hk,q⟩
 | non=>exact q
 | bl b=>exact q
 | int i=>exact q
 | _=>exact hk.elim
noncomputable abbrev Fld:=List Nat × Nat
def FldAt (H:Hp) (x:Fld) (v:V):Prop:=∃ t,v=.ref t/\H t=some (.tup [tx x.1,.int x.2])
def Lay (H:Hp) (p:Addr) (ls:List Fld):Prop:=∃ vs,H p=some (.lst vs)/\Paired (FldAt H) ls vs
theorem oJ {H H':Hp} (k:∀ t vs,H t=some (.tup vs)->H' t=some (.tup vs)) {ls:List Fld} {vs:List V} (h:Paired (FldAt H) ls vs):Paired (FldAt H') ls vs:=
 L2.Paired.mapP h fun _ _ ⟨t,e,q⟩=>⟨t,e,k _ _ q⟩
theorem Lay.same {H H':Hp} {p:Addr} {ls:List Fld} (h:Lay H p ls) (s:Same H H'):Lay H' p ls:=by
 obtain ⟨vs,e,pr⟩:=h;exact ⟨vs,s _ _ e,oJ (fun t us q=>s _ _ q) pr⟩
noncomputable def fldD (x:Fld):D:=.t [.f (tx x.1),.f (.int x.2)]
noncomputable def widthL (ls:List Fld):Nat:=(ls.map (·.2)).sum
theorem cu {α β:Type} {F:α -> β -> Prop} {l:List α} {m:List β} (h:Paired F l m):(l.zip m).map (·.2)=m/\∀ x ∈ l.zip m,F x.1 x.2:=by
 induction h with
 | nil=>exact ⟨rfl,fun x hx=>by cases hx⟩
 | cons r _ ih=>exact ⟨by rw [List.zip_cons_cons,List.map_cons,ih.1],fun x hx=>by
   rw [List.zip_cons_cons] at hx;rcases List.mem_cons.mp hx with rfl | hx
   ·exact r
   ·exact ih.2 x hx⟩
theorem dE {α β:Type}:∀ {l:List α} {m:List β},l.length=m.length->(l.zip m).map (·.1)=l
 | [],_,_=>rfl
 | x::l,[],h=>by cases h
 | x::l,y::m,h=>by rw [List.zip_cons_cons,List.map_cons,dE (by simpa using h)]
theorem nM:∀ l:List Nat,(l.map fun n:Nat=>(n:Int)).sum=(l.sum:Nat)
 | []=>rfl
 | x::l=>by rw [List.map_cons,List.sum_cons,List.sum_cons,nM l]; omega
noncomputable def dW (K:Frag):Sp:=fun vs H Q _=>match vs with
 | [.ref p]=>∃ ls:List Fld,Lay H p ls/\ls.length<=1000/\∀ H',Same H H'->Q (.int (widthL ls:Nat)) H'
 | _=>False
theorem l7 (T:Top K mg):Callee P w K mg base 1 "layout_width" ["layout"] (dW K):=by
 refine T.jh.cal l6 (by intro vs H Q E h; unfold dW at h; split at h <;> first | rfl | exact h.elim) (fun _ _ _ _ _ _ us hl=>match us,hl with | [_],_=>rfl) (fun f cdv A outer s H vs Q E hr h=>?_);unfold dW at h;split at h
 case h_2=>exact h.elim
 refine ⟨_,(ai (ao (aB (oT K rfl rfl) rfl T.ym xa (aa (bZ (nt:=2) (fi:=[]) (N':=["name", "size"]) rfl (cscope rfl (by decide +kernel)) (cnames (N:=["layout"]) (sc:=defScope cZ) rfl rfl (by decide +kernel)) (j5 (by decide) (by decide)) (iterE K rfl (qv 0)) (fun _ _ _ _ _=>(tupE K rfl rfl (n:=2) (aq (aj (i:=0) (by show (["name", "size"]:List Str).Nodup; decide +kernel) rfl lc) (aq (aj (i:=1) (by show (["name", "size"]:List Str).Nodup; decide +kernel) rfl lc) aP)))) (fun _ _ _ _ _=>aZ) (fun _ _ _ _ _=>(qv 1))) ad)))),?_⟩;rename_i p;obtain ⟨ls,⟨vs,e0,pr⟩,hn,q⟩:=h;have hl:=pr.length;obtain ⟨z1,z2⟩:=cu pr;walk_at "rd";refine .inl ⟨⟨_,SqL.of e0⟩,fun D hD=>?_⟩;refine cc (item:=fun x:Fld × V=>x.2) (xs:=ls.zip vs) (h:=fun x=>[V.int x.1.2]) hD (by rw [z1]; exact SqL.of e0) (by rw [List.length_zip]; omega) (fun _=>by simp) ?_ ?_
 ·intro x H1 out non hx s1 ho _;obtain ⟨t,ex,et⟩:=z2 x hx;rw [ex];refine ⟨t,[_,_],rfl,SqT.of (s1 _ _ et),rfl,_,[_],rfl,_,[],rfl,rfl,?_⟩;walk_at "rd";exact ho _ _ rfl (Same.refl _)
 ·intro H1 s1 e1;rw [show (ls.zip vs).flatMap (fun x=>[V.int x.1.2])=(ls.map fun x:Fld=>(x.2:Int)).map V.int by
   rw [<- dE (l:=ls) (m:=vs) hl];simp only [List.map_map];rw [dE hl]
   induction ls.zip vs with
   | nil=>rfl
   | cons x r ih=>rw [List.flatMap_cons,ih]; rfl] at e1
  walk_at "rd";refine ⟨_,SqL.of e1,?_⟩;have:=q H1 s1;unfold widthL at this;rw [show (ls.map fun x:Fld=>(x.2:Int)).sum=((ls.map (·.2)).sum:Nat) by rw [<- nM,List.map_map]; rfl];exact this
noncomputable def spanF:List Fld->List Nat->Nat->Option (Nat × Nat)
 | [],_,_=>none
 | (f,z)::r,n,a=>if f=n then some (a,a+z) else spanF r n (a+z)
theorem fg:∀ (l r:List Fld) (n:List Nat) (a:Nat),(∀ x ∈ l,¬ x.1=n)->spanF (l++r) n a=spanF r n (a+widthL l)
 | [],r,n,a,_=>rfl
 | (f,z)::l,r,n,a,h=>by
  have h0:¬ f=n:=h (f,z) List.mem_cons_self;rw [List.cons_append,spanF,if_neg h0,fg l r n (a+z) fun x hx=>h x (List.mem_cons_of_mem _ hx)];unfold widthL;rw [List.map_cons,List.sum_cons,Nat.add_assoc]
theorem fc (n:List Nat):(st n).length=n.length:=by simp [Str.length]
noncomputable def fL (K:Frag):Sp:=fun vs H Q E=>match vs with
 | [.ref p,.str n]=>∃ ls:List Fld,Lay H p ls/\(∀ c ∈ n.cps.toList,c < 16 ^ 8)/\n.cps.toList.length<=1000 /\
   (∀ a b,spanF ls n.cps.toList 0=some (a,b)->∀ t H',H t=none->Same H H'->H' t=some (.tup [.int (a:Nat),.int (b:Nat)])->Q (.ref t) H') /\
   (spanF ls n.cps.toList 0=none->∀ H',Same H H'->E (.ref (xA K "NoField")) none H')
 | _=>False
theorem oB (T:Top K mg):CalleeX P w K mg base 1 "field_span" ["layout", "name"] (fL K):=by
 refine T.kN.calX cS (by intro vs H Q E h; unfold fL at h; split at h <;> first | rfl | exact h.elim) (fun _ _ _ _ _ _ us hl=>match us,hl with | [_,_],_=>rfl) (fun f cdv A outer s H vs Q E hr h=>?_);unfold fL at h;split at h
 case h_2=>exact h.elim
 refine ⟨_,(ae (ak (i:=2) cS.nd rfl lc af)
   (ae (aU PassesOwn.leaving rfl (iterE K rfl (qv 0)) (tupE K rfl rfl (n:=2) (aq (aj (i:=3) cS.nd rfl lc) (aq (aj (i:=4) cS.nd rfl lc) aP))) (ae (aG (aC bf (qv 3) (qv 1)) (ai (ao (aD (aa (qv 2) (aa (ar ap (qv 2) (qv 4)) ad))))) aA)
   (ai (ak (i:=2) cS.nd rfl lc (ar ap (qv 2) (qv 4))))))
   (ai (kq rfl jp rfl T.gI.1 T.gI.2 (aa (uN (fF (qs [110,111,32,102,105,101,108,100,32]) (fF (pY (qv 1)) qq))) ad))))),?_⟩
 rename_i p s;obtain ⟨n,rfl⟩:∃ x,s=st x:=⟨_,(aF s).symm⟩;obtain ⟨ls,⟨vs,e0,pr⟩,hc,hn,q1,q2⟩:=h;simp only [am] at q1 q2 hc hn;have hl:=pr.length;walk_at "rd";refine .inl ⟨⟨_,SqL.of e0⟩,?_⟩;refine bj (xs:=vs) (fun i σ H'=>∃ u v,σ = [some (.ref p),some (.str (st n)),some (.int (widthL (ls.take i):Nat)),u,v]/\Same H H'/\∀ x ∈ ls.take i,¬ x.1=n) ⟨none,none,rfl,Same.refl _,fun x hx=>by simp at hx⟩ (fun i σ H' _ ⟨_,_,_,z,_⟩=>SqL.of (z _ _ e0)) ?_ ?_
 ·rintro i x σ H1 hx ⟨u,v,rfl,s1,h1⟩;have hi:i < vs.length:=(List.getElem?_eq_some_iff.mp hx).1;have hil:i < ls.length:=by omega
  obtain ⟨y,hy,t,ey,et⟩:=aE pr (List.getElem?_eq_getElem hil);obtain rfl:x=.ref t:=by rw [hy] at hx; rw [<- Option.some.inj hx,ey]
  refine ⟨t,[_,_],rfl,SqT.of (s1 _ _ et),rfl,_,[_],rfl,_,[],rfl,rfl,?_⟩;walk_at "rd";have sp:spanF ls n 0=spanF (ls.drop i) n (0+widthL (ls.take i)):=by
   have:=fg (ls.take i) (ls.drop i) n 0 h1;rw [List.take_append_drop] at this;exact this
  rw [List.drop_eq_getElem_cons hil,Nat.zero_add] at sp;have w1:widthL (ls.take (i+1))=widthL (ls.take i)+ls[i].2:=by
   unfold widthL;rw [List.take_add_one,List.getElem?_eq_getElem hil,Option.toList_some,List.map_append,List.sum_append];simp
  refine ite2 (fun g=>⟨by decide,fun t2 ht2=>?_⟩) fun g=>⟨some (tx ls[i].1),some (.int ls[i].2),?_,s1,fun y hy=>?_⟩
  ·refine q1 (widthL (ls.take i)) (widthL (ls.take i)+ls[i].2) ?_ t2 _ (s1.free ht2) (s1.trans (ah ht2 _)) ?_
   ·rw [sp,show ls[i]=(ls[i].1,ls[i].2) from rfl,spanF,if_pos g]
   ·rw [upd_same];simp
  ·rw [w1];simp
  ·rw [List.take_add_one,List.getElem?_eq_getElem hil] at hy;rcases List.mem_append.mp hy with hy | hy
   ·exact h1 y hy
   ·have e:y=ls[i]:=by simpa using hy
    rw [e];exact g
 ·rintro σ H1 ⟨u,v,rfl,s1,h1⟩;walk_at "rd";have e:spanF ls n 0=none:=by
   have:=fg ls [] n 0 fun x hx=>h1 x (by rw [<- hl,List.take_length]; exact hx)
   rw [List.append_nil] at this;exact this
  have hz:(st n).length=n.length:=fc n;refine ⟨by rw [fc]; exact Nat.le_of_lt (sizeBig (by decide)),hc,by omega,fun z hzz=>⟨?_,fun _=>⟨by decide,q2 e H1 s1⟩⟩⟩;rw [fc];exact Nat.le_of_lt (sizeBig (by simp only [List.length_cons,List.length_nil]; omega))
noncomputable def gq (K:Frag):Sp:=fun vs H Q E=>match vs with
 | [.ref p,.str n,.str r]=>∃ ls:List Fld,Lay H p ls/\(∀ c ∈ n.cps.toList,c < 16 ^ 8)/\n.cps.toList.length<=1000/\r.cps.toList.length<=1000 /\
   (∀ a b,spanF ls n.cps.toList 0=some (a,b)->b<=r.cps.toList.length/\∀ H',Same H H'->Q (tx ((r.cps.toList.drop a).take (b - a))) H') /\
   (spanF ls n.cps.toList 0=none->∀ H',Same H H'->E (.ref (xA K "NoField")) none H')
 | _=>False
theorem mK:∀ (l:List Fld) (n:List Nat) (a x y:Nat),spanF l n a=some (x,y)->x<=y
 | [],_,_,_,_,h=>by cases h
 | (f,z)::l,n,a,x,y,h=>by
  rw [spanF] at h;split at h
  ·cases h; omega
  ·exact mK l n _ x y h
theorem ou (T:Top K mg):CalleeX P w K mg base 2 "field_part" ["layout", "name", "row"] (gq K):=by
 refine T.kL.calX jF (by intro vs H Q E h; unfold gq at h; split at h <;> first | rfl | exact h.elim) (fun _ _ _ _ _ _ us hl=>match us,hl with | [_,_,_],_=>rfl) (fun f cdv A outer s H vs Q E hr h=>?_);unfold gq at h;split at h
 case h_2=>exact h.elim
 refine ⟨_,(ae (ak (i:=3) jF.nd rfl lc (i5 (oB T) hr.m cW rfl (aa (qv 0) (aa (qv 1) ad))))
   (ai (ao (cz slB (qv 2) (cE (aw (ixE K rfl) (qv 3) af (fun _ _=>rfl))) (cE (aw (ixE K rfl) (qv 3) af (fun _ _=>rfl))))))),?_⟩
 rename_i p s r;obtain ⟨n,rfl⟩:∃ x,s=st x:=⟨_,(aF s).symm⟩;obtain ⟨l,rfl⟩:∃ x,r=st x:=⟨_,(aF r).symm⟩;obtain ⟨ls,hL,hc,hn,hr',q1,q2⟩:=h;simp only [am] at q1 q2 hc hn hr';walk_at "rd";refine ⟨ls,hL,by simp only [am]; exact hc,by simp only [am]; exact hn,fun a b e t H1 ht s1 e1=>?_,fun e H1 s1=>q2 (by simpa only [am] using e) H1 s1⟩;simp only [am] at e;obtain ⟨hb,q1⟩:=q1 a b e;have hab:=mK ls n 0 a b e;walk_at "rd";refine ⟨_,_,.inr (SqT.of e1),rfl,?_⟩;walk_at "rd";refine ⟨_,_,.inr (SqT.of e1),rfl,?_⟩;walk_at "rd";refine ⟨by omega,by omega,by omega,by omega,?_⟩;have:=q1 H1 s1;simpa using this
noncomputable abbrev Rule:=List Nat × List Nat × List Nat
def RuleAt (H:Hp) (x:Rule) (v:V):Prop:=∃ t,v=.ref t/\H t=some (.tup [tx x.1,tx x.2.1,tx x.2.2])
def Rules (H:Hp) (p:Addr) (rs:List Rule):Prop:=∃ vs,H p=some (.lst vs)/\Paired (RuleAt H) rs vs
theorem jU {H H':Hp} (k:∀ t vs,H t=some (.tup vs)->H' t=some (.tup vs)) {rs:List Rule} {vs:List V} (h:Paired (RuleAt H) rs vs):Paired (RuleAt H') rs vs:=
 L2.Paired.mapP h fun _ _ ⟨t,e,q⟩=>⟨t,e,k _ _ q⟩
theorem cx {H:Hp} {g:Addr} {xs ys:List V} (h:H g=some (.lst xs)):∀ t vs,H t=some (.tup vs)->upd H g (.lst ys) t=some (.tup vs):=fun t vs q=>by
 rw [av (fun e=>by rw [e,h] at q; cases q)];exact q
theorem Rules.same {H H':Hp} {p:Addr} {rs:List Rule} (h:Rules H p rs) (s:Same H H'):Rules H' p rs:=by
 obtain ⟨vs,e,pr⟩:=h;exact ⟨vs,s _ _ e,jU (fun t us q=>s _ _ q) pr⟩
noncomputable def ruleD (x:Rule):D:=.t [.f (tx x.1),.f (tx x.2.1),.f (tx x.2.2)]
noncomputable def firstR (rs:List Rule) (l:List Nat):Nat:=rs.findIdx fun r=>within l r.1
noncomputable def gn (K:Frag):Sp:=fun vs H Q _=>match vs with
 | [.ref p,.str l]=>∃ rs:List Rule,Rules H p rs/\∀ H',Same H H'->Q (.int (firstR rs l.cps.toList)) H'
 | _=>False
theorem oE (T:Top K mg):Callee P w K mg base 3 "rule_first" ["rules", "letter"] (gn K):=by
 refine T.kG.cal fV (by intro vs H Q E h; unfold gn at h; split at h <;> first | rfl | exact h.elim) (fun _ _ _ _ _ _ us hl=>match us,hl with | [_,_],_=>rfl) (fun f cdv A outer s H vs Q E hr h=>?_);unfold gn at h;split at h
 case h_2=>exact h.elim
 refine ⟨_,(ae (aU PassesOwn.never rfl (rE K rfl rfl T.jd (qv 0)) (tupE K rfl rfl (n:=2) (aq (aj (i:=2) fV.nd rfl lc) (aq (aj (i:=3) fV.nd rfl lc) aP))) (ai (aG (cG (au (qt T) hr.m rfl (aa (aw (ixE K rfl) (qv 3) af (fun _ _=>rfl)) (aa (qv 1) ad)))) (ai (ao (qv 2))) aA)))
   (ai (ao (aB (lenE K rfl) rfl T.b5 aW (aa (qv 0) ad))))),?_⟩
 rename_i p s;obtain ⟨l,rfl⟩:∃ x,s=st x:=⟨_,(aF s).symm⟩;obtain ⟨rs,⟨vs,e0,pr⟩,q⟩:=h;simp only [am] at q;have hl:=pr.length;walk_at "rd";refine ⟨⟨_,SqL.of e0⟩,?_⟩;refine mX (xs:=vs) (fun i σ H'=>∃ u v,σ = [some (.ref p),some (.str (st l)),u,v]/\Same H H'/\∀ r ∈ rs.take i,within l r.1=false) ⟨none,none,rfl,Same.refl _,fun r hr=>by simp at hr⟩ (fun i σ H' _ ⟨_,_,_,z,_⟩=>SqL.of (z _ _ e0)) ?_ ?_
 ·rintro i x σ H1 t hx ⟨u,v,rfl,s1,h1⟩ ht;have hi:i < vs.length:=(List.getElem?_eq_some_iff.mp hx).1;have hiw:i < rs.length:=by omega
  obtain ⟨y,hy,t',ey,et⟩:=aE pr (List.getElem?_eq_getElem hiw);obtain rfl:x=.ref t':=by rw [hy] at hx; rw [<- Option.some.inj hx,ey]
  have s2:=s1.trans (ah ht (.tup [.int i,.ref t']));have st1:=SqT.of (K:=K) (s2 _ _ et);walk_at "rd";refine ⟨_,_,.inr st1,rfl,fun H2 s3=>?_⟩;simp only [am];walk_at "rd";refine ite2 (fun g=>?_) fun g=>⟨_,_,rfl,s2.trans s3,fun r hr=>?_⟩
  ·have e:firstR rs l=i:=(List.findIdx_eq hiw).mpr ⟨g,fun j hj=>h1 rs[j] (List.mem_take_iff_getElem.mpr ⟨j,by omega,rfl⟩)⟩;have:=q H2 (s2.trans s3);rw [e] at this;exact this
  ·rw [List.take_add_one,List.getElem?_eq_getElem hiw] at hr;rcases List.mem_append.mp hr with hr | hr
   ·exact h1 r hr
   ·have e:r=rs[i]:=by simpa using hr
    rw [e];simpa using g
 ·rintro σ H1 ⟨u,v,rfl,s1,h1⟩;walk_at "rd";refine ⟨vs,.inl (SqL.of (s1 _ _ e0)),?_⟩;have e:firstR rs l=vs.length:=by
   unfold firstR;rw [<- hl];exact List.findIdx_eq_length.mpr fun r hr=>h1 r (by rw [<- hl,List.take_length]; exact hr)
  have:=q H1 s1;rw [e] at this;exact this
noncomputable def dropT:List Nat:=[100,114,111,112]
noncomputable def passT:List Nat:=[112,97,115,115]
noncomputable def dropB (rs:List Rule) (k:Nat):Bool:=match rs[k]? with
 | some r=>decide (r.2.1=dropT)
 | none=>true
noncomputable def gc (K:Frag):Sp:=fun vs H Q _=>match vs with
 | [.ref p,.int k]=>∃ (rs:List Rule) (j:Nat),Rules H p rs/\k=(j:Int)/\j<=rs.length/\Q (.bl (dropB rs j)) H
 | _=>False
theorem n5 (T:Top K mg):Callee P w K mg base 1 "is_dropped" ["rules", "number"] (gc K):=by
 refine T.kC.cal n4 (by intro vs H Q E h; unfold gc at h; split at h <;> first | rfl | exact h.elim) (fun _ _ _ _ _ _ us hl=>match us,hl with | [_,_],_=>rfl) (fun f cdv A outer s H vs Q E hr h=>?_);unfold gc at h;split at h
 case h_2=>exact h.elim
 refine ⟨_,(ai (ao (BM (jM bf (qv 1) (aB (lenE K rfl) rfl T.b5 aW (aa (qv 0) ad))) (qd (jM bf (aw (ixE K rfl) (aw (ixE K rfl) (qv 0) (qv 1) (fun _ _=>rfl)) af (fun _ _=>rfl)) (qs [100,114,111,112])))))),?_⟩;rename_i p k;obtain ⟨rs,j,⟨vs,e0,pr⟩,rfl,hj,q⟩:=h;have hlv:=pr.length;walk_at "rd";refine ⟨vs,.inl (SqL.of e0),ite2 (fun g=>?_) fun g=>?_⟩
 ·have e:rs[j]? = none:=List.getElem?_eq_none (by omega);have:dropB rs j=true:=by unfold dropB; rw [e]
  rw [this] at q;exact q
 have hjl:j < rs.length:=by omega
 obtain ⟨y,hy,t',ey,et⟩:=aE pr (List.getElem?_eq_getElem hjl);subst ey;refine ⟨vs,_,.inl (SqL.of e0),be hy,?_⟩;walk_at "rd";refine ⟨_,_,.inr (SqT.of et),rfl,?_⟩;walk_at "rd";have:dropB rs j=decide (rs[j].2.1=dropT):=by unfold dropB; rw [List.getElem?_eq_getElem hjl]
 rw [this] at q;exact q
noncomputable abbrev Way:=List Nat × List Nat
def WayAt (H:Hp) (x:Way) (v:V):Prop:=∃ t,v=.ref t/\H t=some (.tup [tx x.1,tx x.2])
def Ways (H:Hp) (p:Addr) (ws:List Way):Prop:=∃ vs,H p=some (.lst vs)/\Paired (WayAt H) ws vs
theorem jl {H H':Hp} (k:∀ t vs,H t=some (.tup vs)->H' t=some (.tup vs)) {ws:List Way} {vs:List V} (h:Paired (WayAt H) ws vs):Paired (WayAt H') ws vs:=
 L2.Paired.mapP h fun _ _ ⟨t,e,q⟩=>⟨t,e,k _ _ q⟩
theorem Ways.same {H H':Hp} {p:Addr} {ws:List Way} (h:Ways H p ws) (s:Same H H'):Ways H' p ws:=by
 obtain ⟨vs,e,pr⟩:=h;exact ⟨vs,s _ _ e,jl (fun t us q=>s _ _ q) pr⟩
theorem dP {α β:Type} {F:α -> β -> Prop} {l:List α} {m:List β} {x:α} {y:β} (h:Paired F l m) (r:F x y):Paired F (l++[x]) (m++[y]):=by
 induction h with
 | nil=>exact .cons r .nil
 | cons r' _ ih=>exact .cons r' ih
noncomputable def wayD (x:Way):D:=.t [.f (tx x.1),.f (tx x.2)]
noncomputable def optV:Option (List Nat)->V
 | none=>.non
 | some d=>tx d
noncomputable def gW (K:Frag):Sp:=fun vs H Q _=>match vs with
 | [.ref p,.str s]=>∃ ws:List Way,Ways H p ws/\(∀ x ∈ ws,x.1.length<=1000)/\∀ H',Same H H'->Q (optV (wayL ws s.cps.toList).2) H'
 | _=>False
theorem qz (T:Top K mg):Callee P w K mg base 1 "way_found" ["ways", "signs"] (gW K):=by
 refine T.lR.cal cw (by intro vs H Q E h; unfold gW at h; split at h <;> first | rfl | exact h.elim) (fun _ _ _ _ _ _ us hl=>match us,hl with | [_,_],_=>rfl) (fun f cdv A outer s H vs Q E hr h=>?_);unfold gW at h;split at h
 case h_2=>exact h.elim
 refine ⟨_,(ae (ak (i:=2) cw.nd rfl lc (wz af))
   (ae (ak (i:=3) cw.nd rfl lc h8)
   (ae (aU PassesOwn.never rfl (iterE K rfl (qv 0)) (tupE K rfl rfl (n:=2) (aq (aj (i:=4) cw.nd rfl lc) (aq (aj (i:=5) cw.nd rfl lc) aP))) (ai (aG (PW.pt (mP (aC ja (aB (lenE K rfl) rfl T.b5 aW (aa (qv 4) ad)) (qv 2)) (kj (cG (pi (qv 1) (qv 4)))))) (ae (ak (i:=2) cw.nd rfl lc (aB (lenE K rfl) rfl T.b5 aW (aa (qv 4) ad)))
   (ai (ak (i:=3) cw.nd rfl lc (qv 5)))) aA)))
   (ai (ao (qv 3)))))),?_⟩
 rename_i p s;obtain ⟨l,rfl⟩:∃ x,s=st x:=⟨_,(aF s).symm⟩;obtain ⟨ws,⟨vs,e0,pr⟩,hw,q⟩:=h;simp only [am] at q;walk_at "rd";refine .inl ⟨⟨_,SqL.of e0⟩,?_⟩;have hl:=pr.length;refine bj (xs:=vs) (fun i σ H'=>∃ u v,σ = [some (.ref p),some (.str (st l)),some (.int (wayL (ws.take i) l).1),some (optV (wayL (ws.take i) l).2),u,v]/\Same H H') ⟨none,none,rfl,Same.refl _⟩ (fun i σ H' _ ⟨_,_,_,z⟩=>SqL.of (z _ _ e0)) ?_ ?_
 ·rintro i x σ H1 hx ⟨u,v,rfl,s1⟩;have hi:i < vs.length:=(List.getElem?_eq_some_iff.mp hx).1;have hiw:i < ws.length:=by omega
  obtain ⟨y,hy,t,ey,et⟩:=aE pr (List.getElem?_eq_getElem hiw);obtain rfl:x=.ref t:=by rw [hy] at hx; rw [<- Option.some.inj hx,ey]
  have st1:SqT K H1 t [tx ws[i].1,tx ws[i].2]:=SqT.of (s1 _ _ et);have hwi:=hw ws[i] (List.getElem_mem hiw);have step:wayL (ws.take (i+1)) l=wayStep l (wayL (ws.take i) l) ws[i]:=by
   unfold wayL;rw [List.take_add_one,List.getElem?_eq_getElem hiw,Option.toList_some,List.foldl_append];rfl
  rw [step];generalize wayL (ws.take i) l=a;unfold wayStep;refine ⟨t,[_,_],rfl,st1,rfl,_,[_],rfl,_,[],rfl,rfl,?_⟩;walk_at "rd";refine ⟨by omega,ite2 (fun g1=>ite2 (fun g2=>⟨by omega,?_⟩) fun g2=>?_) fun g1=>?_⟩
  ·rw [if_pos ⟨g1,g2⟩];exact ⟨_,_,rfl,s1⟩
  ·rw [if_neg fun z=>g2 z.2];exact ⟨_,_,rfl,s1⟩
  ·rw [if_neg fun z=>g1 z.1];exact ⟨_,_,rfl,s1⟩
 ·rintro σ H1 ⟨u,v,rfl,s1⟩;walk_at "rd";rw [<- hl,List.take_length];exact q H1 s1
noncomputable abbrev Gate:=List Nat × List Rule
noncomputable abbrev House:=List Gate × List Way
def GateAt (H:Hp) (x:Gate) (v:V):Prop:=∃ t p,v=.ref t/\H t=some (.tup [tx x.1,.ref p])/\Rules H p x.2
def Gates (H:Hp) (p:Addr) (gs:List Gate):Prop:=∃ vs,H p=some (.lst vs)/\Paired (GateAt H) gs vs
def HouseAt (H:Hp) (t:Addr) (h:House):Prop:=∃ g w,H t=some (.tup [.ref g,.ref w])/\Gates H g h.1/\Ways H w h.2
theorem Gates.same {H H':Hp} {p:Addr} {gs:List Gate} (h:Gates H p gs) (s:Same H H'):Gates H' p gs:=by
 obtain ⟨vs,e,pr⟩:=h;exact ⟨vs,s _ _ e,L2.Paired.mapP pr fun _ _ ⟨t,q,e,h1,h2⟩=>⟨t,q,e,s _ _ h1,h2.same s⟩⟩
theorem HouseAt.same {H H':Hp} {t:Addr} {h:House} (x:HouseAt H t h) (s:Same H H'):HouseAt H' t h:=by
 obtain ⟨g,w,e,h1,h2⟩:=x;exact ⟨g,w,s _ _ e,h1.same s,h2.same s⟩
noncomputable def gateOf (gs:List Gate) (n:List Nat):Option (List Rule):=(gs.find? fun g=>decide (g.1=n)).map (·.2)
noncomputable def fN (K:Frag):Sp:=fun vs H Q E=>match vs with
 | [.ref t,.str n]=>∃ h:House,HouseAt H t h/\(∀ c ∈ n.cps.toList,c < 16 ^ 8)/\n.cps.toList.length<=1000 /\
   (∀ rs,gateOf h.1 n.cps.toList=some rs->∀ p H',Same H H'->Rules H' p rs->Q (.ref p) H') /\
   (gateOf h.1 n.cps.toList=none->∀ H',Same H H'->E (.ref (xA K "NoDoor")) none H')
 | _=>False
theorem jy (T:Top K mg):CalleeX P w K mg base 1 "gate_rules" ["house", "door"] (fN K):=by
 refine T.kK.calX fS (by intro vs H Q E h; unfold fN at h; split at h <;> first | rfl | exact h.elim) (fun _ _ _ _ _ _ us hl=>match us,hl with | [_,_],_=>rfl) (fun f cdv A outer s H vs Q E hr h=>?_);unfold fN at h;split at h
 case h_2=>exact h.elim
 refine ⟨_,(ae (aU PassesOwn.leaving rfl (iterE K rfl (aw (ixE K rfl) (qv 0) af (fun _ _=>rfl))) (tupE K rfl rfl (n:=2) (aq (aj (i:=2) fS.nd rfl lc) (aq (aj (i:=3) fS.nd rfl lc) aP))) (ai (aG (aC bf (qv 2) (qv 1)) (ai (ao (qv 3))) aA)))
   (ai (kq rfl jp rfl T.gD.1 T.gD.2 (aa (uN (fF (qs [110,111,32,100,111,111,114,32]) (fF (pY (qv 1)) qq))) ad)))),?_⟩
 rename_i p s;obtain ⟨n,rfl⟩:∃ x,s=st x:=⟨_,(aF s).symm⟩;obtain ⟨hs,⟨g,w,e,⟨vs,e0,pr⟩,hw⟩,hc,hn,q1,q2⟩:=h;simp only [am] at q1 q2 hc hn;have hl:=pr.length;walk_at "rd";refine ⟨_,_,.inr (SqT.of e),rfl,?_⟩;walk_at "rd";refine .inl ⟨⟨_,SqL.of e0⟩,?_⟩;refine bj (xs:=vs) (fun i σ H'=>∃ u v,σ = [some (.ref p),some (.str (st n)),u,v]/\Same H H'/\∀ x ∈ hs.1.take i,¬ x.1=n) ⟨none,none,rfl,Same.refl _,fun x hx=>by simp at hx⟩ (fun i σ H' _ ⟨_,_,_,z,_⟩=>SqL.of (z _ _ e0)) ?_ ?_
 ·rintro i x σ H1 hx ⟨u,v,rfl,s1,h1⟩;have hi:i < vs.length:=(List.getElem?_eq_some_iff.mp hx).1;have hil:i < hs.1.length:=by omega
  obtain ⟨y,hy,t,r,ey,et,hr⟩:=aE pr (List.getElem?_eq_getElem hil);obtain rfl:x=.ref t:=by rw [hy] at hx; rw [<- Option.some.inj hx,ey]
  refine ⟨t,[_,_],rfl,SqT.of (s1 _ _ et),rfl,_,[_],rfl,_,[],rfl,rfl,?_⟩;walk_at "rd";refine ite2 (fun g=>?_) fun g=>⟨some (tx hs.1[i].1),some (.ref r),rfl,s1,fun y hy=>?_⟩
  ·refine q1 hs.1[i].2 ?_ r H1 s1 (hr.same s1);unfold gateOf;rw [show hs.1.find? (fun g=>decide (g.1=n))=some hs.1[i] from List.find?_eq_some_iff_append.mpr ⟨by simpa using g,hs.1.take i,hs.1.drop (i+1),by simp,fun y hy=>by simpa using h1 y hy⟩];rfl
  ·rw [List.take_add_one,List.getElem?_eq_getElem hil] at hy;rcases List.mem_append.mp hy with hy | hy
   ·exact h1 y hy
   ·have e:y=hs.1[i]:=by simpa using hy
    rw [e];exact g
 ·rintro σ H1 ⟨u,v,rfl,s1,h1⟩;walk_at "rd";have e:gateOf hs.1 n=none:=by
   unfold gateOf;rw [List.find?_eq_none.mpr fun y hy=>by simpa using h1 y (by rw [<- hl,List.take_length]; exact hy)];rfl
  have hz:(st n).length=n.length:=fc n;refine ⟨by rw [fc]; exact Nat.le_of_lt (sizeBig (by decide)),hc,by omega,fun z hzz=>⟨?_,fun _=>⟨by decide,q2 e H1 s1⟩⟩⟩;rw [fc];exact Nat.le_of_lt (sizeBig (by simp only [List.length_cons,List.length_nil]; omega))
noncomputable def lostT:List Nat:=[108,111,115,116]
noncomputable def sentW:List Nat:=[115,101,110,116]
noncomputable def toT:List Nat:=[116,111]
noncomputable def sentV:Option (List Nat)->List Nat->List V
 | none,_=>[tx lostT]
 | some d,s=>[tx sentW,tx d,tx s]
noncomputable def jR:Sp:=fun vs H Q _=>match vs with
 | [d,.str s]=>∃ o:Option (List Nat),d=optV o/\∀ t H',H t=none->Same H H'->H' t=some (.tup (sentV o s.cps.toList))->Q (.ref t) H'
 | _=>False
theorem tm (T:Top K mg):Callee P w K mg base 1 "sent_by" ["door", "thing"] jR:=by
 refine T.pG.cal ua (by intro vs H Q E h; unfold jR at h; split at h <;> first | rfl | exact h.elim) (fun _ _ _ _ _ _ us hl=>match us,hl with | [_,_],_=>rfl) (fun f cdv A outer s H vs Q E hr h=>?_);unfold jR at h;split at h
 case h_2=>exact h.elim
 refine ⟨_,(ai (ao (ki (aC qx (qv 0) h8) (aD (aa (qs [108,111,115,116]) ad)) (aD (aa (qs [115,101,110,116]) (aa (qv 0) (aa (qv 1) ad))))))),?_⟩;rename_i d s;obtain ⟨l,rfl⟩:∃ x,s=st x:=⟨_,(aF s).symm⟩;obtain ⟨o,rfl,q⟩:=h;simp only [am] at q;cases o with
 | none=>
  unfold optV;walk_at "rd";exact ⟨by decide,fun t ht=>q t _ ht (ah ht _) upd_same⟩
 | some d=>
  unfold optV;walk_at "rd";exact ⟨by decide,fun t ht=>q t _ ht (ah ht _) upd_same⟩
noncomputable def sentT (rs:List Rule) (l:List Nat):List Nat:=written l ((rs[firstR rs l]?.map (·.2.2)).getD [])
noncomputable def partT (ls:List Fld) (r:List Nat):List Nat:=match spanF ls toT 0 with
 | some (a,b)=>(r.drop a).take (b - a)
 | none=>[]
noncomputable def doesV (ls:List Fld) (rs:List Rule) (ws:List Way) (l:List Nat):List V:=
 if dropB rs (firstR rs l) then [tx dropT,.int (firstR rs l:Nat)] else sentV (wayL ws (partT ls (sentT rs l))).2 (sentT rs l)
structure Meet (ls:List Fld) (rs:List Rule) (ws:List Way) (n:Nat):Prop where
 wide:n<=1000
 over:∀ r ∈ rs,r.2.2.length=n
 ways:∀ x ∈ ws,x.1.length<=1000
 to:∃ a b,spanF ls toT 0=some (a,b)/\b<=n
noncomputable def fW (K:Frag):Sp:=fun vs H Q E=>match vs with
 | [.ref p,.ref t,.str d,.str l]=>∃ (ls:List Fld) (hs:House),Lay H p ls/\HouseAt H t hs/\(∀ c ∈ d.cps.toList,c < 16 ^ 8)/\d.cps.toList.length<=1000 /\
   (∀ rs,gateOf hs.1 d.cps.toList=some rs->Meet ls rs hs.2 l.cps.toList.length/\∀ t H',H t=none->Same H H'->H' t=some (.tup (doesV ls rs hs.2 l.cps.toList))->Q (.ref t) H') /\
   (gateOf hs.1 d.cps.toList=none->∀ H',Same H H'->E (.ref (xA K "NoDoor")) none H')
 | _=>False
theorem oh (T:Top K mg):CalleeX P w K mg base 4 "house_does" ["layout", "house", "door", "letter"] (fW K):=by
 refine T.ky.calX dJ (by intro vs H Q E h; unfold fW at h; split at h <;> first | rfl | exact h.elim) (fun _ _ _ _ _ _ us hl=>match us,hl with | [_,_,_,_],_=>rfl) (fun f cdv A outer s H vs Q E hr h=>?_);unfold fW at h;split at h
 case h_2=>exact h.elim
 refine ⟨_,(ae (ak (i:=4) dJ.nd rfl lc (i5 (jy T) hr.m cW rfl (aa (qv 1) (aa (qv 2) ad))))
   (ae (ak (i:=5) dJ.nd rfl lc (au (oE T) hr.m rfl (aa (qv 4) (aa (qv 3) ad))))
   (ae (aG (cG (au (n5 T) hr.m rfl (aa (qv 4) (aa (qv 5) ad)))) (ai (ao (aD (aa (qs [100,114,111,112]) (aa (qv 5) ad))))) aA)
   (ae (ak (i:=6) dJ.nd rfl lc (au (nh T) hr.m rfl (aa (qv 3) (aa (aw (ixE K rfl) (aw (ixE K rfl) (qv 4) (qv 5) (fun _ _=>rfl)) af (fun _ _=>rfl)) ad))))
   (ai (ao (au (tm T) hr.m rfl (aa (au (qz T) hr.m rfl (aa (aw (ixE K rfl) (qv 1) af (fun _ _=>rfl)) (aa (i5 (ou T) hr.m cW rfl (aa (qv 0) (aa (qs [116,111]) (aa (qv 6) ad)))) ad))) (aa (qv 6) ad))))))))),?_⟩
 rename_i p t d s;obtain ⟨l,rfl⟩:∃ x,s=st x:=⟨_,(aF s).symm⟩;obtain ⟨n,rfl⟩:∃ x,d=st x:=⟨_,(aF d).symm⟩;obtain ⟨ls,hs,hL,hH,hc,hn,q1,q2⟩:=h;simp only [am] at q1 q2 hc hn;walk_at "rd";refine ⟨hs,hH,by simp only [am]; exact hc,by simp only [am]; exact hn,fun rs e a H1 s1 hR=>?_,fun e H1 s1=>q2 (by simpa only [am] using e) H1 s1⟩;simp only [am] at e;obtain ⟨M,q1⟩:=q1 rs e;walk_at "rd";refine ⟨rs,hR,fun H2 s2=>?_⟩;simp only [am];have hR2:=hR.same s2;have s12:=s1.trans s2;have hle:firstR rs l<=rs.length:=List.findIdx_le_length;walk_at "rd";refine ⟨rs,firstR rs l,hR2,rfl,hle,ite2 (fun g=>?_) fun g=>?_⟩
 ·refine ⟨by decide,fun t2 ht2=>q1 t2 _ (s12.free ht2) (s12.trans (ah ht2 _)) ?_⟩;rw [upd_same,doesV,if_pos g];rfl
 have hjl:firstR rs l < rs.length:=by
  rcases Nat.lt_or_ge (firstR rs l) rs.length with z | z
  ·exact z
  ·exfalso;apply g;unfold dropB;rw [List.getElem?_eq_none z]
 obtain ⟨vs,e0,pr⟩:=hR2;obtain ⟨y,hy,t',ey,et⟩:=aE pr (List.getElem?_eq_getElem hjl);subst ey;refine ⟨vs,_,.inl (SqL.of e0),be hy,?_⟩;walk_at "rd";have ho:=M.over rs[firstR rs l] (List.getElem_mem hjl);have es:sentT rs l=written l rs[firstR rs l].2.2:=by unfold sentT; rw [List.getElem?_eq_getElem hjl]; rfl
 refine ⟨_,_,.inr (SqT.of et),rfl,by simp only [am]; exact M.wide,fun H3 s3=>?_⟩;simp only [am];rw [<- es];have hsl:(sentT rs l).length=l.length:=by rw [es]; exact fE ho.symm
 have s13:=s12.trans s3;obtain ⟨g1,w1,eh,hg,hw⟩:=hH.same s13;walk_at "rd";refine ⟨_,_,.inr (SqT.of eh),rfl,?_⟩;walk_at "rd";obtain ⟨a1,b1,esp,hb1⟩:=M.to;have hM:=M.wide;refine ⟨ls,hL.same s13,by decide,by decide,by simp only [am]; omega,fun a b e4=>?_,fun e4=>?_⟩
 ·simp only [am];have e5:spanF ls toT 0=some (a,b):=e4;rw [esp] at e5;cases e5;refine ⟨by omega,fun H4 s4=>?_⟩;have s14:=s13.trans s4;walk_at "rd";refine ⟨hs.2,hw.same s4,M.ways,fun H5 s5=>?_⟩;have s15:=s14.trans s5;walk_at "rd";refine ⟨_,rfl,fun t2 H6 ht2 s6 e6=>q1 t2 H6 (s15.free ht2) (s15.trans s6) ?_⟩;rw [e6,doesV,if_neg g];simp only [am];unfold partT;rw [esp]
 ·have e5:spanF ls toT 0=none:=e4;rw [esp] at e5;cases e5
noncomputable def iy:Sp:=fun vs H Q _=>match vs with
 | [.str a,.str b]=>∀ H',Same H H'->Q (.bl (within b.cps.toList a.cps.toList)) H'
 | _=>False
theorem qc (T:Top K mg):Callee P w K mg base 1 "_law_lies" ["_law_row", "_law_letter"] iy:=by
 refine T.lG.cal ik (by intro vs H Q E h; unfold iy at h; split at h <;> first | rfl | exact h.elim) (fun _ _ _ _ _ _ us hl=>match us,hl with | [_,_],_=>rfl) (fun f cdv A outer s H vs Q E hr h=>?_);unfold iy at h;split at h
 case h_2=>exact h.elim
 refine ⟨_,(ae (aU PassesOwn.never rfl (zipE K rfl rfl T.pI (qv 0) (qv 1)) (tupE K rfl rfl (n:=2) (aq (aj (i:=2) ik.nd rfl lc) (aq (aj (i:=3) ik.nd rfl lc) aP))) (ai (aG (PW.pt (mP (aC jN (qv 2) (qs [45])) (kj (aC jN (qv 2) (qv 3))))) (ai (ao dm)) aA)))
   (ai (ao dm))),?_⟩
 rename_i a b;obtain ⟨x,rfl⟩:∃ x,a=st x:=⟨_,(aF a).symm⟩;obtain ⟨y,rfl⟩:∃ y,b=st y:=⟨_,(aF b).symm⟩;walk_at "rd";refine rD (xs:=x.map fun c=>V.str (st [c])) (ys:=y.map fun c=>V.str (st [c])) (fun i σ H'=>∃ u v,σ = [some (.str (st x)),some (.str (st y)),u,v]/\Same H H'/\within (y.take i) (x.take i)=true) ⟨none,none,rfl,Same.refl _,by simp [within]⟩
  (fun i σ H' _=>⟨rfl,rfl⟩) ?_ ?_
 ·rintro i c d σ H1 p hx hy ⟨u,v,rfl,s1,e1⟩ hp;rw [List.getElem?_map] at hx hy;obtain ⟨c,hc,rfl⟩:=Option.map_eq_some_iff.mp hx;obtain ⟨d,hd,rfl⟩:=Option.map_eq_some_iff.mp hy;walk_at "rd";have s2:Same H (upd H1 p (.tup [V.str (st [c]),V.str (st [d])])):=s1.trans (ah hp _);have bad:¬ c=45->¬ c=d->within y x=false:=fun h1 h2=>by
   unfold within;rw [Bool.eq_false_iff];intro z;rw [List.all_eq_true] at z;have:=z (d,c) (List.mem_of_getElem? (List.getElem?_zip_eq_some.mpr ⟨hd,hc⟩));simp [h1,h2] at this
  have good:c=45\/c=d->within (y.take (i+1)) (x.take (i+1))=true:=fun h=>by
   unfold within at e1 ⊢;rw [List.take_succ,List.take_succ,hc,hd];have hl:(y.take i).length=(x.take i).length:=by
    have:=(List.getElem?_eq_some_iff.mp hc).1;have:=(List.getElem?_eq_some_iff.mp hd).1;simp; omega
   rw [List.zip_append hl,List.all_append,e1];simpa using h
  refine ite2 (fun h1=>?_) fun h1=>ite2 (fun h2=>?_) fun h2=>?_
  ·exact ⟨_,_,rfl,s2,good (.inl h1)⟩
  ·exact ⟨_,_,rfl,s2,good (.inr h2)⟩
  ·have:=h _ s2;simp only [am,bad h1 h2] at this;exact this
 ·rintro σ H1 ⟨u,v,rfl,s1,e1⟩;walk_at "rd";have e2:within y x=true:=by
   simp only [List.length_map] at e1;unfold within at e1 ⊢;rw [List.all_eq_true] at e1 ⊢;rintro ⟨d,c⟩ hm;obtain ⟨i,hi⟩:=List.mem_iff_getElem?.mp hm;obtain ⟨h1,h2⟩:=List.getElem?_zip_eq_some.mp hi;have l1:=(List.getElem?_eq_some_iff.mp h1).1;have l2:=(List.getElem?_eq_some_iff.mp h2).1;refine e1 (d,c) (List.mem_of_getElem? (i:=i) (List.getElem?_zip_eq_some.mpr ⟨?_,?_⟩))
   ·rw [List.getElem?_take_of_lt (by omega)]; exact h1
   ·rw [List.getElem?_take_of_lt (by omega)]; exact h2
  have:=h _ s1;simp only [am,e2] at this;exact this
noncomputable def dS:Sp:=fun vs H Q _=>match vs with
 | [.str a,.str b]=>a.cps.toList.length<=1000/\∀ H',Same H H'->Q (.str (st (written a.cps.toList b.cps.toList))) H'
 | _=>False
theorem lX (T:Top K mg):Callee P w K mg base 1 "_law_written" ["_law_letter", "_law_over"] dS:=by
 refine T.jf.cal md (by intro vs H Q E h; unfold dS at h; split at h <;> first | rfl | exact h.elim) (fun _ _ _ _ _ _ us hl=>match us,hl with | [_,_],_=>rfl) (fun f cdv A outer s H vs Q E hr h=>?_);unfold dS at h;split at h
 case h_2=>exact h.elim
 refine ⟨_,(ai (ao (joinE K rfl (bZ (nt:=2) (fi:=[]) (N':=["_law_own", "_law_sign"]) rfl (cscope rfl (by decide +kernel)) (cnames (N:=["_law_letter", "_law_over"]) (sc:=defScope df) rfl rfl (by decide +kernel)) (j5 (by decide) (by decide)) (zipE K rfl rfl T.pI (qv 0) (qv 1)) (fun _ _ _ _ _=>(tupE K rfl rfl (n:=2) (aq (aj (i:=0) (by show (["_law_own", "_law_sign"]:List Str).Nodup; decide +kernel) rfl lc) (aq (aj (i:=1) (by show (["_law_own", "_law_sign"]:List Str).Nodup; decide +kernel) rfl lc) aP)))) (fun _ _ _ _ _=>aZ) (fun _ _ _ _ _=>(ki (aC bf (qv 1) (qs [45])) (qv 0) (qv 1))))))),?_⟩;rename_i a b;obtain ⟨r,rfl⟩:∃ x,a=st x:=⟨_,(aF a).symm⟩;obtain ⟨o,rfl⟩:∃ x,b=st x:=⟨_,(aF b).symm⟩;obtain ⟨h1,q⟩:=h;simp only [am] at h1 q;walk_at "rd";intro D hD;refine rk (us:=r.map fun c=>V.str (st [c])) (ws:=o.map fun c=>V.str (st [c])) (h:=fun x y=>[V.str (st [wSign (vcode x) (vcode y)])]) hD (fun _ _=>rfl) (fun _ _=>rfl) (by simp; omega) (fun _ _=>by simp) ?_ ?_
 ·intro x y H1 out non hm s1 ho hn;obtain ⟨hx,hy⟩:=List.of_mem_zip hm;obtain ⟨c,_,rfl⟩:=List.mem_map.mp hx;obtain ⟨d,_,rfl⟩:=List.mem_map.mp hy;walk_at "rd";refine ite2 (fun h4=>?_) fun h4=>?_
  ·exact ho _ _ (by simp [wSign,vcode,h4]) (Same.refl _)
  ·exact ho _ _ (by simp [wSign,vcode,h4]) (Same.refl _)
 ·intro H1 s1 e1;rw [pA] at e1;exact ⟨_,SqL.of e1,by simp [written]; omega,q H1 s1⟩
noncomputable def fM (K:Frag):Sp:=fun vs H Q _=>match vs with
 | [.ref p]=>∃ ls:List Fld,Lay H p ls/\ls.length<=1000/\∀ H',Same H H'->Q (.int (widthL ls:Nat)) H'
 | _=>False
theorem fP (T:Top K mg):Callee P w K mg base 1 "_law_width" ["_law_layout_here"] (fM K):=by
 refine T.kO.cal n6 (by intro vs H Q E h; unfold fM at h; split at h <;> first | rfl | exact h.elim) (fun _ _ _ _ _ _ us hl=>match us,hl with | [_],_=>rfl) (fun f cdv A outer s H vs Q E hr h=>?_);unfold fM at h;split at h
 case h_2=>exact h.elim
 refine ⟨_,(ai (ao (aB (oT K rfl rfl) rfl T.ym xa (aa (bZ (nt:=2) (fi:=[]) (N':=["_law_name", "_law_size"]) rfl (cscope rfl (by decide +kernel)) (cnames (N:=["_law_layout_here"]) (sc:=defScope eF) rfl rfl (by decide +kernel)) (j5 (by decide) (by decide)) (iterE K rfl (qv 0)) (fun _ _ _ _ _=>(tupE K rfl rfl (n:=2) (aq (aj (i:=0) (by show (["_law_name", "_law_size"]:List Str).Nodup; decide +kernel) rfl lc) (aq (aj (i:=1) (by show (["_law_name", "_law_size"]:List Str).Nodup; decide +kernel) rfl lc) aP)))) (fun _ _ _ _ _=>aZ) (fun _ _ _ _ _=>(qv 1))) ad)))),?_⟩;rename_i p;obtain ⟨ls,⟨vs,e0,pr⟩,hn,q⟩:=h;have hl:=pr.length;obtain ⟨z1,z2⟩:=cu pr;walk_at "rd";refine .inl ⟨⟨_,SqL.of e0⟩,fun D hD=>?_⟩;refine cc (item:=fun x:Fld × V=>x.2) (xs:=ls.zip vs) (h:=fun x=>[V.int x.1.2]) hD (by rw [z1]; exact SqL.of e0) (by rw [List.length_zip]; omega) (fun _=>by simp) ?_ ?_
 ·intro x H1 out non hx s1 ho _;obtain ⟨t,ex,et⟩:=z2 x hx;rw [ex];refine ⟨t,[_,_],rfl,SqT.of (s1 _ _ et),rfl,_,[_],rfl,_,[],rfl,rfl,?_⟩;walk_at "rd";exact ho _ _ rfl (Same.refl _)
 ·intro H1 s1 e1;rw [show (ls.zip vs).flatMap (fun x=>[V.int x.1.2])=(ls.map fun x:Fld=>(x.2:Int)).map V.int by
   rw [<- dE (l:=ls) (m:=vs) hl];simp only [List.map_map];rw [dE hl]
   induction ls.zip vs with
   | nil=>rfl
   | cons x r ih=>rw [List.flatMap_cons,ih]; rfl] at e1
  walk_at "rd";refine ⟨_,SqL.of e1,?_⟩;have:=q H1 s1;unfold widthL at this;rw [show (ls.map fun x:Fld=>(x.2:Int)).sum=((ls.map (·.2)).sum:Nat) by rw [<- nM,List.map_map]; rfl];exact this
noncomputable def spanG (ls:List Fld):Nat × Nat:=(spanF ls toT 0).getD (0,0)
noncomputable def gU (K:Frag):Sp:=fun vs H Q _=>match vs with
 | [.ref p]=>∃ ls:List Fld,Lay H p ls/\∀ t H',H t=none->Same H H'->H' t=some (.tup [.int ((spanG ls).1:Nat),.int ((spanG ls).2:Nat)])->Q (.ref t) H'
 | _=>False
theorem ic (T:Top K mg):Callee P w K mg base 1 "_law_span" ["_law_layout_here"] (gU K):=by
 refine T.lQ.cal da (by intro vs H Q E h; unfold gU at h; split at h <;> first | rfl | exact h.elim) (fun _ _ _ _ _ _ us hl=>match us,hl with | [_],_=>rfl) (fun f cdv A outer s H vs Q E hr h=>?_);unfold gU at h;split at h
 case h_2=>exact h.elim
 refine ⟨_,(ae (ak (i:=1) da.nd rfl lc af)
   (ae (aU PassesOwn.never rfl (iterE K rfl (qv 0)) (tupE K rfl rfl (n:=2) (aq (aj (i:=2) da.nd rfl lc) (aq (aj (i:=3) da.nd rfl lc) aP))) (ae (aG (aC bf (qv 2) (qs [116,111])) (ai (ao (aD (aa (qv 1) (aa (ar ap (qv 1) (qv 3)) ad))))) aA)
   (ai (ak (i:=1) da.nd rfl lc (ar ap (qv 1) (qv 3))))))
   (ai (ao (aD (aa af (aa af ad))))))),?_⟩
 rename_i p;obtain ⟨ls,⟨vs,e0,pr⟩,q1⟩:=h;have hl:=pr.length;walk_at "rd";refine .inl ⟨⟨_,SqL.of e0⟩,?_⟩;refine bj (xs:=vs) (fun i σ H'=>∃ u v,σ = [some (.ref p),some (.int (widthL (ls.take i):Nat)),u,v]/\Same H H'/\∀ x ∈ ls.take i,¬ x.1=toT) ⟨none,none,rfl,Same.refl _,fun x hx=>by simp at hx⟩ (fun i σ H' _ ⟨_,_,_,z,_⟩=>SqL.of (z _ _ e0)) ?_ ?_
 ·rintro i x σ H1 hx ⟨u,v,rfl,s1,h1⟩;have hi:i < vs.length:=(List.getElem?_eq_some_iff.mp hx).1;have hil:i < ls.length:=by omega
  obtain ⟨y,hy,t,ey,et⟩:=aE pr (List.getElem?_eq_getElem hil);obtain rfl:x=.ref t:=by rw [hy] at hx; rw [<- Option.some.inj hx,ey]
  refine ⟨t,[_,_],rfl,SqT.of (s1 _ _ et),rfl,_,[_],rfl,_,[],rfl,rfl,?_⟩;walk_at "rd";have sp:spanF ls toT 0=spanF (ls.drop i) toT (0+widthL (ls.take i)):=by
   have:=fg (ls.take i) (ls.drop i) toT 0 h1;rw [List.take_append_drop] at this;exact this
  rw [List.drop_eq_getElem_cons hil,Nat.zero_add] at sp;have w1:widthL (ls.take (i+1))=widthL (ls.take i)+ls[i].2:=by
   unfold widthL;rw [List.take_add_one,List.getElem?_eq_getElem hil,Option.toList_some,List.map_append,List.sum_append];simp
  refine ite2 (fun g=>⟨by decide,fun t2 ht2=>?_⟩) fun g=>⟨some (tx ls[i].1),some (.int ls[i].2),?_,s1,fun y hy=>?_⟩
  ·refine q1 t2 _ (s1.free ht2) (s1.trans (ah ht2 _)) ?_;have e:spanG ls=(widthL (ls.take i),widthL (ls.take i)+ls[i].2):=by
    unfold spanG;rw [sp,show ls[i]=(ls[i].1,ls[i].2) from rfl,spanF,if_pos (show ls[i].1=toT from g)];rfl
   rw [upd_same,e];simp
  ·rw [w1];simp
  ·rw [List.take_add_one,List.getElem?_eq_getElem hil] at hy;rcases List.mem_append.mp hy with hy | hy
   ·exact h1 y hy
   ·have e:y=ls[i]:=by simpa using hy
    rw [e];exact g
 ·rintro σ H1 ⟨u,v,rfl,s1,h1⟩;walk_at "rd";have e:spanF ls toT 0=none:=by
   have:=fg ls [] toT 0 fun x hx=>h1 x (by rw [<- hl,List.take_length]; exact hx)
   rw [List.append_nil] at this;exact this
  refine ⟨by decide,fun t2 ht2=>q1 t2 _ (s1.free ht2) (s1.trans (ah ht2 _)) ?_⟩;rw [upd_same];unfold spanG;rw [e];rfl
noncomputable def gR (K:Frag):Sp:=fun vs H Q _=>match vs with
 | [.ref p,.ref v,.str l]=>∃ (ls:List Fld) (ws:List Way) (a b:Nat),Lay H p ls/\Ways H v ws/\(∀ x ∈ ws,x.1.length<=1000)/\l.cps.toList.length<=1000/\spanF ls toT 0=some (a,b)/\b<=l.cps.toList.length /\
   ∀ t H',Same H H'->H' t=some (.tup (sentV (wayL ws (partT ls l.cps.toList)).2 l.cps.toList))->Q (.ref t) H'
 | _=>False
theorem qQ (T:Top K mg):Callee P w K mg base 2 "_law_goes" ["_law_layout_here", "_law_ways_here", "_law_letter"] (gR K):=by
 refine T.lL.cal bz (by intro vs H Q E h; unfold gR at h; split at h <;> first | rfl | exact h.elim) (fun _ _ _ _ _ _ us hl=>match us,hl with | [_,_,_],_=>rfl) (fun f cdv A outer s H vs Q E hr h=>?_);unfold gR at h;split at h
 case h_2=>exact h.elim
 refine ⟨_,(ae (jS (au (ic T) hr.m rfl (aa (qv 0) ad)) (seqE K rfl rfl (n:=2) (aq (aj (i:=3) bz.nd rfl lc) (aq (aj (i:=4) bz.nd rfl lc) aP))))
   (ae (ak (i:=5) bz.nd rfl lc (wz af))
   (ae (ak (i:=6) bz.nd rfl lc (aD (aa (qs [108,111,115,116]) ad)))
   (ae (aU PassesOwn.never rfl (iterE K rfl (qv 1)) (tupE K rfl rfl (n:=2) (aq (aj (i:=7) bz.nd rfl lc) (aq (aj (i:=8) bz.nd rfl lc) aP))) (ai (aG (PW.pt (mP (cG (pi (cz slB (qv 2) (cE (qv 3)) (cE (qv 4))) (qv 7))) (kj (aC ja (aB (lenE K rfl) rfl T.b5 aW (aa (qv 7) ad)) (qv 5))))) (ae (ak (i:=5) bz.nd rfl lc (aB (lenE K rfl) rfl T.b5 aW (aa (qv 7) ad)))
   (ai (ak (i:=6) bz.nd rfl lc (aD (aa (qs [115,101,110,116]) (aa (qv 8) (aa (qv 2) ad))))))) aA)))
   (ai (ao (qv 6))))))),?_⟩
 rename_i p v s;obtain ⟨l,rfl⟩:∃ x,s=st x:=⟨_,(aF s).symm⟩;obtain ⟨ls,ws,a,b,hL,hW,hw,hl,hsp,hb,q⟩:=h;simp only [am] at q hl hb;have hab:=mK ls toT 0 a b hsp;have eG:spanG ls=(a,b):=by unfold spanG; rw [hsp]; rfl
 have eP:partT ls l=(l.drop a).take (b - a):=by unfold partT; rw [hsp]
 walk_at "rd";refine ⟨ls,hL,fun t1 H1 ht1 s1 e1=>?_⟩;rw [eG] at e1;refine ⟨[_,_],.inr (SqT.of e1),rfl,_,[_],rfl,_,[],rfl,rfl,?_⟩;walk_at "rd";refine ⟨by decide,fun t2 ht2=>?_⟩;have s2:=s1.trans (ah ht2 (.tup [tx lostT]));obtain ⟨vs,e0,pr⟩:=hW.same s2;have hlv:=pr.length;refine .inl ⟨⟨_,SqL.of e0⟩,?_⟩;refine bj (xs:=vs) (fun i σ H'=>∃ u v2 t,σ = [some (.ref p),some (.ref v),some (.str (st l)),some (.int a),some (.int b),some (.int (wayL (ws.take i) (partT ls l)).1),some (.ref t),u,v2]/\Same (upd H1 t2 (.tup [tx lostT])) H'/\H' t=some (.tup (sentV (wayL (ws.take i) (partT ls l)).2 l)))
  ⟨none,none,t2,rfl,Same.refl _,upd_same⟩ (fun i σ H' _ ⟨_,_,_,_,z,_⟩=>SqL.of (z _ _ e0)) ?_ ?_
 ·rintro i x σ H2 hx ⟨u,v2,t,rfl,s3,e3⟩;have hi:i < vs.length:=(List.getElem?_eq_some_iff.mp hx).1;have hiw:i < ws.length:=by omega
  obtain ⟨y,hy,t',ey,et⟩:=aE pr (List.getElem?_eq_getElem hiw);obtain rfl:x=.ref t':=by rw [hy] at hx; rw [<- Option.some.inj hx,ey]
  have st1:SqT K H2 t' [tx ws[i].1,tx ws[i].2]:=SqT.of (s3 _ _ et);have hwi:=hw ws[i] (List.getElem_mem hiw);have step:wayL (ws.take (i+1)) (partT ls l)=wayStep (partT ls l) (wayL (ws.take i) (partT ls l)) ws[i]:=by
   unfold wayL;rw [List.take_add_one,List.getElem?_eq_getElem hiw,Option.toList_some,List.foldl_append];rfl
  rw [step];generalize wayL (ws.take i) (partT ls l)=c at e3 ⊢;unfold wayStep;refine ⟨t',[_,_],rfl,st1,rfl,_,[_],rfl,_,[],rfl,rfl,?_⟩;walk_at "rd";refine ⟨by omega,by omega,by omega,by omega,?_⟩;rw [Int.toNat_natCast,Int.toNat_natCast,<- eP];refine ite2 (fun g2=>⟨by omega,ite2 (fun g1=>⟨by omega,by decide,fun t3 ht3=>?_⟩) fun g1=>?_⟩) fun g2=>?_
  ·rw [if_pos ⟨g1,g2⟩];exact ⟨_,_,t3,rfl,s3.trans (ah ht3 _),upd_same⟩
  ·rw [if_neg fun z=>g1 z.1];exact ⟨_,_,t,rfl,s3,e3⟩
  ·rw [if_neg fun z=>g2 z.2];exact ⟨_,_,t,rfl,s3,e3⟩
 ·rintro σ H2 ⟨u,v2,t,rfl,s3,e3⟩;walk_at "rd";rw [<- hlv,List.take_length] at e3;exact q t H2 (s2.trans s3) e3
theorem sR (l:List Gate) (x:Gate) (n:List Nat):gateOf (l++[x]) n=(gateOf l n).or (if x.1=n then some x.2 else none):=by
 unfold gateOf;rw [List.find?_append];cases e:l.find? fun g=>decide (g.1=n) with
 | some y=>rfl
 | none=>
  by_cases h:x.1=n
  ·simp [h]
  ·simp [h]
theorem rB {l:List Gate} {n:List Nat} (h:n ∉ l.map (·.1)):gateOf l n=none:=by
 unfold gateOf;rw [List.find?_eq_none.mpr fun y hy=>by
  have:¬ y.1=n:=fun e=>h (List.mem_map.mpr ⟨y,hy,e⟩)
  simpa using this]
 rfl
theorem ue {rs:List Rule} {l:List Nat} {i:Nat} (hi:i < rs.length) (h1:∀ r ∈ rs.take i,within l r.1=false) (g:within l rs[i].1=true):firstR rs l=i:=
 (List.findIdx_eq hi).mpr ⟨g,fun j hj=>h1 rs[j] (List.mem_take_iff_getElem.mpr ⟨j,by omega,rfl⟩)⟩
noncomputable def hZ (K:Frag):Sp:=fun vs H Q _=>match vs with
 | [.ref p,.ref t,.str d,.str l]=>∃ (ls:List Fld) (hs:House) (rs:List Rule),Lay H p ls/\HouseAt H t hs/\(hs.1.map (·.1)).Nodup/\gateOf hs.1 d.cps.toList=some rs/\Meet ls rs hs.2 l.cps.toList.length /\
   ∀ t H',Same H H'->H' t=some (.tup (doesV ls rs hs.2 l.cps.toList))->Q (.ref t) H'
 | _=>False
theorem qC (T:Top K mg):Callee P w K mg base 3 "_law_does" ["_law_layout_here", "_law_house_here", "_law_door", "_law_letter"] (hZ K):=by
 refine T.lN.cal cr (by intro vs H Q E h; unfold hZ at h; split at h <;> first | rfl | exact h.elim) (fun _ _ _ _ _ _ us hl=>match us,hl with | [_,_,_,_],_=>rfl) (fun f cdv A outer s H vs Q E hr h=>?_);unfold hZ at h;split at h
 case h_2=>exact h.elim
 refine ⟨_,(ae (ak (i:=4) cr.nd rfl lc (aS ad))
   (ae (aU PassesOwn.never rfl (iterE K rfl (aw (ixE K rfl) (qv 1) af (fun _ _=>rfl))) (tupE K rfl rfl (n:=2) (aq (aj (i:=5) cr.nd rfl lc) (aq (aj (i:=6) cr.nd rfl lc) aP))) (ai (aG (aC bf (qv 5) (qv 2)) (ai (ak (i:=4) cr.nd rfl lc (qv 6))) aA)))
   (ae (aU PassesOwn.never rfl (rE K rfl rfl T.jd (qv 4)) (tupE K rfl rfl (n:=2) (aq (aj (i:=7) cr.nd rfl lc) (aq (aj (i:=8) cr.nd rfl lc) aP))) (ai (aG (cG (au (qc T) hr.m rfl (aa (aw (ixE K rfl) (qv 8) af (fun _ _=>rfl)) (aa (qv 3) ad)))) (ae (aG (aC bf (aw (ixE K rfl) (qv 8) af (fun _ _=>rfl)) (qs [100,114,111,112])) (ai (ao (aD (aa (qs [100,114,111,112]) (aa (qv 7) ad))))) aA)
   (ai (ao (au (qQ T) hr.m rfl (aa (qv 0) (aa (aw (ixE K rfl) (qv 1) af (fun _ _=>rfl)) (aa (au (lX T) hr.m rfl (aa (qv 3) (aa (aw (ixE K rfl) (qv 8) af (fun _ _=>rfl)) ad))) ad))))))) aA)))
   (ai (ao (aD (aa (qs [100,114,111,112]) (aa (aB (lenE K rfl) rfl T.b5 aW (aa (qv 4) ad)) ad)))))))),?_⟩
 rename_i p t d s;obtain ⟨l,rfl⟩:∃ x,s=st x:=⟨_,(aF s).symm⟩;obtain ⟨n,rfl⟩:∃ x,d=st x:=⟨_,(aF d).symm⟩;obtain ⟨ls,hs,rs,hL,hH,nd,eg,M,q⟩:=h;simp only [am] at q eg M;walk_at "rd";refine ⟨Nat.zero_le _,fun r0 hr0=>?_⟩;have s0:=ah hr0 (.lst []);have hH0:=hH.same s0;obtain ⟨g,w,e,⟨vs,e0,pr⟩,hw⟩:=id hH0;have hl:=pr.length;refine ⟨_,_,.inr (SqT.of e),rfl,?_⟩;walk_at "rd";refine .inl ⟨⟨_,SqL.of e0⟩,?_⟩;refine bj (xs:=vs) (fun i σ H'=>∃ r u v,σ = [some (.ref p),some (.ref t),some (.str (st n)),some (.str (st l)),some (.ref r),u,v,none,none]/\Same (upd H r0 (.lst [])) H'/\Rules H' r ((gateOf (hs.1.take i) n).getD [])) ⟨r0,none,none,rfl,Same.refl _,⟨[],upd_same,.nil⟩⟩ (fun i σ H' _ ⟨_,_,_,_,z,_⟩=>SqL.of (z _ _ e0)) ?_ ?_
 ·rintro i x σ H1 hx ⟨r,u,v,rfl,s1,h1⟩;have hi:i < vs.length:=(List.getElem?_eq_some_iff.mp hx).1;have hil:i < hs.1.length:=by omega
  obtain ⟨y,hy,t',r',ey,et,hr⟩:=aE pr (List.getElem?_eq_getElem hil);obtain rfl:x=.ref t':=by rw [hy] at hx; rw [<- Option.some.inj hx,ey]
  have tk:hs.1.take (i+1)=hs.1.take i++[hs.1[i]]:=by rw [List.take_add_one,List.getElem?_eq_getElem hil,Option.toList_some]
  rw [tk,sR];refine ⟨t',[_,_],rfl,SqT.of (s1 _ _ et),rfl,_,[_],rfl,_,[],rfl,rfl,?_⟩;walk_at "rd";refine ite2 (fun g=>⟨r',some (tx hs.1[i].1),some (.ref r'),rfl,s1,?_⟩) fun g=>⟨r,some (tx hs.1[i].1),some (.ref r'),rfl,s1,?_⟩
  ·rw [if_pos g,rB (l:=hs.1.take i)]
   ·exact hr.same s1
   ·intro hm;obtain ⟨z,hz,ez⟩:=List.mem_map.mp hm;obtain ⟨j,hj,rfl⟩:=List.mem_take_iff_getElem.mp hz;have:=List.pairwise_iff_getElem.mp nd j i (by simp; omega) (by simp; omega) (by omega);apply this;rw [List.getElem_map,List.getElem_map];exact ez.trans g.symm
  ·rw [if_neg g,Option.or_none];exact h1
 ·rintro σ H1 ⟨r,u,v,rfl,s1,h1⟩;rw [<- hl,List.take_length,eg,Option.getD_some] at h1;obtain ⟨us,e1,pr1⟩:=h1;have hl1:=pr1.length;have s01:=s0.trans s1;walk_at "rd";refine ⟨⟨_,SqL.of e1⟩,?_⟩;refine mX (xs:=us) (fun i σ H'=>∃ a b,σ = [some (.ref p),some (.ref t),some (.str (st n)),some (.str (st l)),some (.ref r),u,v,a,b]/\Same H1 H'/\∀ r ∈ rs.take i,within l r.1=false) ⟨none,none,rfl,Same.refl _,fun r hr=>by simp at hr⟩ (fun i σ H' _ ⟨_,_,_,z,_⟩=>SqL.of (z _ _ e1)) ?_ ?_
  ·rintro i x σ H2 t2 hx ⟨a,b,rfl,s2,h2⟩ ht2;have hi:i < us.length:=(List.getElem?_eq_some_iff.mp hx).1;have hir:i < rs.length:=by omega
   obtain ⟨y,hy,t',ey,et⟩:=aE pr1 (List.getElem?_eq_getElem hir);obtain rfl:x=.ref t':=by rw [hy] at hx; rw [<- Option.some.inj hx,ey]
   have s3:=s2.trans (ah ht2 (.tup [.int i,.ref t']));have s13:=s01.trans s3;have st1:=SqT.of (K:=K) (s3 _ _ et);walk_at "rd";refine ⟨_,_,.inr st1,rfl,fun H3 s4=>?_⟩;simp only [am];have s14:=s13.trans s4;have st2:=SqT.of (K:=K) (s4 _ _ (s3 _ _ et));refine ite2 (fun g=>?_) fun g=>⟨_,_,rfl,s3.trans s4,fun r hr=>?_⟩
   ·have ef:firstR rs l=i:=ue hir h2 g;have er:rs[i]? = some rs[i]:=List.getElem?_eq_getElem hir;refine ⟨_,_,.inr st2,rfl,?_⟩;walk_at "rd";refine ite2 (fun gd=>?_) fun gd=>?_
    ·refine ⟨by decide,fun t3 ht3=>q t3 _ (s14.trans (ah ht3 _)) ?_⟩;rw [upd_same,doesV,ef,if_pos (by unfold dropB; rw [er]; exact decide_eq_true gd)];rfl
    ·obtain ⟨g4,w4,e4,_,hw4⟩:=hH.same s14;have eD:doesV ls rs hs.2 l=sentV (wayL hs.2 (partT ls (written l rs[i].2.2))).2 (written l rs[i].2.2):=by
      rw [doesV,ef,if_neg (by unfold dropB; rw [er]; intro z; exact gd (of_decide_eq_true z))];unfold sentT;rw [ef,er];rfl
     have ho:=M.over rs[i] (List.getElem_mem hir);have hwl:=fE ho.symm;have hM:=M.wide;obtain ⟨a1,b1,esp,hb1⟩:=M.to;refine ⟨_,_,.inr (SqT.of e4),rfl,?_⟩;walk_at "rd";refine ⟨_,_,.inr st2,rfl,by simp only [am]; exact hM,fun H5 s5=>?_⟩;simp only [am];walk_at "rd";refine ⟨ls,hs.2,a1,b1,hL.same (s14.trans s5),hw4.same s5,M.ways,by simp only [am]; omega,esp,by simp only [am]; omega,fun t6 H6 s6 e6=>q t6 H6 (s14.trans (s5.trans s6)) ?_⟩;rw [e6,eD]
   ·rw [List.take_add_one,List.getElem?_eq_getElem hir] at hr;rcases List.mem_append.mp hr with hr | hr
    ·exact h2 r hr
    ·have e:r=rs[i]:=by simpa using hr
     rw [e];simpa using g
  ·rintro σ H2 ⟨a,b,rfl,s2,h2⟩;walk_at "rd";refine ⟨us,.inl (SqL.of (s2 _ _ e1)),by decide,fun t3 ht3=>q t3 _ (s01.trans (s2.trans (ah ht3 _))) ?_⟩;have ef:firstR rs l=us.length:=by
    unfold firstR;rw [<- hl1];exact List.findIdx_eq_length.mpr fun r hr=>h2 r (by rw [<- hl1,List.take_length]; exact hr)
   rw [upd_same,doesV,ef,if_pos (by unfold dropB; rw [List.getElem?_eq_none (by omega)])];rfl
noncomputable def Th (H:Hp):Nat->V->D->Prop
 | 0,v,d=>d=.f v/\flatV v=true
 | n+1,v,d=>(d=.f v/\flatV v=true)\/(∃ a vs ds,v=.ref a/\d=.l ds/\H a=some (.lst vs)/\vs.length<=1000/\Paired (Th H n) vs ds)\/(∃ a vs ds,v=.ref a/\d=.t ds/\H a=some (.tup vs)/\vs.length<=1000/\Paired (Th H n) vs ds)
theorem c7 {H H':Hp} (s:Same H H'):∀ (n:Nat) {v:V} {d:D},Th H n v d->Th H' n v d
 | 0,_,_,h=>h
 | n+1,_,_,.inl h=>.inl h
 | n+1,_,_,.inr (.inl ⟨a,vs,ds,e1,e2,e3,e4,p⟩)=>.inr (.inl ⟨a,vs,ds,e1,e2,s _ _ e3,e4,L2.Paired.mapP p fun _ _ z=>c7 s n z⟩)
 | n+1,_,_,.inr (.inr ⟨a,vs,ds,e1,e2,e3,e4,p⟩)=>.inr (.inr ⟨a,vs,ds,e1,e2,s _ _ e3,e4,L2.Paired.mapP p fun _ _ z=>c7 s n z⟩)
theorem dH {H:Hp} {v:V} (n:Nat) (f:flatV v=true):Th H n v (.f v):=by
 cases n with
 | zero=>exact ⟨rfl,f⟩
 | succ n=>exact .inl ⟨rfl,f⟩
theorem iH {α β γ:Type} {F:α -> γ -> Prop} {G:β -> γ -> Prop}:∀ {xs:List α} {ys:List β} {ds:List γ},Paired F xs ds->Paired G ys ds->∀ x ∈ xs.zip ys,∃ d,F x.1 d/\G x.2 d
 | _,_,_,.nil,.nil,x,hx=>by simp at hx
 | _,_,_,.cons r p,.cons r' p',x,hx=>by
  rw [List.zip_cons_cons] at hx;rcases List.mem_cons.mp hx with rfl | hx
  ·exact ⟨_,r,r'⟩
  ·exact iH p p' x hx
theorem qB {α:Type} {F:α -> V->Hp->Prop} {H:Hp}:∀ {xs:List α} {vs:List V},Paired (fun x v=>v=V.bl true) xs vs->vs=(xs.map fun _=>true).map V.bl
 | _,_,.nil=>rfl
 | _,_,.cons r p=>by rw [List.map_cons,List.map_cons,<- qB (F:=F) (H:=H) p,r]
theorem x0 {α:Type} (xs:List α):(xs.map fun _=>true).all id=true:=by simp
theorem x6 {H:Hp}:∀ {n:Nat} {v:V} {d:D},Th H n v d->flatV v=true->d=.f v
 | 0,_,_,h,_=>h.1
 | _+1,_,_,.inl h,_=>h.1
 | _+1,_,_,.inr (.inl ⟨_,_,_,e,_⟩),f=>by subst e; cases f
 | _+1,_,_,.inr (.inr ⟨_,_,_,e,_⟩),f=>by subst e; cases f
theorem jB {H:Hp}:∀ {n:Nat} {u v:V},Th H n u (.f v)->u=v
 | 0,_,_,h=>(D.f.inj h.1).symm
 | _+1,_,_,.inl h=>(D.f.inj h.1).symm
 | _+1,_,_,.inr (.inl ⟨_,_,_,_,e,_⟩)=>by cases e
 | _+1,_,_,.inr (.inr ⟨_,_,_,_,e,_⟩)=>by cases e
noncomputable def cM (K:Frag) (m:Nat):Sp:=fun vs H Q _=>match vs with
 | [v,u]=>∃ n d,n < m/\Th H n v d/\Th H n u d/\∀ H',Same H H'->Q (.bl true) H'
 | _=>False
theorem nY (T:Top K mg):∀ m:Nat,Callee P w K mg base (m+1) "_law_same" ["_law_found", "_law_due"] (cM K m):=by
 intro m
 induction m with
 | zero=>
  refine T.jb.cal kr (by intro vs H Q E h; unfold cM at h; split at h <;> first | rfl | exact h.elim) (fun _ _ _ _ _ _ us hl=>match us,hl with | [_,_],_=>rfl) (fun f cdv A outer s H vs Q E hr h=>?_);unfold cM at h;split at h
  case h_2=>exact h.elim
  obtain ⟨_,_,hn,_⟩:=h;exact absurd hn (Nat.not_lt_zero _)
 | succ m ih=>
  refine T.jb.cal kr (by intro vs H Q E h; unfold cM at h; split at h <;> first | rfl | exact h.elim) (fun _ _ _ _ _ _ us hl=>match us,hl with | [_,_],_=>rfl) (fun f cdv A outer s H vs Q E hr h=>?_);unfold cM at h;split at h
  case h_2=>exact h.elim
  refine ⟨_,(ae (aG (aC qx (qv 1) h8) (ai (ao (jM qx (qv 0) h8))) aA)
   (ae (aG (PW.pt (z9 (cG (bh .bool rfl T.az (qv 1) rfl T.nU mi)) (xq (cG (bh .bool rfl T.az (qv 0) rfl T.nU mi))))) (ai (ao (pO (bh .bool rfl T.az (qv 1) rfl T.nU mi) (pO (bh .bool rfl T.az (qv 0) rfl T.nU mi) (qd (jM bf (qv 0) (qv 1))))))) aA)
   (ae (aG (cG (bh .str rfl T.az (qv 1) rfl T.pH mQ)) (ai (ao (pO (bh .str rfl T.az (qv 0) rfl T.pH mQ) (qd (jM bf (qv 0) (qv 1)))))) aA)
   (ae (aG (cG (bh .int rfl T.az (qv 1) rfl T.yn xh)) (ai (ao (pO (bh .int rfl T.az (qv 0) rfl T.yn xh) (qd (jM bf (qv 0) (qv 1)))))) aA)
   (fq (aG (cG (bh .tuple rfl T.az (qv 1) rfl T.ku kg)) (ai (aG (mF (cG (bh .tuple rfl T.az (qv 0) rfl T.ku kg))) (ai (ao dm)) aA)) (ai (aG (mF (cG (bh .list rfl T.az (qv 0) rfl T.iA fv))) (ai (ao dm)) aA)))
   (ae (aG (aC jN (aB (lenE K rfl) rfl T.b5 aW (aa (qv 0) ad)) (aB (lenE K rfl) rfl T.b5 aW (aa (qv 1) ad))) (ai (ao dm)) aA)
   (ai (ao (aB (wk K rfl rfl) rfl T.Ac Aj (aa (bZ (nt:=2) (fi:=[]) (N':=["_law_own", "_law_part"]) rfl (cscope rfl (by decide +kernel)) (cnames (N:=["_law_found", "_law_due"]) (sc:=defScope fA) rfl rfl (by decide +kernel)) (j5 (by decide) (by decide)) (ze rfl rfl T.pI (qv 0) (qv 1)) (fun _ _ _ _ _=>(tupE K rfl rfl (n:=2) (aq (aj (i:=0) (by show (["_law_own", "_law_part"]:List Str).Nodup; decide +kernel) rfl lc) (aq (aj (i:=1) (by show (["_law_own", "_law_part"]:List Str).Nodup; decide +kernel) rfl lc) aP)))) (fun _ _ _ _ _=>aZ) (fun _ _ _ _ _=>(au ih hr.m rfl (aa (qv 0) (aa (qv 1) ad))))) ad)))))))))),?_⟩
  rename_i v u;obtain ⟨n,d,hn,h1,h2,q⟩:=h;by_cases fl:flatV v=true
  ·have ed:=x6 h1 fl;subst ed;have eu:=jB h2;subst eu;have q0:=q H (Same.refl _);cases u with
   | non=>walk_at "rd"; exact q0
   | bl b=>walk_at "rd"; exact q0
   | int i=>walk_at "rd"; exact q0
   | str z=>
    walk_at "rd";rw [if_neg (by intro y; cases y)];rw [xQ];simpa using q0
   | _=>cases fl
  ·obtain _ | n:=n
   ·exact absurd h1.2 fl
   rcases h1 with h1 | ⟨a,vs,ds,rfl,rfl,e1,l1,p1⟩ | ⟨a,vs,ds,rfl,rfl,e1,l1,p1⟩
   ·exact absurd h1.2 fl
   ·rcases h2 with ⟨e2,_⟩ | ⟨b,us,ds2,rfl,ed,e2,l2,p2⟩ | ⟨b,us,ds2,rfl,ed,e2,l2,p2⟩
    ·cases e2
    ·cases ed;walk_at "rd";rw [if_neg (by intro y; cases y)];refine .inl ⟨⟨_,e2⟩,.inl ⟨⟨_,e1⟩,.inl ⟨⟨_,e2⟩,.inl ⟨⟨_,e2⟩,fun σ' H'=>σ'=[some (.ref a),some (.ref b)]/\H'=H,.inl ⟨⟨_,e2⟩,.inl ⟨⟨_,e1⟩,rfl,rfl⟩⟩,?_⟩⟩⟩⟩;rintro σ' H' ⟨rfl,rfl⟩;walk_at "rd";have l3:=p1.length;have l4:=p2.length;have lz:(vs.zip us).length=vs.length:=by rw [List.length_zip]; omega
     refine ⟨vs,.inl (SqL.of e1),us,.inl (SqL.of e2),?_⟩;rw [if_pos (by omega)];refine .inl ⟨⟨_,SqL.of e1⟩,⟨_,SqL.of e2⟩,fun D hD=>?_⟩;refine rM (vs.zip us) (fun _=>true) (fun _ v _=>v=.bl true) hD (by omega) (fun i H1 hi s1=>⟨⟨vs,vs[i],SqL.of (s1 _ _ e1),List.getElem?_eq_getElem (by omega)⟩,⟨us,us[i],SqL.of (s1 _ _ e2),List.getElem?_eq_getElem (by omega)⟩⟩) (fun H1 s1=>.inl ⟨vs,SqL.of (s1 _ _ e1),by omega⟩) ?_ (fun _ _ _ _ _ _ _ r=>r) ?_ ?_
     ·rintro i H1 v H2 _ ⟨S,x,y,rfl,hS,rfl,_,_⟩;exact ah hS _
     ·rintro i x v H1 H2 out non hx s1 ⟨S,x1,x2,rfl,hS,rfl,a1,a2⟩ ho _;obtain ⟨z1,z2⟩:=List.getElem?_zip_eq_some.mp hx;have y1:=(a1 vs (SqL.of (s1 _ _ e1)));have y2:=(a2 us (SqL.of (s1 _ _ e2)));rw [z1] at y1;rw [z2] at y2;cases y1;cases y2;obtain ⟨d,t1,t2⟩:=iH p1 p2 x (List.mem_of_getElem? hx);have s2:=s1.trans (ah hS (.tup [x.1,x.2]));refine ⟨S,[_,_],rfl,SqT.of upd_same,rfl,_,[_],rfl,_,[],rfl,rfl,?_⟩;walk_at "rd";exact ⟨n,d,by omega,c7 s2 n t1,c7 s2 n t2,fun H3 s3=>ho _ H3 rfl s3 rfl⟩
     ·intro H1 ws s1 e3 p3;rw [qB (F:=fun _ _ _=>True) (H:=H') p3] at e3;walk_at "rd";refine ⟨_,SqL.of e3,?_⟩;rw [x0];exact q H1 s1
    ·cases ed
   ·rcases h2 with ⟨e2,_⟩ | ⟨b,us,ds2,rfl,ed,e2,l2,p2⟩ | ⟨b,us,ds2,rfl,ed,e2,l2,p2⟩
    ·cases e2
    ·cases ed
    ·cases ed;walk_at "rd";rw [if_neg (by intro y; cases y)];refine .inr ⟨⟨_,e2⟩,.inr ⟨⟨_,e1⟩,.inr ⟨⟨_,e2⟩,.inr ⟨⟨_,e2⟩,fun σ' H'=>σ'=[some (.ref a),some (.ref b)]/\H'=H,.inr ⟨⟨_,e2⟩,.inr ⟨⟨_,e1⟩,rfl,rfl⟩⟩,?_⟩⟩⟩⟩;rintro σ' H' ⟨rfl,rfl⟩;walk_at "rd";have l3:=p1.length;have l4:=p2.length;have lz:(vs.zip us).length=vs.length:=by rw [List.length_zip]; omega
     refine ⟨vs,.inr (SqT.of e1),us,.inr (SqT.of e2),?_⟩;rw [if_pos (by omega)];refine .inr ⟨a,b,rfl,rfl,⟨_,e1⟩,⟨_,e2⟩,fun D hD=>?_⟩;refine rM (vs.zip us) (fun _=>true) (fun _ v _=>v=.bl true) hD (by omega) (fun i H1 hi s1=>⟨⟨vs,vs[i],s1 _ _ e1,List.getElem?_eq_getElem (by omega)⟩,⟨us,us[i],s1 _ _ e2,List.getElem?_eq_getElem (by omega)⟩⟩) (fun H1 s1=>.inl ⟨vs,s1 _ _ e1,by omega⟩) ?_ (fun _ _ _ _ _ _ _ r=>r) ?_ ?_
     ·rintro i H1 v H2 _ ⟨S,x,y,rfl,hS,rfl,_,_⟩;exact ah hS _
     ·rintro i x v H1 H2 out non hx s1 ⟨S,x1,x2,rfl,hS,rfl,a1,a2⟩ ho _;obtain ⟨z1,z2⟩:=List.getElem?_zip_eq_some.mp hx;have y1:=(a1 vs (s1 _ _ e1));have y2:=(a2 us (s1 _ _ e2));rw [z1] at y1;rw [z2] at y2;cases y1;cases y2;obtain ⟨d,t1,t2⟩:=iH p1 p2 x (List.mem_of_getElem? hx);have s2:=s1.trans (ah hS (.tup [x.1,x.2]));refine ⟨S,[_,_],rfl,SqT.of upd_same,rfl,_,[_],rfl,_,[],rfl,rfl,?_⟩;walk_at "rd";exact ⟨n,d,by omega,c7 s2 n t1,c7 s2 n t2,fun H3 s3=>ho _ H3 rfl s3 rfl⟩
     ·intro H1 ws s1 e3 p3;rw [qB (F:=fun _ _ _=>True) (H:=H') p3] at e3;walk_at "rd";refine ⟨_,SqL.of e3,?_⟩;rw [x0];exact q H1 s1
theorem j8 (T:Top K mg):Callee P w K mg base 11 "_law_same" ["_law_found", "_law_due"] (cM K 10):=nY T 10
noncomputable def ThN (N:Addr->Prop) (H:Hp):Nat->V->D->Prop
 | 0,v,d=>d=.f v/\flatV v=true
 | n+1,v,d=>(d=.f v/\flatV v=true)\/(∃ a vs ds,v=.ref a/\d=.l ds/\N a/\H a=some (.lst vs)/\vs.length<=1000/\Paired (ThN N H n) vs ds)\/(∃ a vs ds,v=.ref a/\d=.t ds/\N a/\H a=some (.tup vs)/\vs.length<=1000/\Paired (ThN N H n) vs ds)
theorem fw {N N':Addr->Prop} {H H':Hp} (s:∀ a o,N a->H a=some o->H' a=some o) (f:∀ a,N a->N' a):∀ (n:Nat) {v:V} {d:D},ThN N H n v d->ThN N' H' n v d
 | 0,_,_,h=>h
 | n+1,_,_,.inl h=>.inl h
 | n+1,_,_,.inr (.inl ⟨a,vs,ds,e1,e2,k,e3,e4,p⟩)=>.inr (.inl ⟨a,vs,ds,e1,e2,f _ k,s _ _ k e3,e4,L2.Paired.mapP p fun _ _ z=>fw s f n z⟩)
 | n+1,_,_,.inr (.inr ⟨a,vs,ds,e1,e2,k,e3,e4,p⟩)=>.inr (.inr ⟨a,vs,ds,e1,e2,f _ k,s _ _ k e3,e4,L2.Paired.mapP p fun _ _ z=>fw s f n z⟩)
theorem ut {N:Addr->Prop} {H:Hp}:∀ (n:Nat) {v:V} {d:D},ThN N H n v d->Th H n v d
 | 0,_,_,h=>h
 | n+1,_,_,.inl h=>.inl h
 | n+1,_,_,.inr (.inl ⟨a,vs,ds,e1,e2,k,e3,e4,p⟩)=>.inr (.inl ⟨a,vs,ds,e1,e2,e3,e4,L2.Paired.mapP p fun _ _ z=>ut n z⟩)
 | n+1,_,_,.inr (.inr ⟨a,vs,ds,e1,e2,k,e3,e4,p⟩)=>.inr (.inr ⟨a,vs,ds,e1,e2,e3,e4,L2.Paired.mapP p fun _ _ z=>ut n z⟩)
theorem jX {α β:Type} {F:α -> β -> Prop}:∀ {xs:List α} {ds:List β},Paired F xs ds->∀ {i:Nat} {x:α},xs[i]? = some x->∃ d,ds[i]? = some d/\F x d
 | _,_,.nil,i,x,h=>by simp at h
 | _,_,.cons r p,0,x,h=>by simp at h; subst h; exact ⟨_,rfl,r⟩
 | _,_,.cons r p,i+1,x,h=>by simpa using jX p (by simpa using h)
theorem iZ {α β γ:Type} {F:β -> γ -> Prop}:∀ {xs:List (α × γ)} {vs:List β},Paired (fun x v=>F v x.2) xs vs->Paired F vs (xs.map (·.2))
 | _,_,.nil=>.nil
 | _,_,.cons r p=>.cons r (iZ p)
noncomputable def cL (K:Frag) (m:Nat):Sp:=fun vs H Q _=>match vs with
 | [v]=>∃ n d,n < m/\Th H n v d/\∀ v' H',Same H H'->ThN (fun a=>H a=none) H' n v' d->Q v' H'
 | _=>False
theorem oz (T:Top K mg):∀ m:Nat,Callee P w K mg base (m+1) "_law_copy" ["_law_thing"] (cL K m):=by
 intro m
 induction m with
 | zero=>
  refine T.ji.cal j9 (by intro vs H Q E h; unfold cL at h; split at h <;> first | rfl | exact h.elim) (fun _ _ _ _ _ _ us hl=>match us,hl with | [_],_=>rfl) (fun f cdv A outer s H vs Q E hr h=>?_);unfold cL at h;split at h
  case h_2=>exact h.elim
  obtain ⟨_,_,hn,_⟩:=h;exact absurd hn (Nat.not_lt_zero _)
 | succ m ih=>
  refine T.ji.cal j9 (by intro vs H Q E h; unfold cL at h; split at h <;> first | rfl | exact h.elim) (fun _ _ _ _ _ _ us hl=>match us,hl with | [_],_=>rfl) (fun f cdv A outer s H vs Q E hr h=>?_);unfold cL at h;split at h
  case h_2=>exact h.elim
  refine ⟨_,(ae (aG (cG (bh .list rfl T.az (qv 0) rfl T.iA fv)) (ai (ao (bZ (nt:=1) (fi:=[]) (N':=["_law_part"]) rfl (cscope rfl (by decide +kernel)) (cnames (N:=["_law_thing"]) (sc:=defScope dQ) rfl rfl (by decide +kernel)) (bw (by decide)) (iterE K rfl (qv 0)) (fun _ _ _ _ _=>(aj (i:=0) (by show (["_law_part"]:List Str).Nodup; decide +kernel) rfl lc)) (fun _ _ _ _ _=>aZ) (fun _ _ _ _ _=>(au ih hr.m rfl (aa (qv 0) ad)))))) aA)
   (ae (aG (cG (bh .tuple rfl T.az (qv 0) rfl T.ku kg)) (ai (ao (cX (v9 K rfl) rfl T.ku kg (aa (bZ (nt:=1) (fi:=[]) (N':=["_law_part"]) rfl (cscope rfl (by decide +kernel)) (cnames (N:=["_law_thing"]) (sc:=defScope dQ) rfl rfl (by decide +kernel)) (bw (by decide)) (iterE K rfl (qv 0)) (fun _ _ _ _ _=>(aj (i:=0) (by show (["_law_part"]:List Str).Nodup; decide +kernel) rfl lc)) (fun _ _ _ _ _=>aZ) (fun _ _ _ _ _=>(au ih hr.m rfl (aa (qv 0) ad)))) ad)))) aA)
   (ai (ao (qv 0))))),?_⟩
  rename_i v;obtain ⟨n,d,hn,h1,q⟩:=h;by_cases fl:flatV v=true
  ·have ed:=x6 h1 fl;subst ed;have q0:=q v H (Same.refl _) (by cases n with | zero=>exact ⟨rfl,fl⟩ | succ n=>exact .inl ⟨rfl,fl⟩);cases v with
   | non=>walk_at "rd"; exact q0
   | bl b=>walk_at "rd"; exact q0
   | int i=>walk_at "rd"; exact q0
   | str z=>walk_at "rd"; exact q0
   | _=>cases fl
  ·obtain _ | n:=n
   ·exact absurd h1.2 fl
   rcases h1 with h1 | ⟨a,vs,ds,rfl,rfl,e1,l1,p1⟩ | ⟨a,vs,ds,rfl,rfl,e1,l1,p1⟩
   ·exact absurd h1.2 fl
   ·have l3:=p1.length;have lz:(vs.zip ds).length=vs.length:=by rw [List.length_zip]; omega
    walk_at "rd";refine .inl ⟨⟨_,e1⟩,.inl ⟨⟨_,SqL.of e1⟩,fun D hD=>?_⟩⟩;refine ly (vs.zip ds) (fun x v H1=>ThN (fun b=>b≠D/\H b=none) H1 n v x.2) hD (by omega) (fun i H1 hi s1=>⟨vs,vs[i],SqL.of (s1 _ _ e1),List.getElem?_eq_getElem (by omega)⟩) (fun H1 s1=>⟨vs,SqL.of (s1 _ _ e1),by omega⟩) ?_ (fun x v H1 H2 acc _ k r=>fw (fun b o nb e=>k b o nb.1 e) (fun _ z=>z) n r) ?_ ?_
    ·rintro i H1 v H2 _ ⟨rfl,_⟩;exact Same.refl _
    ·rintro i x v H1 H2 out non hx s1 nD ⟨rfl,a1⟩ ho;obtain ⟨z1,z2⟩:=List.getElem?_zip_eq_some.mp hx;have y1:=a1 vs (SqL.of (s1 _ _ e1));rw [z1] at y1;cases y1;obtain ⟨d,z3,t1⟩:=jX p1 z1;rw [z2] at z3;cases z3;walk_at "rd";exact ⟨n,x.2,by omega,c7 s1 n t1,fun v' H6 s6 t6=>ho v' H6 s6 (fw (fun _ _ _ e=>e) (fun b hb=>⟨nD b hb,s1.free hb⟩) n t6)⟩
    ·intro H1 ws s1 e3 p3;have l4:=p3.length;have pe:=iZ p3;rw [List.map_snd_zip (by omega)] at pe;refine q (.ref D) H1 s1 (.inr (.inl ⟨D,ws,ds,rfl,rfl,hD,e3,by omega,?_⟩));exact L2.Paired.mapP pe fun _ _ z=>fw (fun _ _ _ e=>e) (fun b hb=>hb.2) n z
   ·have l3:=p1.length;have lz:(vs.zip ds).length=vs.length:=by rw [List.length_zip]; omega
    walk_at "rd";refine .inr ⟨⟨_,e1⟩,.inr ⟨⟨_,e1⟩,.inr ⟨⟨_,SqT.of e1⟩,fun D hD=>?_⟩⟩⟩;refine ly (vs.zip ds) (fun x v H1=>ThN (fun b=>b≠D/\H b=none) H1 n v x.2) hD (by omega) (fun i H1 hi s1=>⟨vs,vs[i],SqT.of (s1 _ _ e1),List.getElem?_eq_getElem (by omega)⟩) (fun H1 s1=>⟨vs,SqT.of (s1 _ _ e1),by omega⟩) ?_ (fun x v H1 H2 acc _ k r=>fw (fun b o nb e=>k b o nb.1 e) (fun _ z=>z) n r) ?_ ?_
    ·rintro i H1 v H2 _ ⟨rfl,_⟩;exact Same.refl _
    ·rintro i x v H1 H2 out non hx s1 nD ⟨rfl,a1⟩ ho;obtain ⟨z1,z2⟩:=List.getElem?_zip_eq_some.mp hx;have y1:=a1 vs (SqT.of (s1 _ _ e1));rw [z1] at y1;cases y1;obtain ⟨d,z3,t1⟩:=jX p1 z1;rw [z2] at z3;cases z3;walk_at "rd";exact ⟨n,x.2,by omega,c7 s1 n t1,fun v' H6 s6 t6=>ho v' H6 s6 (fw (fun _ _ _ e=>e) (fun b hb=>⟨nD b hb,s1.free hb⟩) n t6)⟩
    ·intro H1 ws s1 e3 p3;have l4:=p3.length;have pe:=iZ p3;rw [List.map_snd_zip (by omega)] at pe;walk_at "rd";refine ⟨ws,SqL.of e3,fun l hl=>q (.ref l) _ (s1.trans (ah hl _)) (.inr (.inr ⟨l,ws,ds,rfl,rfl,s1.free hl,upd_same,by omega,?_⟩))⟩;exact L2.Paired.mapP pe fun _ _ z=>fw (fun b o _ e=>ah hl _ _ _ e) (fun b hb=>hb.2) n z
theorem qA (T:Top K mg):Callee P w K mg base 11 "_law_copy" ["_law_thing"] (cL K 10):=oz T 10
noncomputable def cellN (ns:List Int) (k:Nat):Int:=if 0 < ns.length then (ns.getD (k % ns.length) 0) % 2147483647 else 0
noncomputable def drawN (ns:List Int) (k m:Nat):Nat:=((cellN ns k*(742938285+9973*(k:Int)*(k:Int))+(k:Int)*630360016) % 2147483647 / 97 % (m:Int)).toNat
theorem wC (ns:List Int) (k:Nat):0<=cellN ns k/\cellN ns k < 2147483647:=by
 unfold cellN;split
 ·exact ⟨Int.emod_nonneg _ (by decide),Int.emod_lt_of_pos _ (by decide)⟩
 ·decide
theorem cA (ns:List Int) (k:Nat) {m:Nat} (h:1<=m):drawN ns k m < m:=by
 unfold drawN;generalize (cellN ns k*(742938285+9973*(k:Int)*(k:Int))+(k:Int)*630360016) % 2147483647 / 97=z;have z0:0<=z % (m:Int):=Int.emod_nonneg _ (by omega);have z1:z % (m:Int) < m:=Int.emod_lt_of_pos _ (by omega);omega
noncomputable def cO (K:Frag):Sp:=fun vs H Q _=>match vs with
 | [.ref a,.int k,.int m]=>∃ (ns:List Int) (k0 m0:Nat),SqL K H a (ns.map V.int)/\k=(k0:Int)/\k0<=100000/\m=(m0:Int)/\1<=m0/\m0<=100000/\Q (.int (drawN ns k0 m0:Nat)) H
 | _=>False
theorem al (T:Top K mg):Callee P w K mg base 1 "_law_draw" ["_law_script", "_law_k", "_law_many"] (cO K):=by
 refine T.lJ.cal eO (by intro vs H Q E h; unfold cO at h; split at h <;> first | rfl | exact h.elim) (fun _ _ _ _ _ _ us hl=>match us,hl with | [_,_,_],_=>rfl) (fun f cdv A outer s H vs Q E hr h=>?_);unfold cO at h;split at h
 case h_2=>exact h.elim
 refine ⟨_,(ae (ak (i:=3) eO.nd rfl lc af)
   (fq (aG (aC ja (aB (lenE K rfl) rfl T.b5 aW (aa (qv 0) ad)) af) (ai (ak (i:=3) eO.nd rfl lc (ar cN (aw (ixE K rfl) (qv 0) (ar cN (qv 1) (aB (lenE K rfl) rfl T.b5 aW (aa (qv 0) ad))) (fun _ _=>rfl)) af))) aA)
   (ae (ak (i:=4) eO.nd rfl lc (ar ap (ar cD (qv 3) (ar ap af (ar cD (ar cD af (qv 1)) (qv 1)))) (ar cD (qv 1) af)))
   (ai (ao (ar cN (ar gz (ar cN (qv 4) af) af) (qv 2))))))),?_⟩
 rename_i a k m;obtain ⟨ns,k0,m0,hS,rfl,hk1,rfl,hm0,hm1,q⟩:=h;walk_at "rd";refine ⟨fun σ' H'=>σ'=[some (.ref a),some (.int (k0:Nat)),some (.int (m0:Nat)),some (.int (cellN ns k0)),none]/\H'=H,⟨_,.inl hS,ite2 (fun g=>⟨_,.inl hS,by simpa using g,?_⟩) fun g=>?_⟩,?_⟩
 ·rw [List.length_map] at g ⊢;have hl:0 < ns.length:=by omega
  have hj:k0 % ns.length < ns.length:=Nat.mod_lt _ hl;refine ⟨_,V.int ns[k0 % ns.length],.inl hS,?_,?_⟩
  ·rw [show (k0:Int) % (ns.length:Int)=((k0 % ns.length:Nat):Int) by omega];exact be (by rw [List.getElem?_map,List.getElem?_eq_getElem hj]; rfl)
  walk_at "rd";have e:cellN ns k0=ns[k0 % ns.length] % 2147483647:=by
   unfold cellN;rw [if_pos hl,List.getD_eq_getElem?_getD,List.getElem?_eq_getElem hj];rfl
  rw [e]
 ·rw [List.length_map] at g;have e:cellN ns k0=0:=by
   unfold cellN;rw [if_neg (by omega)]
  rw [e];exact ⟨rfl,rfl⟩
 ·rintro σ' H' ⟨rfl,rfl⟩;walk_at "rd";obtain ⟨c0,c1⟩:=wC ns k0;have hc (x:Int) (h0:0<=x) (h1:x<=2147483647):-(2 ^ 64) < x/\x < 2 ^ 64:=⟨Int.lt_of_lt_of_le (by decide) h0,Int.lt_of_le_of_lt h1 (by decide)⟩;refine ⟨.inr (hc k0 (by omega) (by omega)),.inr (hc k0 (by omega) (by omega)),.inl (hc _ c0 (by omega)),.inl (hc k0 (by omega) (by omega)),by omega,?_⟩;unfold drawN at q;rw [Int.toNat_of_nonneg (Int.emod_nonneg _ (by omega))] at q;exact q
theorem aM {H:Hp} {a:Addr} {k m:Int} {ns:List Int} {Q:VK} {E:XK} (hS:SqL K H a (ns.map V.int)) (hk0:0<=k) (hk1:k<=100000) (hm0:1<=m) (hm1:m<=100000) (q:∀ r:Nat,(r:Int) < m->Q (.int (r:Nat)) H):cO K [.ref a,.int k,.int m] H Q E:=
 ⟨ns,k.toNat,m.toNat,hS,by omega,by omega,by omega,by omega,by omega,q _ (by have:=cA ns k.toNat (m:=m.toNat) (by omega); omega)⟩
theorem gL {H:Hp} {a:Addr} {k m:Nat} {ns:List Int} {Q:VK} {E:XK} (hS:SqL K H a (ns.map V.int)) (hk1:k<=100000) (hm0:1<=m) (hm1:m<=100000) (q:Q (.int (drawN ns k m:Nat)) H):cO K [.ref a,.int (k:Int),.int (m:Int)] H Q E:=
 ⟨ns,k,m,hS,rfl,hk1,rfl,hm0,hm1,q⟩
noncomputable abbrev sgn (c:Nat):V:=V.str (st [c])
noncomputable abbrev nV (n:Nat):V:=V.int (n:Int)
theorem uD {n x:Nat} (h:x < n):ixN n (x:Int)=some x:=by
 unfold ixN;simp;omega
theorem pK {α:Type} {l:List α} (h:1<=l.length) (N:Nat):∃ c,c ∈ l/\atI l ((N:Int) % (l.length:Int))=some c:=by
 have hj:N % l.length < l.length:=Nat.mod_lt _ (by omega);refine ⟨l[N % l.length],List.getElem_mem hj,?_⟩;rw [show ((N:Int) % (l.length:Int))=((N % l.length:Nat):Int) by omega];exact be (List.getElem?_eq_getElem hj)
def OverL (ps r:List Nat):Prop:=∀ (i c:Nat),r[i]? = some c->c≠45->i ∈ ps
noncomputable def cQ (K:Frag):Sp:=fun vs H Q _=>match vs with
 | [.int n,.ref p,.int w,.str menu]=>∃ (N W:Nat) (ps:List Nat),n=(N:Int)/\w=(W:Int)/\W<=1000/\SqL K H p (ps.map nV)/\(∀ x ∈ ps,x < W)/\1<=menu.cps.toList.length/\menu.cps.toList.length<=100 /\
   ∀ r H',Same H H'->r.length=W->(∀ c ∈ r,c=45\/c ∈ menu.cps.toList)->OverL ps r->Q (tx r) H'
 | _=>False
theorem fT (T:Top K mg):Callee P w K mg base 1 "_law_signs" ["_law_number", "_law_places", "_law_width_here", "_law_menu"] (cQ K):=by
 refine T.kz.cal dF (by intro vs H Q E h; unfold cQ at h; split at h <;> first | rfl | exact h.elim) (fun _ _ _ _ _ _ us hl=>match us,hl with | [_,_,_,_],_=>rfl) (fun f cdv A outer s H vs Q E hr h=>?_);unfold cQ at h;split at h
 case h_2=>exact h.elim
 refine ⟨_,(ae (ak (i:=4) dF.nd rfl lc (ar zO (aS (aa (qs [45]) ad)) (qv 2)))
   (ae (aU PassesOwn.never rfl (iterE K rfl (qv 1)) (aj (i:=5) dF.nd rfl lc) (ae (jS (aw (ixE K rfl) (qv 3) (ar cN (qv 0) (aB (lenE K rfl) rfl T.b5 aW (aa (qv 3) ad))) (fun _ _=>rfl)) (ww (qv 4) (qv 5) sO (fun _=>rfl)))
   (ai (ak (i:=0) dF.nd rfl lc (ar gz (qv 0) (aB (lenE K rfl) rfl T.b5 aW (aa (qv 3) ad)))))))
   (ai (ao (joinE K rfl (qv 4)))))),?_⟩
 rename_i n p w' z;obtain ⟨mn,rfl⟩:∃ x,z=st x:=⟨_,(aF z).symm⟩;obtain ⟨N,W,ps,rfl,rfl,hW,hS,hp,hm,hm2,q⟩:=h;simp only [am] at hm hm2 q;walk_at "rd";refine ⟨by decide,fun p1 hp1=>⟨_,upd_same,by omega,by omega,by decide,fun g hg=>?_⟩⟩;have n1:=ah hp1 (.lst [V.str (st [45])]);have hg0:H g=none:=n1.free hg;have s1:=n1.trans (ah hg (.lst (List.replicate (W:Int).toNat [V.str (st [45])]).flatten));refine .inl ⟨⟨_,s1.seq hS⟩,?_⟩;refine eY nV ps (fun i σ H'=>∃ (M:Nat) (r:List Nat) (u:Option V),σ = [some (nV M),some (.ref p),some (nV W),some (.str (st mn)),some (.ref g),u]/\Same H H'/\H' g=some (.lst (r.map sgn))/\r.length=W/\(∀ c ∈ r,c=45\/c ∈ mn)/\OverL ps r)
  ⟨N,List.replicate W 45,none,rfl,s1,?_,by simp,fun c hc=>.inl (List.eq_of_mem_replicate hc),fun i c e n=>absurd (List.eq_of_mem_replicate (List.mem_of_getElem? e)) n⟩ (fun i σ H' _ ⟨_,_,_,_,z,_⟩=>z.seq hS) ?_ ?_
 ·rw [upd_same,Int.toNat_natCast];simp
 ·rintro i x σ H1 hx ⟨M,r,u,rfl,s2,e2,hl,hc,ho⟩;have hxW:=hp x (List.mem_of_getElem? hx);walk_at "rd";obtain ⟨c,hcm,ec⟩:=pK hm M;refine ⟨by omega,by omega,by omega,c,ec,_,x,e2,uD (by rw [List.length_map]; omega),by omega,⟨by omega,by omega⟩,M / mn.length,r.set x c,_,rfl,aK s2 hg0,?_,by rw [List.length_set]; exact hl,fun d hd=>?_,fun j d e n=>?_⟩
  ·rw [upd_same,List.map_set]
  ·rcases List.mem_or_eq_of_mem_set hd with z | z
   ·exact hc d z
   ·rw [z];exact .inr hcm
  ·by_cases hj:x=j
   ·subst hj;exact List.mem_of_getElem? hx
   ·rw [List.getElem?_set_ne hj] at e;exact ho j d e n
 ·rintro σ H1 ⟨M,r,u,rfl,s2,e2,hl,hc,ho⟩;walk_at "rd";exact ⟨r,SqL.of e2,by omega,q r H1 s2 hl hc ho⟩
theorem jV {α β:Type} {F:α -> V->Prop} {P:β -> Prop} {g:β -> V} (h:∀ a v,F a v->∃ b,P b/\v=g b):∀ {l:List α} {vs:List V},Paired F l vs->∃ bs:List β,vs=bs.map g/\bs.length=l.length/\∀ b ∈ bs,P b
 | _,_,.nil=>⟨[],rfl,rfl,fun b hb=>by simp at hb⟩
 | _,_,.cons r p=>by
  obtain ⟨b,h1,rfl⟩:=h _ _ r;obtain ⟨bs,rfl,h3,h4⟩:=jV h p;refine ⟨b::bs,rfl,by simp [h3],fun c hc=>?_⟩;rcases List.mem_cons.mp hc with rfl | hc
  ·exact h1
  ·exact h4 c hc
theorem tH {α:Type} {l:List α} {i:Nat} (h:i < l.length):∃ c,c ∈ l/\atI l (i:Int)=some c:=⟨l[i],List.getElem_mem h,be (List.getElem?_eq_getElem h)⟩
theorem nJ {cs:List Nat} {B:Nat} {vs:List V} (e:vs=cs.map nV) (h:∀ c ∈ cs,c<=B) {i:Nat} (hi:i < vs.length):∃ c,c<=B/\atI vs (i:Int)=some (nV c):=by
 subst e;obtain ⟨v,hv,ev⟩:=tH hi;obtain ⟨c,hc,rfl⟩:=List.mem_map.mp hv;exact ⟨c,h c hc,ev⟩
noncomputable def dY (K:Frag):Sp:=fun vs H Q _=>match vs with
 | [.ref a,.ref p]=>∃ (ns:List Int) (ps:List Nat),SqL K H a (ns.map V.int)/\SqL K H p (ps.map nV)/\1<=ps.length/\ps.length<=100/\∀ (q:Addr) (H':Hp) (os:List Nat),H q=none->Same H H'->H' q=some (.lst (os.map nV))->(∀ x ∈ os,x ∈ ps)->Q (.ref q) H'
 | _=>False
theorem lU (T:Top K mg):Callee P w K mg base 2 "_law_over_at" ["_law_script", "_law_told_here"] (dY K):=by
 refine T.jg.cal dX (by intro vs H Q E h; unfold dY at h; split at h <;> first | rfl | exact h.elim) (fun _ _ _ _ _ _ us hl=>match us,hl with | [_,_],_=>rfl) (fun f cdv A outer s H vs Q E hr h=>?_);unfold dY at h;split at h
 case h_2=>exact h.elim
 refine ⟨_,(ae (ak (i:=2) dX.nd rfl lc (au (al T) hr.m rfl (aa (qv 0) (aa af (aa (aB (lenE K rfl) rfl T.b5 aW (aa (qv 1) ad)) ad)))))
   (ae (ak (i:=3) dX.nd rfl lc (aw (ixE K rfl) (aS (aa af (aa af (aa af (aa af (aa af (aa af ad))))))) (au (al T) hr.m rfl (aa (qv 0) (aa af (aa af ad)))) (fun _ _=>rfl)))
   (ai (ao (bZ (nt:=1) (fi:=[1,2]) (N':=["_law_j", "_law_told_here", "_law_turn"]) rfl (cscope rfl (by decide +kernel)) (cnames (N:=["_law_script", "_law_told_here", "_law_turn", "_law_count"]) (sc:=defScope dg) rfl rfl (by decide +kernel)) (bw (by decide)) (bB rfl T.b7 (aB (jT rfl) rfl T.pF ni (aa (qv 3) (aa (aB (lenE K rfl) rfl T.b5 aW (aa (qv 1) ad)) ad)))) (fun _ _ _ _ _=>(aj (i:=0) (by show (["_law_j", "_law_told_here", "_law_turn"]:List Str).Nodup; decide +kernel) rfl lc)) (fun _ _ _ _ _=>aZ) (fun _ _ _ _ _=>(aw (ixE K rfl) (qv 1) (ar cN (ar ap (qv 2) (qv 0)) (aB (lenE K rfl) rfl T.b5 aW (aa (qv 1) ad))) (fun _ _=>rfl)))))))),?_⟩
 rename_i a p;obtain ⟨ns,ps,hS,hP,h1,h2,q⟩:=h;have hlm:(ps.map nV).length=ps.length:=List.length_map ..;walk_at "rd";refine ⟨_,.inl hP,aM hS (by decide) (by decide) (by omega) (by omega) fun r1 hr1=>?_⟩;walk_at "rd";refine ⟨by decide,fun p1 hp1=>?_⟩;have s1:=ah hp1 (.lst [V.int 0,V.int 1,V.int 2,V.int 3,V.int 2,V.int 3]);refine aM (s1.seq hS) (by decide) (by decide) (by decide) (by decide) fun r2 hr2=>?_
 obtain ⟨c,hc,ec⟩:=nJ (cs:=[0,1,2,3,2,3]) (B:=3) (vs:=[V.int 0,V.int 1,V.int 2,V.int 3,V.int 2,V.int 3]) rfl (by decide) (i:=r2) (by show r2 < 6; omega);walk_at "rd";refine ⟨_,_,.inl (SqL.of upd_same),ec,_,.inl (s1.seq hP),?_⟩;walk_at "rd";rw [hlm];have hz:∃ z:Nat,(if (ps.length:Int) < (c:Int) then (ps.length:Int) else (c:Int))=(z:Int)/\z<=100:=by
  split
  ·exact ⟨_,rfl,h2⟩
  ·exact ⟨_,rfl,by omega⟩
 obtain ⟨z,ez,hz⟩:=hz;rw [ez,Int.toNat_natCast];refine ⟨by omega,by omega,fun D hD=>?_⟩;refine kY (lo:=0) (n:=z) (fun _ v _=>∃ x,x ∈ ps/\v=nV x) hD (by omega) (fun _ _ _ _ _ _ _ r=>r) ?_ ?_
 ·intro i H1 out non hi s2 ho;have s12:=s1.trans s2;walk_at "rd";rw [show ((r1:Int)+(i:Int))=((r1+i:Nat):Int) by omega];obtain ⟨v,hv,ev⟩:=pK (l:=ps.map nV) (by rw [hlm]; exact h1) (r1+i);refine ⟨_,.inl (s12.seq hP),by rw [hlm]; omega,_,v,.inl (s12.seq hP),ev,?_⟩;obtain ⟨x,hx,rfl⟩:=List.mem_map.mp hv;exact ho _ _ (Same.refl _) ⟨x,hx,rfl⟩
 ·intro H1 vs s2 e2 p2;obtain ⟨os,rfl,_,ho⟩:=jV (fun _ _ r=>r) p2;exact q D H1 os (s1.free hD) (s1.trans s2) e2 ho
structure RuleOk (W:Nat) (r:Rule):Prop where
 row:RowL r.1
 rowN:r.1.length=W
 word:r.2.1=passT\/r.2.1=dropT
 over:RowL r.2.2
 overN:r.2.2.length=W
theorem uI {r m:List Nat} (h:∀ c ∈ r,c=45\/c ∈ m) (hm:RowL m):RowL r:=fun c hc=>by
 rcases h c hc with z | z
 ·exact .inr (.inr z)
 ·exact hm c z
theorem xT {H:Hp} {p:Addr} {N W:Nat} {ps m:List Nat} {Q:VK} {E:XK} (hW:W<=1000) (hS:SqL K H p (ps.map nV)) (hp:∀ x ∈ ps,x < W) (hm1:1<=m.length) (hm2:m.length<=100) (hm:RowL m) (q:∀ r H',Same H H'->r.length=W->RowL r->Q (tx r) H'):cQ K [nV N,.ref p,nV W,.str (st m)] H Q E:=
 ⟨N,W,ps,rfl,rfl,hW,hS,hp,by simpa using hm1,by simpa using hm2,fun r H' s hl hc _=>q r H' s hl (uI (by simpa using hc) hm)⟩
theorem mL {H:Hp} {p:Addr} {N W:Nat} {ps m:List Nat} {Q:VK} {E:XK} (hW:W<=1000) (hS:SqL K H p (ps.map nV)) (hp:∀ x ∈ ps,x < W) (hm1:1<=m.length) (hm2:m.length<=100) (hm:RowL m) (q:∀ r H',Same H H'->r.length=W->RowL r->OverL ps r->Q (tx r) H'):cQ K [nV N,.ref p,nV W,.str (st m)] H Q E:=
 ⟨N,W,ps,rfl,rfl,hW,hS,hp,by simpa using hm1,by simpa using hm2,fun r H' s hl hc ho=>q r H' s hl (uI (by simpa using hc) hm) ho⟩
noncomputable def gS (K:Frag):Sp:=fun vs H Q _=>match vs with
 | [.ref a,.int k,.ref p,.ref o,.int w]=>∃ (ns:List Int) (k0 W:Nat) (ps os:List Nat),SqL K H a (ns.map V.int)/\k=(k0:Int)/\k0<=50000/\w=(W:Int)/\W<=1000/\SqL K H p (ps.map nV)/\(∀ x ∈ ps,x < W)/\SqL K H o (os.map nV)/\(∀ x ∈ os,x < W) /\
   ∀ t H' (r:Rule),H t=none->Same H H'->H' t=some (.tup [tx r.1,tx r.2.1,tx r.2.2])->RuleOk W r->OverL os r.2.2->Q (.ref t) H'
 | _=>False
theorem pT (T:Top K mg):Callee P w K mg base 2 "_law_rule" ["_law_script", "_law_k", "_law_told_here", "_law_over_at_here", "_law_width_here"] (gS K):=by
 refine T.lH.cal eQ (by intro vs H Q E h; unfold gS at h; split at h <;> first | rfl | exact h.elim) (fun _ _ _ _ _ _ us hl=>match us,hl with | [_,_,_,_,_],_=>rfl) (fun f cdv A outer s H vs Q E hr h=>?_);unfold gS at h;split at h
 case h_2=>exact h.elim
 refine ⟨_,(ae (ak (i:=5) eQ.nd rfl lc (au (fT T) hr.m rfl (aa (au (al T) hr.m rfl (aa (qv 0) (aa (qv 1) (aa af ad)))) (aa (qv 2) (aa (qv 4) (aa (qs [48,49,45,45,45]) ad))))))
   (ae (ak (i:=6) eQ.nd rfl lc (au (al T) hr.m rfl (aa (qv 0) (aa (ar ap (qv 1) af) (aa af ad)))))
   (ae (ak (i:=7) eQ.nd rfl lc (au (fT T) hr.m rfl (aa (ar gz (qv 6) af) (aa (qv 3) (aa (qv 4) (aa (qs [48,49,45,45]) ad))))))
   (ai (ao (aD (aa (qv 5) (aa (aw (ixE K rfl) (aS (aa (qs [112,97,115,115]) (aa (qs [112,97,115,115]) (aa (qs [112,97,115,115]) (aa (qs [100,114,111,112]) ad))))) (ar cN (qv 6) af) (fun _ _=>rfl)) (aa (qv 7) ad))))))))),?_⟩
 rename_i a k p o w';obtain ⟨ns,k0,W,ps,os,hS,rfl,hk,rfl,hW,hP,hp,hO,ho,q⟩:=h;walk_at "rd";refine aM hS (by omega) (by omega) (by decide) (by decide) fun r1 hr1=>?_
 walk_at "rd";refine xT hW hP hp (by decide) (by decide) (by unfold RowL; decide) fun row H1 s1 hl1 hr1=>?_
 walk_at "rd";refine aM (s1.seq hS) (by omega) (by omega) (by decide) (by decide) fun r2 hr2=>?_
 walk_at "rd";rw [show ((r2:Int) / 4)=((r2 / 4:Nat):Int) by omega];refine mL hW (s1.seq hO) ho (by decide) (by decide) (by unfold RowL; decide) fun over H2 s2 hl2 hr2 hov=>?_
 refine ⟨by decide,fun t1 ht1=>?_⟩;have s3:=s1.trans (s2.trans (ah ht1 (.lst ([passT,passT,passT,dropT].map tx))));obtain ⟨v,hv,ev⟩:=pK (l:=[passT,passT,passT,dropT].map tx) (by decide) r2;refine ⟨_,v,.inl (SqL.of upd_same),ev,by decide,fun t2 ht2=>?_⟩;obtain ⟨wd,hwd,rfl⟩:=List.mem_map.mp hv;refine q t2 _ (row,wd,over) (s3.free ht2) (s3.trans (ah ht2 _)) upd_same ⟨hr1,hl1,?_,hr2,hl2⟩ hov;simp only [List.mem_cons,List.not_mem_nil,or_false] at hwd;rcases hwd with z | z | z | z
 ·exact .inl z
 ·exact .inl z
 ·exact .inl z
 ·exact .inr z
noncomputable def abc:List Nat:=(List.range 26).map (97+·)
theorem tQ {i:Nat} (h:i < 26):abc[i]? = some (97+i):=by
 unfold abc;rw [List.getElem?_map,List.getElem?_range h];rfl
def Low (l:List Nat):Prop:=∀ c ∈ l,97<=c/\c<=122
structure Names (n:Nat) (ls:List (List Nat)):Prop where
 len:ls.length=n
 nd:ls.Nodup
 low:∀ l ∈ ls,Low l
 short:∀ l ∈ ls,1<=l.length/\l.length<=8
 kind:(∃ c,∀ l ∈ ls,∃ k,l=List.replicate k c)\/∃ u v,∀ l ∈ ls,∃ c,l=u++[c]++v
theorem lr {n:Nat} (f:Nat->List Nat) (h:∀ i j,i < n->j < n->f i=f j->i=j):((List.range n).map f).Nodup:=by
 refine List.pairwise_map.mpr (List.Pairwise.imp_of_mem ?_ List.nodup_range);intro a b ha hb hab e;exact hab (h a b (List.mem_range.mp ha) (List.mem_range.mp hb) e)
theorem uc {n c:Nat} (hn:n<=8) (hc:97<=c/\c<=122):Names n ((List.range n).map fun j=>List.replicate (1+j) c) where
 len:=by simp
 nd:=lr _ fun i j _ _ e=>by
  have:=congrArg List.length e;simp at this;exact this
 low:=fun l hl=>by
  obtain ⟨j,_,rfl⟩:=List.mem_map.mp hl;exact fun d hd=>by rw [List.eq_of_mem_replicate hd]; exact hc
 short:=fun l hl=>by
  obtain ⟨j,hj,rfl⟩:=List.mem_map.mp hl;have:=List.mem_range.mp hj;simp;omega
 kind:=.inl ⟨c,fun l hl=>by
  obtain ⟨j,hj,rfl⟩:=List.mem_map.mp hl;exact ⟨_,rfl⟩⟩
theorem wT {n m s p:Nat} {b:List Nat} (hn:n<=8) (hb:Low b) (hl:b.length<=7) (hs:s=1\/s=7\/s=25\/s=11):Names n ((List.range n).map fun j=>b.take p++[97+(m+s*j) % 26]++b.drop p) where
 len:=by simp
 nd:=lr _ fun i j hi hj e=>by
  have e1:=List.append_cancel_right e;have e2:=List.append_cancel_left e1;have e3:97+(m+s*i) % 26=97+(m+s*j) % 26:=by simpa using e2
  rcases hs with rfl | rfl | rfl | rfl <;> omega
 low:=fun l hl=>by
  obtain ⟨j,_,rfl⟩:=List.mem_map.mp hl;intro d hd;rcases List.mem_append.mp hd with hd | hd
  ·rcases List.mem_append.mp hd with hd | hd
   ·exact hb d (List.mem_of_mem_take hd)
   ·rw [List.mem_singleton.mp hd];have:=Nat.mod_lt (m+s*j) (show 26 > 0 by decide);exact ⟨by omega,by omega⟩
  ·exact hb d (List.mem_of_mem_drop hd)
 short:=fun l hl=>by
  obtain ⟨j,_,rfl⟩:=List.mem_map.mp hl;simp;omega
 kind:=.inr ⟨b.take p,b.drop p,fun l hl=>by
  obtain ⟨j,hj,rfl⟩:=List.mem_map.mp hl;exact ⟨_,rfl⟩⟩
theorem cP {α β:Type} (f:α -> β) (l:List α):(l.flatMap fun x=>[f x])=l.map f:=by
 induction l with
 | nil=>rfl
 | cons x l ih=>rw [List.flatMap_cons,ih]; rfl
noncomputable def bodyF (ns:List Int) (k m:Nat):List Nat:=(List.range m).map fun i=>97+drawN ns (k+40+i) 26
noncomputable def stepF (i:Nat):Nat:=([1,7,25,11]:List Nat).getD i 1
noncomputable def nameF (ns:List Int) (k j:Nat):List Nat:=
 if drawN ns (k+1) 5=0 then List.replicate (1+j) (97+drawN ns k 26) else
  (bodyF ns k (drawN ns (k+2) 8)).take (drawN ns (k+3) ((bodyF ns k (drawN ns (k+2) 8)).length+1))++[97+(drawN ns k 26+stepF (drawN ns (k+1) 4)*j) % 26]++(bodyF ns k (drawN ns (k+2) 8)).drop (drawN ns (k+3) ((bodyF ns k (drawN ns (k+2) 8)).length+1))
theorem uU {i:Nat} (h:i < 4):stepF i=1\/stepF i=7\/stepF i=25\/stepF i=11:=by
 have:i=0\/i=1\/i=2\/i=3:=by omega
 rcases this with rfl | rfl | rfl | rfl <;> decide
theorem xW (ns:List Int) (k m:Nat):Low (bodyF ns k m):=fun c hc=>by
 obtain ⟨i,_,rfl⟩:=List.mem_map.mp hc;have:=cA ns (k+40+i) (m:=26) (by decide);exact ⟨by omega,by omega⟩
theorem qm (ns:List Int) (k:Nat) {n:Nat} (hn:n<=8):Names n ((List.range n).map (nameF ns k)):=by
 have h26:=cA ns k (m:=26) (by decide);by_cases c:drawN ns (k+1) 5=0
 ·rw [show nameF ns k=fun j=>List.replicate (1+j) (97+drawN ns k 26) from funext fun j=>by unfold nameF; rw [if_pos c]];exact uc hn ⟨by omega,by omega⟩
 ·rw [show nameF ns k=fun j=>(bodyF ns k (drawN ns (k+2) 8)).take (drawN ns (k+3) ((bodyF ns k (drawN ns (k+2) 8)).length+1))++[97+(drawN ns k 26+stepF (drawN ns (k+1) 4)*j) % 26]++(bodyF ns k (drawN ns (k+2) 8)).drop (drawN ns (k+3) ((bodyF ns k (drawN ns (k+2) 8)).length+1)) from funext fun j=>by unfold nameF; rw [if_neg c]];refine wT hn (xW _ _ _) ?_ (uU (cA ns (k+1) (m:=4) (by decide)));have:=cA ns (k+2) (m:=8) (by decide);unfold bodyF;rw [List.length_map,List.length_range];omega
theorem xF {ns:List Int} {k i j:Nat} (hi:i < 8) (hj:j < 8) (e:nameF ns k i=nameF ns k j):i=j:=by
 have nd:=(qm ns k (n:=8) (by decide)).nd;have h1:((List.range 8).map (nameF ns k))[i]'(by simpa using hi)=((List.range 8).map (nameF ns k))[j]'(by simpa using hj):=by simpa using e
 exact (List.getElem_inj nd).mp h1
theorem jn {H:Hp} {a:Addr} {k m:Int} {ns:List Int} {Q:VK} {E:XK} (hS:SqL K H a (ns.map V.int)) (hk0:0<=k) (hk1:k<=100000) (hm0:1<=m) (hm1:m<=100000) (q:∀ r:Nat,(r:Int) < m->drawN ns k.toNat m.toNat=r->Q (.int (r:Nat)) H):cO K [.ref a,.int k,.int m] H Q E:=
 ⟨ns,k.toNat,m.toNat,hS,by omega,by omega,by omega,by omega,by omega,q _ (by have:=cA ns k.toNat (m:=m.toNat) (by omega); omega) rfl⟩
structure NamesX (ns:List Int) (k n:Nat) (ls:List (List Nat)):Prop extends Names n ls where
 eq:ls=(List.range n).map (nameF ns k)
noncomputable def fY (K:Frag):Sp:=fun vs H Q _=>match vs with
 | [.ref a,.int k,.int m]=>∃ (ns:List Int) (k0 n:Nat),SqL K H a (ns.map V.int)/\k=(k0:Int)/\k0<=50000/\m=(n:Int)/\n<=8/\∀ p H' ls,H p=none->Same H H'->H' p=some (.lst (ls.map tx))->NamesX ns k0 n ls->Q (.ref p) H'
 | _=>False
theorem cR (T:Top K mg):Callee P w K mg base 2 "_law_names" ["_law_script", "_law_k", "_law_many"] (fY K):=by
 refine T.kE.cal bA (by intro vs H Q E h; unfold fY at h; split at h <;> first | rfl | exact h.elim) (fun _ _ _ _ _ _ us hl=>match us,hl with | [_,_,_],_=>rfl) (fun f cdv A outer s H vs Q E hr h=>?_);unfold fY at h;split at h
 case h_2=>exact h.elim
 refine ⟨_,(ae (ak (i:=3) bA.nd rfl lc (qs [97,98,99,100,101,102,103,104,105,106,107,108,109,110,111,112,113,114,115,116,117,118,119,120,121,122]))
   (ae (ak (i:=4) bA.nd rfl lc (au (al T) hr.m rfl (aa (qv 0) (aa (qv 1) (aa af ad)))))
   (ae (aG (aC bf (au (al T) hr.m rfl (aa (qv 0) (aa (ar ap (qv 1) af) (aa af ad)))) af) (ai (ao (bZ (nt:=1) (fi:=[3,4]) (N':=["_law_j", "_law_letters_here", "_law_start"]) rfl (cscope rfl (by decide +kernel)) (cnames (N:=["_law_script", "_law_k", "_law_many", "_law_letters_here", "_law_start", "_law_body", "_law_j", "_law_at", "_law_step"]) (sc:=defScope de) rfl rfl (by decide +kernel)) (bw (by decide)) (bB rfl T.b7 (qv 2)) (fun _ _ _ _ _=>(aj (i:=0) (by show (["_law_j", "_law_letters_here", "_law_start"]:List Str).Nodup; decide +kernel) rfl lc)) (fun _ _ _ _ _=>aZ) (fun _ _ _ _ _=>(ar cD (aw (ixE K rfl) (qv 1) (qv 2) (fun _ _=>rfl)) (ar ap af (qv 0))))))) aA)
   (ae (ak (i:=5) bA.nd rfl lc (qs []))
   (ae (aU PassesOwn.never rfl (bB rfl T.b7 (au (al T) hr.m rfl (aa (qv 0) (aa (ar ap (qv 1) af) (aa af ad))))) (aj (i:=6) bA.nd rfl lc) (ai (ak (i:=5) bA.nd rfl lc (ar ap (qv 5) (aw (ixE K rfl) (qv 3) (au (al T) hr.m rfl (aa (qv 0) (aa (ar ap (ar ap (qv 1) af) (qv 6)) (aa af ad)))) (fun _ _=>rfl))))))
   (ae (ak (i:=7) bA.nd rfl lc (au (al T) hr.m rfl (aa (qv 0) (aa (ar ap (qv 1) af) (aa (ar ap (aB (lenE K rfl) rfl T.b5 aW (aa (qv 5) ad)) af) ad)))))
   (ae (ak (i:=8) bA.nd rfl lc (aw (ixE K rfl) (aS (aa af (aa af (aa af (aa af ad))))) (au (al T) hr.m rfl (aa (qv 0) (aa (ar ap (qv 1) af) (aa af ad)))) (fun _ _=>rfl)))
   (ai (ao (bZ (nt:=1) (fi:=[5,3,7,4,8]) (N':=["_law_j", "_law_body", "_law_letters_here", "_law_at", "_law_start", "_law_step"]) rfl (cscope rfl (by decide +kernel)) (cnames (N:=["_law_script", "_law_k", "_law_many", "_law_letters_here", "_law_start", "_law_body", "_law_j", "_law_at", "_law_step"]) (sc:=defScope de) rfl rfl (by decide +kernel)) (bw (by decide)) (bB rfl T.b7 (qv 2)) (fun _ _ _ _ _=>(aj (i:=0) (by show (["_law_j", "_law_body", "_law_letters_here", "_law_at", "_law_start", "_law_step"]:List Str).Nodup; decide +kernel) rfl lc)) (fun _ _ _ _ _=>aZ) (fun _ _ _ _ _=>(ar ap (ar ap (cz (slE K rfl) (qv 1) dG (cE (qv 3))) (aw (ixE K rfl) (qv 2) (ar cN (ar ap (qv 4) (ar cD (qv 5) (qv 0))) af) (fun _ _=>rfl))) (cz (slE K rfl) (qv 1) (cE (qv 3)) dG))))))))))))),?_⟩
 rename_i a k m;obtain ⟨ns,k0,n,hS,rfl,hk,rfl,hn,q⟩:=h;walk_at "rd";refine jn hS (by omega) (by omega) (by decide) (by decide) fun r1 hr1 er1=>?_
 have er1:drawN ns k0 26=r1:=er1;walk_at "rd";refine jn hS (by omega) (by omega) (by decide) (by decide) fun r2 hr2 er2=>?_
 have er2:drawN ns (k0+1) 5=r2:=er2;walk_at "rd";rw [show ([97,98,99,100,101,102,103,104,105,106,107,108,109,110,111,112,113,114,115,116,117,118,119,120,121,122]:List Nat)=abc from rfl];have a26:abc.length=26:=rfl;have ar1:atI abc (r1:Int)=some (97+r1):=be (tQ (by omega));refine ite2 (fun g=>⟨by omega,by omega,fun D hD=>?_⟩) fun g=>?_
 ·rw [Int.toNat_natCast];refine jY (lo:=0) (n:=n) (h:=fun j=>[tx (List.replicate (1+j) (97+r1))]) hD (by omega) (fun _=>by simp) ?_ ?_
  ·intro i H1 out non hi s1 ho _;walk_at "rd";refine ⟨by omega,_,ar1,by omega,by omega,?_⟩;rw [show (1+(i:Int)).toNat=1+i by omega];exact ho _ _ rfl (Same.refl _)
  ·intro H1 s1 e1;have ef:(List.range n).flatMap (fun j=>[tx (List.replicate (1+j) (97+r1))])=((List.range n).map fun j=>List.replicate (1+j) (97+r1)).map tx:=by
    rw [List.map_map];exact cP _ _
   rw [ef] at e1;rw [show ((List.range n).map fun j=>List.replicate (1+j) (97+r1))=(List.range n).map (nameF ns k0) from List.map_congr_left fun j _=>by unfold nameF; rw [if_pos (by rw [er2]; omega),er1]] at e1;exact q D H1 _ hD s1 e1 ⟨qm ns k0 hn,rfl⟩
 refine jn hS (by omega) (by omega) (by decide) (by decide) fun r3 hr3 er3=>?_
 have er3:drawN ns (k0+2) 8=r3:=er3;walk_at "rd";refine ⟨by omega,by omega,?_⟩;rw [Int.toNat_natCast];refine dt (lo:=0) (n:=r3) (fun i σ H'=>∃ (b:List Nat) (u:Option V),σ = [some (.ref a),some (nV k0),some (nV n),some (.str (st abc)),some (nV r1),some (tx b),u,none,none]/\H'=H/\b=bodyF ns k0 i/\b.length=i) ⟨[],none,rfl,rfl,rfl,rfl⟩ ?_ ?_
 ·rintro i σ H1 hi ⟨b,u,rfl,rfl,hb,hbl⟩;walk_at "rd";refine jn hS (by omega) (by omega) (by decide) (by decide) fun r4 hr4 er4=>?_
  have er4:drawN ns (k0+40+i) 26=r4:=er4;walk_at "rd";refine ⟨by omega,97+r4,be (tQ (by omega)),?_⟩;walk_at "rd";refine ⟨by omega,b++[97+r4],_,rfl,?_,by rw [List.length_append,hbl]; rfl⟩;rw [hb,<- er4];unfold bodyF;rw [List.range_succ,List.map_append];rfl
 ·rintro σ H1 ⟨b,u,rfl,rfl,hb,hbl⟩;walk_at "rd";refine ⟨by omega,jn hS (by omega) (by omega) (by omega) (by omega) fun r5 hr5 er5=>⟨by decide,fun t1 ht1=>?_⟩⟩;have er5:drawN ns (k0+3) (b.length+1)=r5:=er5;have s1:=ah ht1 (.lst [V.int 1,V.int 7,V.int 25,V.int 11]);refine jn (s1.seq hS) (by omega) (by omega) (by decide) (by decide) fun r6 hr6 er6=>?_
  have er6:drawN ns (k0+1) 4=r6:=er6;have ev:atI [V.int 1,V.int 7,V.int 25,V.int 11] (r6:Int)=some (nV (stepF r6)):=by
   have:r6=0\/r6=1\/r6=2\/r6=3:=by omega
   rcases this with rfl | rfl | rfl | rfl <;> rfl
  have hst:=uU (i:=r6) (by omega);have est:stepF r6=stepF (drawN ns (k0+1) 4):=by rw [er6]
  generalize stepF r6=st' at ev hst est;walk_at "rd";refine ⟨_,_,.inl (SqL.of upd_same),ev,by omega,by omega,fun D hD=>?_⟩;rw [Int.toNat_natCast];refine jY (lo:=0) (n:=n) (h:=fun j=>[tx (b.take r5++[97+(r1+st'*j) % 26]++b.drop r5)]) hD (by omega) (fun _=>by simp) ?_ ?_
  ·intro i H2 out non hi s2 ho _;walk_at "rd";have hm:=Nat.mod_lt (r1+st'*i) (show 26 > 0 by decide);have hl1:=List.length_take_le r5 b;have hl2:(b.drop r5).length<=b.length:=by rw [List.length_drop]; omega
   have e26:((r1:Int)+(st':Int)*(i:Int)) % 26=(((r1+st'*i) % 26:Nat):Int):=by
    rw [Int.natCast_emod,Int.natCast_add,Int.natCast_mul];rfl
   rw [Int.toNat_natCast,e26];refine ⟨by omega,by omega,by omega,.inr ⟨Int.lt_of_lt_of_le (by decide) (Int.natCast_nonneg i),Int.lt_of_lt_of_le (Int.ofNat_lt.mpr hi) (Int.le_trans (Int.ofNat_le.mpr hn) (by decide))⟩,by omega,_,be (tQ hm),by omega,by omega,by omega,by omega,?_,ho _ _ rfl (Same.refl _)⟩;rw [List.length_append,List.length_singleton];omega
  ·intro H2 s2 e2;have ef:(List.range n).flatMap (fun j=>[tx (b.take r5++[97+(r1+st'*j) % 26]++b.drop r5)])=((List.range n).map fun j=>b.take r5++[97+(r1+st'*j) % 26]++b.drop r5).map tx:=by
    rw [List.map_map];exact cP _ _
   rw [ef] at e2;rw [show ((List.range n).map fun j=>b.take r5++[97+(r1+st'*j) % 26]++b.drop r5)=(List.range n).map (nameF ns k0) from List.map_congr_left fun j _=>by
    unfold nameF;rw [if_neg (by rw [er2]; omega),er1,<- est,er3,<- hb,er5]] at e2
   exact q D H2 _ (s1.free hD) (s1.trans s2) e2 ⟨qm ns k0 hn,rfl⟩
structure LayOk (ls:List Fld):Prop where
 to:∃ a b,spanF ls toT 0=some (a,b)/\a < b/\b<=widthL ls
 w1:1<=widthL ls
 w2:widthL ls<=48
 len:ls.length<=3
 pos:∀ x ∈ ls,1<=x.2
 nd:(ls.map (·.1)).Nodup
 low:∀ x ∈ ls,Low x.1/\1<=x.1.length/\x.1.length<=8
theorem lD {α:Type} [DecidableEq α] (t:α):∀ l:List α,l.Nodup->l.length<=(l.filter fun x=>!decide (x=t)).length+1
 | [],_=>by simp
 | x::l,h=>by
  have h2:=(List.nodup_cons.mp h);by_cases e:x=t
  ·subst e;have:l.filter (fun y=>!decide (y=x))=l:=List.filter_eq_self.mpr fun y hy=>by
    have:¬ y=x:=fun z=>h2.1 (z ▸ hy)
    simp [this]
   rw [List.filter_cons_of_neg (by simp),this,List.length_cons];omega
  ·rw [List.filter_cons_of_pos (by simp [e]),List.length_cons,List.length_cons];have:=lD t l h2.2;omega
theorem oM {α:Type} (p:α -> Bool) (f:α -> V):∀ l:List α,(l.flatMap fun x=>if p x then [f x] else [])=(l.filter p).map f
 | []=>rfl
 | x::l=>by
  rw [List.flatMap_cons,oM p f l];by_cases h:p x=true
  ·rw [if_pos h,List.filter_cons_of_pos h];rfl
  ·rw [if_neg h,List.filter_cons_of_neg h];rfl
theorem toLow:Low toT/\1<=toT.length/\toT.length<=8:=⟨by unfold Low toT; decide,by decide,by decide⟩
theorem lay1 {S:Nat} (h1:1<=S) (h2:S<=14):LayOk [(toT,S)] where
 to:=⟨0,S,by simp [spanF],by omega,by simp [widthL]⟩
 w1:=by simp [widthL]; omega
 w2:=by simp [widthL]; omega
 len:=by simp
 pos:=fun x hx=>by rw [List.mem_singleton.mp hx]; exact h1
 nd:=by simp
 low:=fun x hx=>by rw [List.mem_singleton.mp hx]; exact toLow
structure NameOk (n:List Nat):Prop where
 low:Low n
 l1:1<=n.length
 l8:n.length<=8
theorem layAhead {S A:Nat} {n:List Nat} (h1:1<=S) (h2:S<=14) (a1:1<=A) (a2:A<=17) (hn:NameOk n) (ht:¬ n=toT):LayOk [(n,A),(toT,S)] where
 to:=⟨A,A+S,by simp [spanF,ht],by omega,by simp [widthL]⟩
 w1:=by simp [widthL]; omega
 w2:=by simp [widthL]; omega
 len:=by simp
 pos:=fun x hx=>by
  simp only [List.mem_cons,List.not_mem_nil,or_false] at hx;rcases hx with rfl | rfl
  ·exact a1
  ·exact h1
 nd:=by simpa using ht
 low:=fun x hx=>by
  simp only [List.mem_cons,List.not_mem_nil,or_false] at hx;rcases hx with rfl | rfl
  ·exact ⟨hn.1,hn.2,hn.3⟩
  ·exact toLow
theorem layBehind {ls:List Fld} {S A B:Nat} {n0 n:List Nat} (h1:1<=S) (h2:S<=14) (a1:1<=A) (a2:A<=17) (hn0:NameOk n0) (ht0:¬ n0=toT) (b1:1<=B) (b2:B<=17) (hn:NameOk n) (ht:¬ n=toT) (hd:¬ n0=n)
  (e:ls=[(toT,S)]\/ls=[(n0,A),(toT,S)]):LayOk (ls++[(n,B)]):=by
 rcases e with rfl | rfl
 ·refine ⟨⟨0,S,by simp [spanF],by omega,by simp [widthL]⟩,by simp [widthL]; omega,by simp [widthL]; omega,by simp,fun x hx=>?_,?_,fun x hx=>?_⟩
  ·simp only [List.mem_append,List.mem_cons,List.not_mem_nil,or_false] at hx;rcases hx with rfl | rfl
   ·exact h1
   ·exact b1
  ·simpa using fun z=>ht z.symm
  ·simp only [List.mem_append,List.mem_cons,List.not_mem_nil,or_false] at hx;rcases hx with rfl | rfl
   ·exact toLow
   ·exact ⟨hn.1,hn.2,hn.3⟩
 ·refine ⟨⟨A,A+S,by simp [spanF,ht0],by omega,by simp [widthL]⟩,by simp [widthL]; omega,by simp [widthL]; omega,by simp,fun x hx=>?_,?_,fun x hx=>?_⟩
  ·simp only [List.mem_append,List.mem_cons,List.not_mem_nil,or_false] at hx;rcases hx with (rfl | rfl) | rfl
   ·exact a1
   ·exact h1
   ·exact b1
  ·simp [ht0,hd];exact fun z=>ht z.symm
  ·simp only [List.mem_append,List.mem_cons,List.not_mem_nil,or_false] at hx;rcases hx with (rfl | rfl) | rfl
   ·exact ⟨hn0.1,hn0.2,hn0.3⟩
   ·exact toLow
   ·exact ⟨hn.1,hn.2,hn.3⟩
noncomputable def wF (ns:List Int):Nat:=if drawN ns 3 4=0 then 1+drawN ns 4 14+drawN ns 5 18+drawN ns 6 18 else 1+drawN ns 0 3+drawN ns 1 2+drawN ns 2 2
noncomputable def fk (K:Frag):Sp:=fun vs H Q _=>match vs with
 | [.ref a]=>∃ ns:List Int,SqL K H a (ns.map V.int)/\∀ p H' ls,H p=none->Same H H'->Lay H' p ls->LayOk ls->widthL ls=wF ns->Q (.ref p) H'
 | _=>False
theorem iT (T:Top K mg):Callee P w K mg base 3 "_law_layout" ["_law_script"] (fk K):=by
 refine T.jG.cal aT (by intro vs H Q E h; unfold fk at h; split at h <;> first | rfl | exact h.elim) (fun _ _ _ _ _ _ us hl=>match us,hl with | [_],_=>rfl) (fun f cdv A outer s H vs Q E hr h=>?_);unfold fk at h;split at h
 case h_2=>exact h.elim
 refine ⟨_,(ae (ak (i:=1) aT.nd rfl lc (ar ap af (au (al T) hr.m rfl (aa (qv 0) (aa af (aa af ad))))))
   (ae (ak (i:=2) aT.nd rfl lc (au (al T) hr.m rfl (aa (qv 0) (aa af (aa af ad)))))
   (ae (ak (i:=3) aT.nd rfl lc (au (al T) hr.m rfl (aa (qv 0) (aa af (aa af ad)))))
   (fq (aG (aC bf (au (al T) hr.m rfl (aa (qv 0) (aa af (aa af ad)))) af) (ae (ak (i:=1) aT.nd rfl lc (ar ap af (au (al T) hr.m rfl (aa (qv 0) (aa af (aa af ad))))))
   (ae (ak (i:=2) aT.nd rfl lc (au (al T) hr.m rfl (aa (qv 0) (aa af (aa af ad)))))
   (ai (ak (i:=3) aT.nd rfl lc (au (al T) hr.m rfl (aa (qv 0) (aa af (aa af ad)))))))) aA)
   (ae (g8 (i:=4) (nt:=1) (fi:=[]) (N':=["_law_name"]) aT.nd rfl lc rfl (cscope rfl (by decide +kernel)) (cnames (N:=["_law_script", "_law_size", "_law_ahead", "_law_behind", "_law_names_here", "_law_layout_here"]) (sc:=defScope dM) rfl rfl (by decide +kernel)) (bw (by decide)) (iterE K rfl (au (cR T) hr.m rfl (aa (qv 0) (aa af (aa af ad))))) (fun _ _ _ _ _=>(aj (i:=0) (by show (["_law_name"]:List Str).Nodup; decide +kernel) rfl lc)) (fun _ _ _ _ _=>(qS (aC jN (qv 0) (qs [116,111])))) (fun _ _ _ _ _=>(qv 0)))
   (ae (ak (i:=5) aT.nd rfl lc (aS (aa (aD (aa (qs [116,111]) (aa (qv 1) ad))) ad)))
   (fq (aG (aC ja (qv 2) af) (ai (cF (oX (qv 5) af (aD (aa (aw (ixE K rfl) (qv 4) af (fun _ _=>rfl)) (aa (qv 2) ad)))))) aA)
   (fq (aG (aC ja (qv 3) af) (ai (cF (dC (qv 5) (aD (aa (aw (ixE K rfl) (qv 4) af (fun _ _=>rfl)) (aa (qv 3) ad)))))) aA)
   (ai (ao (qv 5))))))))))),?_⟩
 rename_i a;obtain ⟨ns,hS,q⟩:=h;have d1:=cA ns 0 (m:=3) (by decide);have d2:=cA ns 1 (m:=2) (by decide);have d3:=cA ns 2 (m:=2) (by decide);have d5:=cA ns 4 (m:=14) (by decide);have d6:=cA ns 5 (m:=18) (by decide);have d7:=cA ns 6 (m:=18) (by decide);walk_at "rd";refine gL (k:=0) (m:=3) hS (by omega) (by decide) (by decide) ?_;walk_at "rd";refine gL (k:=1) (m:=2) hS (by omega) (by decide) (by decide) ?_;walk_at "rd";refine gL (k:=2) (m:=2) hS (by omega) (by decide) (by decide) ?_;walk_at "rd";refine ⟨fun σ' H'=>∃ S A B:Nat,σ'=[some (.ref a),some (nV S),some (nV A),some (nV B),none,none]/\H'=H/\1<=S/\S<=14/\A<=17/\B<=17/\S+A+B=wF ns,?_,?_⟩
 ·refine gL (k:=3) (m:=4) hS (by omega) (by decide) (by decide) ?_;walk_at "rd";refine ite2 (fun g0=>?_) fun g0=>⟨1+drawN ns 0 3,drawN ns 1 2,drawN ns 2 2,by simp,by omega,by omega,by omega,by omega,by unfold wF; rw [if_neg (by omega)]⟩
  refine gL (k:=4) (m:=14) hS (by omega) (by decide) (by decide) ?_;walk_at "rd";refine gL (k:=5) (m:=18) hS (by omega) (by decide) (by decide) ?_;refine gL (k:=6) (m:=18) hS (by omega) (by decide) (by decide) ?_;exact ⟨1+drawN ns 4 14,drawN ns 5 18,drawN ns 6 18,by simp,rfl,by omega,by omega,by omega,by omega,by unfold wF; rw [if_pos (by omega)]⟩
 rintro σ' H'' ⟨S,A',B,rfl,rfl,hS1,hS2,hA,hB,hwF⟩;walk_at "rd";refine ⟨ns,7,4,hS,rfl,by decide,rfl,by decide,fun pn H1 nm hpn s1 e1 N=>?_⟩;walk_at "rd";refine .inl ⟨⟨_,SqL.of e1⟩,fun D hD=>?_⟩;refine cc (item:=tx) (xs:=nm) (h:=fun l=>if (!decide (l=toT)) then [tx l] else []) hD (SqL.of e1) (by rw [N.len]; decide) (fun l=>by split <;> simp) ?_ ?_
 ·intro l H2 out non hl s2 ho hno;walk_at "rd";refine ite2 (fun g=>?_) fun g=>?_
  ·exact hno H2 (by rw [if_neg (by simp [show l=toT from g])]) (Same.refl _)
  ·exact ho _ H2 (by rw [if_pos (by simpa using (show ¬ l=toT from g))]) (Same.refl _)
 ·intro H2 s2 e2;rw [oM] at e2;have hm:=lD toT nm N.nd;rw [N.len] at hm;have hmn:=N.nd.filter (fun x=>!decide (x=toT));have hmem:∀ l ∈ nm.filter (fun x=>!decide (x=toT)),NameOk l/\¬ l=toT:=fun l hl=>by
   obtain ⟨h1,h2⟩:=List.mem_filter.mp hl;exact ⟨⟨N.low l h1,(N.short l h1).1,(N.short l h1).2⟩,by simpa using h2⟩
  generalize nm.filter (fun x=>!decide (x=toT))=ms at e2 hm hmn hmem;have s12:=s1.trans s2;walk_at "rd";obtain ⟨n0,n1,m2,rfl⟩:∃ n0 n1 m2,ms=n0::n1::m2:=by
   match ms,hm with
   | [],hm=>simp at hm
   | [_],hm=>simp at hm
   | n0::n1::m2,_=>exact ⟨n0,n1,m2,rfl⟩
  obtain ⟨k0,k1⟩:=hmem n0 (by simp);obtain ⟨k2,k3⟩:=hmem n1 (by simp);have k4:¬ n0=n1:=fun z=>by simp [z] at hmn
  refine ⟨by decide,fun p0 hp0=>⟨by decide,fun p1 hp1=>?_⟩⟩;have sa:=ah hp0 (.tup [V.str (st [116,111]),nV S]);have sb:=ah hp1 (.lst [V.ref p0]);have sab:=s12.trans (sa.trans sb);have hp1':=s12.free (sa.free hp1);have ne01:p0≠p1:=fun z=>by rw [<- z,upd_same] at hp1; cases hp1
  have eD:=(sa.trans sb) _ _ e2;refine ⟨fun σ' H'=>∃ ls,σ'=[some (.ref a),some (nV S),some (nV A'),some (nV B),some (.ref D),some (.ref p1)]/\Same H'' H'/\H' D=some (.lst ((n0::n1::m2).map tx))/\Lay H' p1 ls/\((A'=0/\ls=[(toT,S)])\/(1<=A'/\ls=[(n0,A'),(toT,S)])),?_,?_⟩
  ·refine ite2 (fun gA=>⟨⟨_,upd_same⟩,_,tx n0,.inl (SqL.of eD),show atI _ ((0:Nat):Int)=_ from be rfl,by decide,fun p2 hp2=>⟨[V.ref p0],0,rfl,?_,by simp,by simp,?_⟩⟩) fun gA=>⟨[(toT,S)],rfl,sab,eD,⟨_,upd_same,.cons ⟨p0,rfl,?_⟩ .nil⟩,.inl ⟨by omega,rfl⟩⟩
   ·rw [av (fun z=>by rw [<- z,upd_same] at hp2; cases hp2),upd_same]
   ·have ne12:p2≠p1:=fun z=>by rw [z,upd_same] at hp2; cases hp2
    have ne02:p0≠p2:=fun z=>by rw [<- z,av ne01,upd_same] at hp2; cases hp2
    have sc:=sab.trans (ah hp2 (.tup [tx n0,nV A']));have neD:D≠p1:=fun z=>by rw [z,upd_same] at eD; cases eD
    have neD2:D≠p2:=fun z=>by rw [<- z,eD] at hp2; cases hp2
    refine ⟨[(n0,A'),(toT,S)],rfl,aK sc hp1',?_,⟨_,upd_same,.cons ⟨p2,rfl,?_⟩ (.cons ⟨p0,rfl,?_⟩ .nil)⟩,.inr ⟨by omega,rfl⟩⟩
    ·rw [av neD,av neD2];exact eD
    ·rw [av ne12,upd_same]
    ·rw [av ne01,av ne02,av ne01,upd_same];rfl
   ·rw [av ne01,upd_same];rfl
  ·rintro σ' H3 ⟨ls,rfl,s3,e3,⟨vs,e4,pr⟩,hls⟩;walk_at "rd";refine ⟨fun σ' H'=>∃ ls,σ'=[some (.ref a),some (nV S),some (nV A'),some (nV B),some (.ref D),some (.ref p1)]/\Same H'' H'/\Lay H' p1 ls/\LayOk ls/\widthL ls=wF ns,?_,?_⟩
   ·refine ite2 (fun gB=>⟨⟨_,e4⟩,_,tx n1,.inl (SqL.of e3),show atI _ ((1:Nat):Int)=_ from be rfl,by decide,fun p4 hp4=>⟨vs,?_,?_,?_⟩⟩) fun gB=>⟨ls,rfl,s3,⟨vs,e4,pr⟩,?_,?_⟩
    ·rw [av (fun z=>by rw [<- z,e4] at hp4; cases hp4)];exact e4
    ·have:=pr.length;refine Nat.lt_of_le_of_lt ?_ (sizeBig (n:=3) (by decide));rcases hls with ⟨_,rfl⟩ | ⟨_,rfl⟩
     ·simp at this; omega
     ·simp at this; omega
    ·have ne41:p4≠p1:=fun z=>by rw [z,e4] at hp4; cases hp4
     have s4:=ah hp4 (.tup [tx n1,nV B]);refine ⟨ls++[(n1,B)],rfl,aK (s3.trans s4) hp1',⟨_,upd_same,?_⟩,?_,?_⟩
     ·refine dP (oJ (fun t us z=>?_) pr) ⟨p4,rfl,?_⟩
      ·rw [av (fun y=>by rw [y,e4] at z; cases z)];exact s4 _ _ z
      ·rw [av ne41,upd_same]
     ·rcases hls with ⟨_,rfl⟩ | ⟨hA1,rfl⟩
      ·exact layBehind (A:=1) hS1 hS2 (by decide) (by decide) k0 k1 (by omega) hB k2 k3 k4 (.inl rfl)
      ·exact layBehind hS1 hS2 hA1 hA k0 k1 (by omega) hB k2 k3 k4 (.inr rfl)
     ·rcases hls with ⟨_,rfl⟩ | ⟨hA1,rfl⟩
      ·simp [widthL]; omega
      ·simp [widthL]; omega
    ·rcases hls with ⟨_,rfl⟩ | ⟨hA1,rfl⟩
     ·exact lay1 hS1 hS2
     ·exact layAhead hS1 hS2 hA1 hA k0 k1
    ·rcases hls with ⟨_,rfl⟩ | ⟨hA1,rfl⟩
     ·simp [widthL]; omega
     ·simp [widthL]; omega
   ·rintro σ' H4 ⟨ls',rfl,s4,hL,ok,hwf⟩;walk_at "rd";exact q p1 H4 ls' hp1' s4 hL ok hwf
structure ToldOk (W:Nat) (ps:List Nat):Prop where
 l1:1<=ps.length
 l5:ps.length<=5
 lt:∀ x ∈ ps,x < W
 nd:ps.Nodup
theorem rR:∀ ms:List Int,(∀ x ∈ ms,0<=x)->ms.map V.int=(ms.map Int.toNat).map nV
 | [],_=>rfl
 | x::ms,h=>by
  rw [List.map_cons,List.map_cons,List.map_cons,rR ms fun y hy=>h y (List.mem_cons_of_mem _ hy),nV,show ((x.toNat:Nat):Int)=x from Int.toNat_of_nonneg (h x List.mem_cons_self)]
noncomputable def iq (K:Frag):Sp:=fun vs H Q _=>match vs with
 | [.ref a,.ref p]=>∃ (ns:List Int) (ls:List Fld),SqL K H a (ns.map V.int)/\Lay H p ls/\LayOk ls/\∀ (q:Addr) (H':Hp) (ps:List Nat),H q=none->Same H H'->H' q=some (.lst (ps.map nV))->ToldOk (widthL ls) ps->Q (.ref q) H'
 | _=>False
theorem pR (T:Top K mg):Callee P w K mg base 2 "_law_told" ["_law_script", "_law_layout_here"] (iq K):=by
 refine T.lS.cal cK (by intro vs H Q E h; unfold iq at h; split at h <;> first | rfl | exact h.elim) (fun _ _ _ _ _ _ us hl=>match us,hl with | [_,_],_=>rfl) (fun f cdv A outer s H vs Q E hr h=>?_);unfold iq at h;split at h
 case h_2=>exact h.elim
 refine ⟨_,(ae (ak (i:=2) cK.nd rfl lc (au (fP T) hr.m rfl (aa (qv 1) ad)))
   (ae (aG (aC Bw (qv 2) af) (ai (ao (ui rfl rfl T.iA rfl T.b7 (qv 2)))) aA)
   (ae (jS (au (ic T) hr.m rfl (aa (qv 1) ad)) (seqE K rfl rfl (n:=2) (aq (aj (i:=3) cK.nd rfl lc) (aq (aj (i:=4) cK.nd rfl lc) aP))))
   (ae (ak (i:=5) cK.nd rfl lc (rA rfl rfl T.iA rfl T.b7 (qv 3) (aB (jT rfl) rfl T.pF ni (aa (qv 4) (aa (ar ap (qv 3) af) ad)))))
   (ae (aU PassesOwn.never rfl (bB rfl T.b7 (au (al T) hr.m rfl (aa (qv 0) (aa af (aa af ad))))) (aj (i:=6) cK.nd rfl lc) (ai (cF (dC (qv 5) (au (al T) hr.m rfl (aa (qv 0) (aa (ar ap af (qv 6)) (aa (qv 2) ad))))))))
   (ai (ao (rJ (K:=K) rfl rfl rfl T.sT rfl T.Ae (qv 5))))))))),?_⟩
 rename_i a p;obtain ⟨ns,ls,hS,hL,ok,q⟩:=h;have w1:=ok.w1;have w2:=ok.w2;have hlen:=ok.len;walk_at "rd";refine ⟨ls,hL,by omega,fun H1 s1=>?_⟩;walk_at "rd";generalize eW:widthL ls=W at *;have hL1:=hL.same s1;refine ite2 (fun g=>⟨Int.le_trans (by decide) (Int.natCast_nonneg W),by omega,fun t1 ht1=>?_⟩) fun g=>?_
 ·rw [Int.toNat_natCast];refine q t1 _ (List.range W) (s1.free ht1) (s1.trans (ah ht1 _)) upd_same ⟨by simp; omega,by simp; omega,fun x hx=>List.mem_range.mp hx,List.nodup_range⟩
 obtain ⟨fa,fb,esp,hab,hb⟩:=ok.to;rw [eW] at hb;have eG:spanG ls=(fa,fb):=by unfold spanG; rw [esp]; rfl
 refine ⟨ls,hL1,fun t1 H2 ht1 s2 e1=>?_⟩;rw [eG] at e1;have s12:=s1.trans s2;refine ⟨[_,_],.inr (SqT.of e1),rfl,_,[_],rfl,_,[],rfl,rfl,?_⟩;walk_at "rd";obtain ⟨e,ee,he1,he2,he3⟩:∃ e:Nat,(if (fa:Int)+3 < (fb:Int) then (fa:Int)+3 else (fb:Int))=(e:Int)/\fa < e/\e<=fb/\e<=fa+3:=by
  split
  ·exact ⟨fa+3,by omega,by omega,by omega,by omega⟩
  ·exact ⟨fb,rfl,by omega,by omega,by omega⟩
 rw [ee,show ((e:Int) - (fa:Int)).toNat=e - fa by omega];have el:(List.range (e - fa)).map (fun k:Nat=>V.int ((fa:Int)+(k:Int)))=((List.range (e - fa)).map (fa+·)).map nV:=by
  rw [List.map_map];refine List.map_congr_left fun k _=>?_
  show V.int _=V.int _;rw [Int.natCast_add]
 rw [el];refine ⟨by omega,by omega,by omega,by omega,fun p1 hp1=>?_⟩;have hp1':=s12.free hp1;have s3:=ah hp1 (.lst (((List.range (e - fa)).map (fa+·)).map nV));have s13:=s12.trans s3;refine aM (s13.seq hS) (by decide) (by decide) (by decide) (by decide) fun r1 hr1=>?_
 walk_at "rd";refine ⟨by omega,by omega,?_⟩;rw [Int.toNat_natCast];refine dt (lo:=0) (n:=r1) (fun i σ H'=>∃ (ps:List Nat) (u:Option V),σ = [some (.ref a),some (.ref p),some (nV W),some (nV fa),some (nV fb),some (.ref p1),u]/\Same H H'/\H' p1=some (.lst (ps.map nV))/\1<=ps.length/\ps.length<=3+i/\∀ x ∈ ps,x < W)
  ⟨_,none,rfl,s13,upd_same,by simp; omega,by simp; omega,fun x hx=>?_⟩ ?_ ?_
 ·obtain ⟨k,hk,rfl⟩:=List.mem_map.mp hx;have:=List.mem_range.mp hk;omega
 ·rintro i σ H3 hi ⟨ps,u,rfl,s4,e4,l1,l2,hlt⟩;walk_at "rd";refine ⟨⟨_,e4⟩,aM (s4.seq hS) (by omega) (by omega) (by omega) (by omega) fun r2 hr2=>?_⟩;refine ⟨_,e4,sizeBig (by rw [List.length_map]; omega),ps++[r2],_,rfl,aK s4 hp1',?_,by simp,by simp; omega,fun x hx=>?_⟩
  ·rw [upd_same,List.map_append];rfl
  ·rcases List.mem_append.mp hx with z | z
   ·exact hlt x z
   ·rw [List.mem_singleton.mp z];omega
 ·rintro σ H3 ⟨ps,u,rfl,s4,e4,l1,l2,hlt⟩;walk_at "rd";have em:ps.map nV=(ps.map fun x:Nat=>(x:Int)).map V.int:=by rw [List.map_map]; rfl
  refine ⟨ps.map fun x:Nat=>(x:Int),SqL.of (by rw [<- em]; exact e4),by rw [List.length_map]; omega,fun t2 ms ht2 hmem hml _ hnd=>?_⟩;rw [List.length_map] at hml;have hpos:∀ x ∈ ms,∃ y,y ∈ ps/\x=(y:Int):=fun x hx=>by
   obtain ⟨y,hy,rfl⟩:=List.mem_map.mp ((hmem x).mp hx);exact ⟨y,hy,rfl⟩
  rw [rR ms fun x hx=>by obtain ⟨y,_,rfl⟩:=hpos x hx; omega];refine q t2 _ (ms.map Int.toNat) (s4.free ht2) (s4.trans (ah ht2 _)) upd_same ⟨?_,by rw [List.length_map]; omega,fun x hx=>?_,?_⟩
  ·rw [List.length_map];obtain ⟨x,hx⟩:=List.exists_mem_of_length_pos (l:=ps) (by omega);have:=(hmem (x:Int)).mpr (List.mem_map.mpr ⟨x,hx,rfl⟩);exact List.length_pos_of_mem this
  ·obtain ⟨z,hz,rfl⟩:=List.mem_map.mp hx;obtain ⟨y,hy,rfl⟩:=hpos z hz;exact hlt y hy
  ·refine List.pairwise_map.mpr (List.Pairwise.imp_of_mem ?_ hnd);intro x y hx hy hne ez;obtain ⟨x',_,rfl⟩:=hpos x hx;obtain ⟨y',_,rfl⟩:=hpos y hy;exact hne (congrArg Int.ofNat (by simpa using ez))
def Letters (W:Nat) (ls:List (List Nat)):Prop:=∀ l ∈ ls,l.length=W/\∀ c ∈ l,c=48\/c=49
noncomputable def dU (K:Frag):Sp:=fun vs H Q _=>match vs with
 | [.ref a,.ref p,.int w]=>∃ (ns:List Int) (ps:List Nat) (W:Nat),SqL K H a (ns.map V.int)/\SqL K H p (ps.map nV)/\w=(W:Int)/\W<=1000/\ps.length<=8/\(∀ x ∈ ps,x < W)/\∀ (q:Addr) (H':Hp) (ls:List (List Nat)),H q=none->Same H H'->H' q=some (.lst (ls.map tx))->Letters W ls->ls.length=2 ^ ps.length->Q (.ref q) H'
 | _=>False
theorem mf (T:Top K mg):Callee P w K mg base 2 "_law_letters" ["_law_script", "_law_told_here", "_law_width_here"] (dU K):=by
 refine T.je.cal aH (by intro vs H Q E h; unfold dU at h; split at h <;> first | rfl | exact h.elim) (fun _ _ _ _ _ _ us hl=>match us,hl with | [_,_,_],_=>rfl) (fun f cdv A outer s H vs Q E hr h=>?_);unfold dU at h;split at h
 case h_2=>exact h.elim
 refine ⟨_,(ae (g8 (i:=3) (nt:=1) (fi:=[0]) (N':=["_law_j", "_law_script"]) aH.nd rfl lc rfl (cscope rfl (by decide +kernel)) (cnames (N:=["_law_script", "_law_told_here", "_law_width_here", "_law_filler", "_law_size", "_law_place", "_law_letters_here", "_law_number", "_law_bits", "_law_rest"]) (sc:=defScope b8) rfl rfl (by decide +kernel)) (bw (by decide)) (bB rfl T.b7 (qv 2)) (fun _ _ _ _ _=>(aj (i:=0) (by show (["_law_j", "_law_script"]:List Str).Nodup; decide +kernel) rfl lc)) (fun _ _ _ _ _=>aZ) (fun _ _ _ _ _=>(au (al T) hr.m rfl (aa (qv 1) (aa (ar ap af (qv 0)) (aa af ad))))))
   (ae (ak (i:=4) aH.nd rfl lc af)
   (ae (aU PassesOwn.never rfl (iterE K rfl (qv 1)) (aj (i:=5) aH.nd rfl lc) (ai (ak (i:=4) aH.nd rfl lc (ar cD (qv 4) af))))
   (ae (ak (i:=6) aH.nd rfl lc (aS ad))
   (ae (aU PassesOwn.never rfl (bB rfl T.b7 (qv 4)) (aj (i:=7) aH.nd rfl lc) (ae (g8 (i:=8) (nt:=1) (fi:=[7]) (N':=["_law_bit", "_law_number"]) aH.nd rfl lc rfl (cscope rfl (by decide +kernel)) (cnames (N:=["_law_script", "_law_told_here", "_law_width_here", "_law_filler", "_law_size", "_law_place", "_law_letters_here", "_law_number", "_law_bits", "_law_rest"]) (sc:=defScope b8) rfl rfl (by decide +kernel)) (bw (by decide)) (iterE K rfl (qv 3)) (fun _ _ _ _ _=>(aj (i:=0) (by show (["_law_bit", "_law_number"]:List Str).Nodup; decide +kernel) rfl lc)) (fun _ _ _ _ _=>aZ) (fun _ _ _ _ _=>(ar cN (ar ap (qv 0) (qv 1)) af)))
   (ae (ak (i:=9) aH.nd rfl lc (qv 7))
   (ae (aU PassesOwn.never rfl (iterE K rfl (qv 1)) (aj (i:=5) aH.nd rfl lc) (ae (jS (ar cN (qv 9) af) (ww (qv 8) (qv 5) sO (fun _=>rfl)))
   (ai (ak (i:=9) aH.nd rfl lc (ar gz (qv 9) af)))))
   (ai (cF (dC (qv 6) (joinE K rfl (bZ (nt:=1) (fi:=[]) (N':=["_law_bit"]) rfl (cscope rfl (by decide +kernel)) (cnames (N:=["_law_script", "_law_told_here", "_law_width_here", "_law_filler", "_law_size", "_law_place", "_law_letters_here", "_law_number", "_law_bits", "_law_rest"]) (sc:=defScope b8) rfl rfl (by decide +kernel)) (bw (by decide)) (iterE K rfl (qv 8)) (fun _ _ _ _ _=>(aj (i:=0) (by show (["_law_bit"]:List Str).Nodup; decide +kernel) rfl lc)) (fun _ _ _ _ _=>aZ) (fun _ _ _ _ _=>(cX oR rfl T.pH mQ (aa (qv 0) ad))))))))))))
   (ai (ao (qv 6)))))))),?_⟩
 rename_i a p w';obtain ⟨ns,ps,W,hS,hP,rfl,hW,h5,hlt,q⟩:=h;walk_at "rd";rw [Int.toNat_natCast];refine ⟨by omega,by omega,fun D hD=>?_⟩;refine kY (lo:=0) (n:=W) (fun _ v _=>∃ x:Nat,x < 2/\v=nV x) hD (by omega) (fun _ _ _ _ _ _ _ r=>r) ?_ ?_
 ·intro i H1 out non hi s1 ho;walk_at "rd";exact aM (s1.seq hS) (by omega) (by omega) (by decide) (by decide) fun r1 hr1=>ho _ _ (Same.refl _) ⟨r1,by omega,rfl⟩
 intro H1 vs s1 e1 p1;obtain ⟨fl,rfl,hfl,hf2⟩:=jV (fun _ _ r=>r) p1;rw [List.length_range] at hfl;refine .inl ⟨⟨_,s1.seq hP⟩,?_⟩;refine eY nV ps (fun i σ H'=>∃ (u:Option V),σ = [some (.ref a),some (.ref p),some (nV W),some (.ref D),some (nV (2 ^ i)),u,none,none,none,none]/\H'=H1) ⟨none,rfl,rfl⟩ (fun i σ H' _ ⟨_,_,z⟩=>by rw [z]; exact s1.seq hP) ?_ ?_
 ·rintro i x σ H2 hx ⟨u,rfl,rfl⟩;have hi:i < 8:=by have:=(List.getElem?_eq_some_iff.mp hx).1; omega
  walk_at "rd";refine ⟨.inr ⟨by decide,by decide⟩,some (nV x),?_⟩;rw [show ((2 ^ i:Nat):Int)*2=((2 ^ (i+1):Nat):Int) by rw [Nat.pow_succ]; omega]
 rintro σ H2 ⟨u,rfl,rfl⟩;have hp2:2 ^ ps.length<=256:=Nat.pow_le_pow_right (by decide) h5;generalize 2 ^ ps.length=Z at *;walk_at "rd";refine ⟨Nat.zero_le _,fun g hg=>?_⟩;have hg0:=s1.free hg;have s2:=s1.trans (ah hg (.lst []));have e2:=ah hg (.lst []) _ _ e1;refine ⟨by omega,by omega,?_⟩;rw [Int.toNat_natCast];have ngD:g≠D:=fun z=>by rw [z,e1] at hg; cases hg
 refine dt (lo:=0) (n:=Z) (fun i σ H'=>∃ (ls:List (List Nat)) (u v x y:Option V),σ = [some (.ref a),some (.ref p),some (nV W),some (.ref D),some (nV Z),u,some (.ref g),v,x,y]/\Same H H'/\H' D=some (.lst (fl.map nV))/\H' g=some (.lst (ls.map tx))/\Letters W ls/\ls.length=i)
  ⟨[],_,none,none,none,rfl,s2,e2,upd_same,fun l hl=>by simp at hl,rfl⟩ ?_ ?_
 ·rintro i σ H3 hi ⟨ls,u,v,x,y,rfl,s3,e3,e4,hls,hll⟩;walk_at "rd";refine .inl ⟨⟨_,SqL.of e3⟩,fun B hB=>?_⟩;refine cc (item:=nV) (xs:=fl) (h:=fun b=>[nV ((b+i) % 2)]) hB (SqL.of e3) (by omega) (fun _=>by simp) ?_ ?_
  ·intro b H4 out non hb s4 ho _;walk_at "rd";rw [show ((b:Int)+(i:Int)) % 2=(((b+i) % 2:Nat):Int) by omega];exact ho _ _ rfl (Same.refl _)
  intro H4 s4 e5;rw [cP (fun b=>nV ((b+i) % 2)) fl,show fl.map (fun b=>nV ((b+i) % 2))=(fl.map fun b=>(b+i) % 2).map nV by rw [List.map_map]; rfl] at e5;have s34:=s3.trans s4;have hB0:=s3.free hB;have ngB:g≠B:=fun z=>by rw [<- z,e4] at hB; cases hB
  have nDB:D≠B:=fun z=>by rw [<- z,e3] at hB; cases hB
  refine .inl ⟨⟨_,s34.seq hP⟩,?_⟩;refine eY nV ps (fun j σ H'=>∃ (bs:List Nat) (R:Nat) (u:Option V),σ = [some (.ref a),some (.ref p),some (nV W),some (.ref D),some (nV Z),u,some (.ref g),some (nV i),some (.ref B),some (nV R)]/\Same H H'/\H' D=some (.lst (fl.map nV))/\H' g=some (.lst (ls.map tx))/\H' B=some (.lst (bs.map nV))/\bs.length=W/\∀ b ∈ bs,b < 2)
   ⟨_,i,_,rfl,s34,s4 _ _ e3,s4 _ _ e4,e5,by rw [List.length_map]; exact hfl,fun b hb=>?_⟩ (fun j σ H' _ ⟨_,_,_,_,z,_⟩=>z.seq hP) ?_ ?_
  ·obtain ⟨c,_,rfl⟩:=List.mem_map.mp hb;exact Nat.mod_lt _ (by decide)
  ·rintro j z σ H5 hz ⟨bs,R,u',rfl,s5,e6,e7,e8,hbl,hb2⟩;have hzW:=hlt z (List.mem_of_getElem? hz);walk_at "rd";rw [show ((R:Int) % 2)=((R % 2:Nat):Int) by omega];refine ⟨_,z,e8,uD (by rw [List.length_map]; omega),bs.set z (R % 2),R / 2,_,rfl,aK s5 hB0,?_,?_,?_,by rw [List.length_set]; exact hbl,fun b hb=>?_⟩
   ·rw [av nDB]; exact e6
   ·rw [av ngB]; exact e7
   ·rw [upd_same,List.map_set]
   ·rcases List.mem_or_eq_of_mem_set hb with w1 | w1
    ·exact hb2 b w1
    ·rw [w1]; exact Nat.mod_lt _ (by decide)
  ·rintro σ H5 ⟨bs,R,u',rfl,s5,e6,e7,e8,hbl,hb2⟩;walk_at "rd";refine ⟨⟨_,e7⟩,.inl ⟨⟨_,SqL.of e8⟩,fun C hC=>?_⟩⟩;refine cc (item:=nV) (xs:=bs) (h:=fun b=>[sgn (48+b)]) hC (SqL.of e8) (by omega) (fun _=>by simp) ?_ ?_
   ·intro b H6 out non hb s6 ho _;have:=hb2 b hb;walk_at "rd";refine ⟨by omega,?_⟩;rw [Int.toNat_natCast];exact ho _ _ rfl (Same.refl _)
   intro H6 s6 e9;rw [cP (fun b=>sgn (48+b)) bs,show bs.map (fun b=>sgn (48+b))=(bs.map (48+·)).map sgn by rw [List.map_map]; rfl] at e9;refine ⟨_,SqL.of e9,by rw [List.length_map]; omega,_,s6 _ _ e7,sizeBig (by rw [List.length_map]; omega),ls++[bs.map (48+·)],_,_,_,_,rfl,aK (s5.trans s6) hg0,?_,?_,fun l hl=>?_,by rw [List.length_append,hll]; rfl⟩
   ·rw [av (Ne.symm ngD)];exact s6 _ _ e6
   ·rw [upd_same,List.map_append];rfl
   ·rcases List.mem_append.mp hl with w1 | w1
    ·exact hls l w1
    ·rw [List.mem_singleton.mp w1];refine ⟨by rw [List.length_map]; exact hbl,fun c hc=>?_⟩;obtain ⟨b,hb,rfl⟩:=List.mem_map.mp hc;have:=hb2 b hb;show 48+b=48\/48+b=49;omega
 ·rintro σ H3 ⟨ls,u,v,x,y,rfl,s3,e3,e4,hls,hll⟩;walk_at "rd";exact q g H3 ls hg0 s3 e4 hls hll
structure WaysOk (S:Nat) (ds:List (List Nat)) (ws:List Way):Prop where
 n:∀ x ∈ ws,x.1.length<=S
 bits:∀ x ∈ ws,∀ c ∈ x.1,c=48\/c=49
 door:∀ x ∈ ws,x.2 ∈ ds
 nd:(ws.map (·.1)).Nodup
noncomputable def insW {α:Type} (l:List α) (i:Nat) (x:α):List α:=l.take i++x::l.drop i
theorem lj {α:Type} (l:List α) (i:Nat) (x:α):(insW l i x).Perm (x::l):=by
 unfold insW;refine List.perm_middle.trans ?_;rw [List.take_append_drop]
theorem mE {α β:Type} {F:α -> β -> Prop} {x:α} {y:β} (r:F x y):∀ {l:List α} {m:List β} (i:Nat),Paired F l m->Paired F (insW l i x) (insW m i y)
 | _,_,0,p=>by unfold insW; exact .cons r p
 | _,_,i+1,.nil=>by unfold insW; exact .cons r .nil
 | _,_,i+1,.cons r' p=>by
  have:=mE r i p;unfold insW at this ⊢;exact .cons r' this
theorem xX {S:Nat} {ds:List (List Nat)} {ws:List Way} (ok:WaysOk S ds ws) (x:Way) (i:Nat) (h1:x.1.length<=S) (h2:∀ c ∈ x.1,c=48\/c=49) (h3:x.2 ∈ ds) (h4:x.1 ∉ ws.map (·.1)):WaysOk S ds (insW ws i x):=by
 have hm:∀ y,y ∈ insW ws i x->y=x\/y ∈ ws:=fun y hy=>List.mem_cons.mp ((lj ws i x).mem_iff.mp hy)
 refine ⟨fun y hy=>?_,fun y hy=>?_,fun y hy=>?_,?_⟩
 ·rcases hm y hy with rfl | z
  ·exact h1
  ·exact ok.n y z
 ·rcases hm y hy with rfl | z
  ·exact h2
  ·exact ok.bits y z
 ·rcases hm y hy with rfl | z
  ·exact h3
  ·exact ok.door y z
 ·rw [((lj ws i x).map _).nodup_iff,List.map_cons,List.nodup_cons];exact ⟨h4,ok.nd⟩
theorem Ao (n:List Nat) (l:List (List Nat)):inV (tx n) (l.map tx)=decide (n ∈ l):=by
 unfold inV
 induction l with
 | nil=>simp
 | cons d l ih=>
  rw [List.map_cons,List.any_cons,ih];simp only [eqV,List.mem_cons];have stj:st n=st d ↔ n=d:=⟨fun h=>by simpa using congrArg (fun x:Str=>x.cps.toList) h,fun h=>by rw [h]⟩;by_cases h:n=d
  ·subst h; simp
  ·have h2:¬ d=n:=fun z=>h z.symm
   simp [h,h2]
theorem zo (l:List (List Nat)):(l.map tx).all flatV=true:=by
 rw [List.all_eq_true];intro v hv;obtain ⟨c,_,rfl⟩:=List.mem_map.mp hv;rfl
noncomputable def hU (K:Frag):Sp:=fun vs H Q _=>match vs with
 | [.ref a,.int k,.ref d,.int z]=>∃ (ns:List Int) (k0 S:Nat) (ds:List (List Nat)),SqL K H a (ns.map V.int)/\k=(k0:Int)/\k0<=50000/\z=(S:Int)/\S<=1000/\SqL K H d (ds.map tx)/\ds.length<=100 /\
   ∀ p H' ws,H p=none->Same H H'->Ways H' p ws->WaysOk S ds ws->ws.length<=4->Q (.ref p) H'
 | _=>False
theorem qN (T:Top K mg):Callee P w K mg base 2 "_law_ways" ["_law_script", "_law_k", "_law_doors", "_law_size"] (hU K):=by
 refine T.lM.cal ba (by intro vs H Q E h; unfold hU at h; split at h <;> first | rfl | exact h.elim) (fun _ _ _ _ _ _ us hl=>match us,hl with | [_,_,_,_],_=>rfl) (fun f cdv A outer s H vs Q E hr h=>?_);unfold hU at h;split at h
 case h_2=>exact h.elim
 refine ⟨_,(ae (ak (i:=4) ba.nd rfl lc (aS ad))
   (ae (aG (aC (eqNilE K rfl (hu1 hr)) (qv 2) (aS ad)) (ai (ao (qv 4))) aA)
   (ae (aU PassesOwn.never rfl (bB rfl T.b7 (aw (ixE K rfl) (aS (aa af (aa af (aa af (aa af (aa af (aa af (aa af ad)))))))) (au (al T) hr.m rfl (aa (qv 0) (aa (qv 1) (aa af ad)))) (fun _ _=>rfl))) (aj (i:=5) ba.nd rfl lc) (ae (ak (i:=6) ba.nd rfl lc (ar ap af (au (al T) hr.m rfl (aa (qv 0) (aa (ar ap (ar ap (qv 1) af) (qv 5)) (aa af ad))))))
   (fq (aG (PW.pt (mP (aC bf (qv 5) af) (kj (aC ja (au (al T) hr.m rfl (aa (qv 0) (aa (ar ap (qv 1) af) (aa af ad)))) af)))) (ai (ak (i:=6) ba.nd rfl lc af)) aA)
   (ae (ak (i:=7) ba.nd rfl lc (qs []))
   (ae (nB PassesOwn.never (aC ja (qv 6) af) (ae (ak (i:=7) ba.nd rfl lc (ar ap (cX oR rfl T.pH mQ (aa (ar cN (qv 6) af) ad)) (qv 7)))
   (ai (ak (i:=6) ba.nd rfl lc (ar gz (qv 6) af)))))
   (ae (ak (i:=7) ba.nd rfl lc (cz slF (qv 7) dG (cE (aB (jT rfl) rfl T.pF ni (aa (qv 3) (aa af ad))))))
   (ai (aG (aC (notinE K rfl) (qv 7) (bZ (nt:=1) (fi:=[]) (N':=["_law_way"]) rfl (cscope rfl (by decide +kernel)) (cnames (N:=["_law_script", "_law_k", "_law_doors", "_law_size", "_law_ways_here", "_law_j", "_law_number", "_law_beginning", "_law_door"]) (sc:=defScope fI) rfl rfl (by decide +kernel)) (bw (by decide)) (iterE K rfl (qv 4)) (fun _ _ _ _ _=>(aj (i:=0) (by show (["_law_way"]:List Str).Nodup; decide +kernel) rfl lc)) (fun _ _ _ _ _=>aZ) (fun _ _ _ _ _=>(aw (ixE K rfl) (qv 0) af (fun _ _=>rfl))))) (ae (ak (i:=8) ba.nd rfl lc (aw (ixE K rfl) (qv 2) (au (al T) hr.m rfl (aa (qv 0) (aa (ar ap (ar ap (qv 1) af) (qv 5)) (aa (aB (lenE K rfl) rfl T.b5 aW (aa (qv 2) ad)) ad)))) (fun _ _=>rfl)))
   (ai (cF (oX (qv 4) (au (al T) hr.m rfl (aa (qv 0) (aa (ar ap (ar ap (qv 1) af) (qv 5)) (aa (ar ap (aB (lenE K rfl) rfl T.b5 aW (aa (qv 4) ad)) af) ad)))) (aD (aa (qv 7) (aa (qv 8) ad))))))) aA))))))))
   (ai (ao (qv 4)))))),?_⟩
 rename_i a k d z;obtain ⟨ns,k0,S,ds,hS,rfl,hk,rfl,hSz,hd,hdl,q⟩:=h;walk_at "rd";refine ⟨Nat.zero_le _,fun g hg=>?_⟩;have s1:=ah hg (.lst []);have w0:Ways (upd H g (.lst [])) g []:=⟨[],upd_same,.nil⟩;have ok0:WaysOk S ds []:=⟨fun x hx=>by simp at hx,fun x hx=>by simp at hx,fun x hx=>by simp at hx,by simp⟩;refine ⟨Nat.zero_le _,fun t1 ht1=>⟨_,(s1.trans (ah ht1 _)).seq hd,SqL.of upd_same,?_⟩⟩;have s2:=s1.trans (ah ht1 (.lst []));have w1:=w0.same (ah ht1 (.lst []));refine ite2 (fun ge=>q g _ [] hg s2 w1 ok0 (by simp)) fun ge=>⟨by decide,fun t2 ht2=>?_⟩
 have hd1:1<=ds.length:=by
  cases ds with
  | nil=>exact absurd rfl ge
  | cons _ _=>simp
 have s3:=s2.trans (ah ht2 (.lst [V.int 0,V.int 1,V.int 2,V.int 3,V.int 4,V.int 1,V.int 2]));have w2:=w1.same (ah ht2 (.lst [V.int 0,V.int 1,V.int 2,V.int 3,V.int 4,V.int 1,V.int 2]));refine aM (s3.seq hS) (by omega) (by omega) (by decide) (by decide) fun r1 hr1=>?_
 obtain ⟨c,hc,ec⟩:=nJ (cs:=[0,1,2,3,4,1,2]) (B:=4) (vs:=[V.int 0,V.int 1,V.int 2,V.int 3,V.int 4,V.int 1,V.int 2]) rfl (by decide) (i:=r1) (by show r1 < 7; omega);walk_at "rd";refine ⟨_,_,.inl (SqL.of upd_same),ec,?_⟩;walk_at "rd";refine ⟨by omega,by omega,?_⟩;rw [Int.toNat_natCast];refine dt (lo:=0) (n:=c) (fun i σ H'=>∃ (ws:List Way) (u5 u6 u7 u8:Option V),σ = [some (.ref a),some (nV k0),some (.ref d),some (nV S),some (.ref g),u5,u6,u7,u8]/\Same H H'/\Ways H' g ws/\WaysOk S ds ws/\ws.length<=i)
  ⟨[],none,none,none,none,rfl,s3,w2,ok0,by simp⟩ ?_ ?_
 ·rintro i σ H1 hi ⟨ws,u5,u6,u7,u8,rfl,s4,hw,ok,hwl⟩;walk_at "rd";refine aM (s4.seq hS) (by omega) (by omega) (by decide) (by decide) fun r2 hr2=>?_
  walk_at "rd";refine ⟨fun σ' H'=>∃ M:Nat,σ'=[some (.ref a),some (nV k0),some (.ref d),some (nV S),some (.ref g),some (nV i),some (nV M),u7,u8]/\H1=H'/\M<=15,?_,?_⟩
  ·refine ite2 (fun _=>aM (s4.seq hS) (by omega) (by omega) (by decide) (by decide) fun r3 hr3=>?_) fun _=>⟨1+r2,by simp,rfl,by omega⟩
   walk_at "rd";exact ite2 (fun _=>⟨1,rfl,by decide⟩) fun _=>⟨1+r2,by simp,by omega⟩
  rintro σ' H' ⟨M,rfl,rfl,hM⟩;walk_at "rd";refine ⟨fun m σ' H'=>∃ (b:List Nat),σ'=[some (.ref a),some (nV k0),some (.ref d),some (nV S),some (.ref g),some (nV i),some (nV m),some (tx b),u8]/\H1=H'/\(∀ c ∈ b,c=48\/c=49)/\b.length+m<=16,⟨M,[],rfl,rfl,fun c hc=>by simp at hc,by simp; omega⟩,?_⟩;rintro m σ' H2 ⟨b,rfl,rfl,hb,hbm⟩;walk_at "rd";refine ite2 (fun gm=>⟨fun σ' H'=>∃ b,σ'=[some (.ref a),some (nV k0),some (.ref d),some (nV S),some (.ref g),some (nV i),some (nV (m / 2)),some (tx b),u8]/\H1=H'/\(∀ c ∈ b,c=48\/c=49)/\b.length+m / 2<=16,?_,by omega,by omega,?_⟩) fun gm=>?_
  ·rintro σ' H' ⟨b',rfl,rfl,h1,h2⟩;exact ⟨m / 2,by omega,b',rfl,rfl,h1,h2⟩
  ·refine ⟨(48+((m:Int) % 2).toNat)::b,rfl,rfl,fun c hc=>?_,by rw [List.length_cons]; omega⟩;rcases List.mem_cons.mp hc with rfl | hc
   ·omega
   ·exact hb c hc
  obtain ⟨e,ee,he1,he2⟩:∃ e:Nat,(if (3:Int) < (S:Int) then (3:Int) else (S:Int))=(e:Int)/\e<=S/\e<=3:=by
   split
   ·exact ⟨3,rfl,by omega,by omega⟩
   ·exact ⟨S,rfl,by omega,by omega⟩
  rw [ee,Int.toNat_natCast];have hbt:∀ c ∈ b.take e,c=48\/c=49:=fun c hc=>hb c (List.mem_of_mem_take hc)
  have hbl:(b.take e).length<=S:=by rw [List.length_take]; omega
  generalize b.take e=bg at hbt hbl ⊢;obtain ⟨vs,e1,pr⟩:=id hw;have hvl:=pr.length;obtain ⟨z1,z2⟩:=cu pr;refine ⟨by omega,by omega,.inl ⟨⟨_,SqL.of e1⟩,fun D hD=>?_⟩⟩;refine cc (item:=fun x:Way × V=>x.2) (xs:=ws.zip vs) (h:=fun x=>[tx x.1.1]) hD (by rw [z1]; exact SqL.of e1) (by rw [List.length_zip]; omega) (fun _=>by simp) ?_ ?_
  ·intro x H2 out non hx s5 ho _;obtain ⟨t,ex,et⟩:=z2 x hx;rw [ex];walk_at "rd";refine ⟨_,_,.inr (SqT.of (s5 _ _ et)),rfl,?_⟩;exact ho _ _ rfl (Same.refl _)
  intro H2 s5 e2;rw [show (ws.zip vs).flatMap (fun x=>[tx x.1.1])=(ws.map (·.1)).map tx by
   rw [cP (fun x:Way × V=>tx x.1.1)]
   conv=>rhs; rw [<- dE (l:=ws) (m:=vs) hvl,List.map_map,List.map_map]
   rfl] at e2
  walk_at "rd";refine ⟨_,.inl (SqL.of e2),rfl,zo _,?_⟩;rw [show V.str (st bg)=tx bg from rfl,Ao];walk_at "rd";have s45:=s4.trans s5;refine ite2 (fun gi=>⟨ws,_,_,_,_,rfl,s45,hw.same s5,ok,by omega⟩) fun gi=>?_
  refine ⟨_,.inl (s45.seq hd),aM (s45.seq hS) (by omega) (by omega) (by rw [List.length_map]; omega) (by rw [List.length_map]; omega) fun r4 hr4=>?_⟩;rw [List.length_map] at hr4;obtain ⟨dv,hdv,edv⟩:=tH (l:=ds.map tx) (i:=r4) (by rw [List.length_map]; omega);obtain ⟨dn,hdn,rfl⟩:=List.mem_map.mp hdv;walk_at "rd";have e1':=s5 _ _ e1;refine ⟨_,_,.inl (s45.seq hd),edv,⟨_,e1'⟩,_,.inl (SqL.of e1'),aM (s45.seq hS) (by omega) (by omega) (by omega) (by omega) fun r5 hr5=>⟨by decide,fun t5 ht5=>?_⟩⟩;have s6:=ah ht5 (.tup [tx bg,tx dn]);have ng5:g≠t5:=fun z=>by rw [<- z,e1'] at ht5; cases ht5
  refine ⟨vs,r5,rfl,s6 _ _ e1',by omega,by omega,insW ws r5 (bg,dn),_,_,_,_,rfl,aK (s45.trans s6) hg,⟨_,upd_same,?_⟩,xX ok (bg,dn) r5 hbl hbt hdn (by simpa using gi),?_⟩
  ·refine mE (F:=WayAt _) ⟨t5,rfl,?_⟩ r5 (L2.Paired.mapP pr ?_)
   ·rw [av (Ne.symm ng5),upd_same]
   ·rintro x v ⟨t,rfl,et⟩;refine ⟨t,rfl,?_⟩;rw [av (fun z=>by rw [z,e1] at et; cases et)];exact s6 _ _ (s5 _ _ et)
  ·have:=(lj ws r5 (bg,dn)).length_eq;rw [this,List.length_cons];omega
 ·rintro σ H1 ⟨ws,u5,u6,u7,u8,rfl,s4,hw,ok,hwl⟩;walk_at "rd";exact q g H1 ws hg s4 hw ok (by omega)
structure HouseOk (W S:Nat) (pl:List (List Nat)) (hs:House):Prop where
 nd:(hs.1.map (·.1)).Nodup
 door:∀ x ∈ hs.1,x.1 ∈ pl
 g3:hs.1.length<=3
 rules:∀ x ∈ hs.1,∀ r ∈ x.2,RuleOk W r
 many:∀ x ∈ hs.1,x.2.length<=300
 ways:WaysOk S (hs.1.map (·.1)) hs.2
 w8:hs.2.length<=8
theorem jC {α β:Type} {F:β -> V->Prop} {P:β -> Prop}:∀ {l:List α} {vs:List V},Paired (fun _ v=>∃ b,P b/\F b v) l vs->∃ bs:List β,Paired F bs vs/\bs.length=l.length/\∀ b ∈ bs,P b
 | _,_,.nil=>⟨[],.nil,rfl,fun b hb=>by simp at hb⟩
 | _,_,.cons ⟨b,h1,h2⟩ p=>by
  obtain ⟨bs,h3,h4,h5⟩:=jC p;refine ⟨b::bs,.cons h2 h3,by simp [h4],fun c hc=>?_⟩;rcases List.mem_cons.mp hc with rfl | hc
  ·exact h1
  ·exact h5 c hc
def GateB (gl:Addr) (F:Addr->Prop) (H:Hp) (x:Gate) (v:V):Prop:=∃ t r,v=.ref t/\(r≠gl/\F r)/\H t=some (.tup [tx x.1,.ref r])/\Rules H r x.2
theorem tW {gl:Addr} {F:Addr->Prop} {H H':Hp} (s:Same H H') {gs:List Gate} {vs:List V} (p:Paired (GateB gl F H) gs vs):Paired (GateB gl F H') gs vs:=
 L2.Paired.mapP p fun _ _ ⟨t,r,e,n,h1,h2⟩=>⟨t,r,e,n,s _ _ h1,h2.same s⟩
theorem oP {gl r:Addr} {H:Hp} {us us':List V} {rs:List Rule} (h:H gl=some (.lst us)) (n:r≠gl) (hr:Rules H r rs):Rules (upd H gl (.lst us')) r rs:=by
 obtain ⟨vs,e,pr⟩:=hr;refine ⟨vs,?_,jU (cx h) pr⟩;rw [av n];exact e
theorem vO {gl:Addr} {F:Addr->Prop} {H:Hp} {us us':List V} (h:H gl=some (.lst us)) {gs:List Gate} {vs:List V} (p:Paired (GateB gl F H) gs vs):Paired (GateB gl F (upd H gl (.lst us'))) gs vs:=
 L2.Paired.mapP p fun _ _ ⟨t,r,e,n,h1,h2⟩=>⟨t,r,e,n,cx h _ _ h1,oP h n.1 h2⟩
def GateN (N:Addr->Prop) (H:Hp) (x:Gate) (v:V):Prop:=∃ t r,v=.ref t/\N r/\H t=some (.tup [tx x.1,.ref r])/\Rules H r x.2
structure HouseN (F:Addr->Prop) (H:Hp) (q g w:Addr) (hs:House):Prop where
 tup:H q=some (.tup [.ref g,.ref w])
 ne:g≠w
 gates:∃ vs,H g=some (.lst vs)/\Paired (GateN (fun r=>r≠g/\r≠w/\F r) H) hs.1 vs
 ways:Ways H w hs.2
theorem HouseN.at {F:Addr->Prop} {H:Hp} {q g w:Addr} {hs:House} (h:HouseN F H q g w hs):HouseAt H q hs:=by
 obtain ⟨vs,e,p⟩:=h.gates;exact ⟨g,w,h.tup,⟨vs,e,L2.Paired.mapP p fun _ _ ⟨t,r,e,_,h1,h2⟩=>⟨t,r,e,h1,h2⟩⟩,h.ways⟩
theorem HouseN.same {F:Addr->Prop} {H H':Hp} {q g w:Addr} {hs:House} (h:HouseN F H q g w hs) (s:Same H H'):HouseN F H' q g w hs:=by
 obtain ⟨vs,e,p⟩:=h.gates;exact ⟨s _ _ h.tup,h.ne,⟨vs,s _ _ e,L2.Paired.mapP p fun _ _ ⟨t,r,e,n,h1,h2⟩=>⟨t,r,e,n,s _ _ h1,h2.same s⟩⟩,h.ways.same s⟩
theorem xL {pl:List (List Nat)} (N:Names 5 pl) {r1 c:Nat} (hc:c<=3):((List.range c).map fun j=>pl.getD ((r1+j) % 5) []).Nodup:=by
 refine lr _ fun i j hi hj e=>?_
 have hl:=N.len;have h1:(r1+i) % 5 < pl.length:=by rw [hl]; exact Nat.mod_lt _ (by decide)
 have h2:(r1+j) % 5 < pl.length:=by rw [hl]; exact Nat.mod_lt _ (by decide)
 simp only [List.getD_eq_getElem?_getD,List.getElem?_eq_getElem h1,List.getElem?_eq_getElem h2,Option.getD_some] at e;have:=(List.getElem_inj N.nd).mp e;omega
noncomputable def gb (K:Frag):Sp:=fun vs H Q _=>match vs with
 | [.ref a,.int k,.ref t,.ref p,.ref o]=>∃ (ns:List Int) (k0:Nat) (ps:List Nat) (ls:List Fld) (pl:List (List Nat)),SqL K H a (ns.map V.int)/\k=(k0:Int)/\k0<=10000/\SqL K H t (ps.map nV)/\ToldOk (widthL ls) ps/\Lay H p ls/\LayOk ls/\SqL K H o (pl.map tx)/\Names 5 pl /\
   ∀ (q g w:Addr) (H':Hp) (hs:House),H q=none->H g=none->H w=none->Same H H'->HouseN (fun r=>H r=none) H' q g w hs->HouseOk (widthL ls) ((spanG ls).2 - (spanG ls).1) pl hs->hs.2.length<=4->(∀ x ∈ hs.1,∀ r ∈ x.2,OverL ps r.2.2)->Q (.ref q) H'
 | _=>False
theorem ol (T:Top K mg):Callee P w K mg base 3 "_law_house" ["_law_script", "_law_k", "_law_told_here", "_law_layout_here", "_law_pool"] (gb K):=by
 refine T.kR.cal aI (by intro vs H Q E h; unfold gb at h; split at h <;> first | rfl | exact h.elim) (fun _ _ _ _ _ _ us hl=>match us,hl with | [_,_,_,_,_],_=>rfl) (fun f cdv A outer s H vs Q E hr h=>?_);unfold gb at h;split at h
 case h_2=>exact h.elim
 refine ⟨_,(ae (ak (i:=5) aI.nd rfl lc (au (fP T) hr.m rfl (aa (qv 3) ad)))
   (ae (jS (au (ic T) hr.m rfl (aa (qv 3) ad)) (seqE K rfl rfl (n:=2) (aq (aj (i:=6) aI.nd rfl lc) (aq (aj (i:=7) aI.nd rfl lc) aP))))
   (ae (ak (i:=8) aI.nd rfl lc (au (lU T) hr.m rfl (aa (qv 0) (aa (qv 2) ad))))
   (ae (ak (i:=9) aI.nd rfl lc (au (al T) hr.m rfl (aa (qv 0) (aa (qv 1) (aa (aB (lenE K rfl) rfl T.b5 aW (aa (qv 4) ad)) ad)))))
   (ae (ak (i:=10) aI.nd rfl lc (aw (ixE K rfl) (aS (aa af (aa af (aa af (aa af (aa af (aa af (aa af (aa af (aa af ad)))))))))) (au (al T) hr.m rfl (aa (qv 0) (aa (ar ap (qv 1) af) (aa af ad)))) (fun _ _=>rfl)))
   (ae (g8 (i:=11) (nt:=1) (fi:=[4,9]) (N':=["_law_j", "_law_pool", "_law_turn"]) aI.nd rfl lc rfl (cscope rfl (by decide +kernel)) (cnames (N:=["_law_script", "_law_k", "_law_told_here", "_law_layout_here", "_law_pool", "_law_width_here", "_law_first", "_law_behind", "_law_over_at_here", "_law_turn", "_law_count", "_law_doors", "_law_gates", "_law_g", "_law_many", "_law_rules", "_law_over"]) (sc:=defScope di) rfl rfl (by decide +kernel)) (bw (by decide)) (bB rfl T.b7 (qv 10)) (fun _ _ _ _ _=>(aj (i:=0) (by show (["_law_j", "_law_pool", "_law_turn"]:List Str).Nodup; decide +kernel) rfl lc)) (fun _ _ _ _ _=>aZ) (fun _ _ _ _ _=>(aw (ixE K rfl) (qv 1) (ar cN (ar ap (qv 2) (qv 0)) (aB (lenE K rfl) rfl T.b5 aW (aa (qv 1) ad))) (fun _ _=>rfl))))
   (ae (ak (i:=12) aI.nd rfl lc (aS ad))
   (ae (aU PassesOwn.never rfl (bB rfl T.b7 (qv 10)) (aj (i:=13) aI.nd rfl lc) (ae (ak (i:=14) aI.nd rfl lc (au (al T) hr.m rfl (aa (qv 0) (aa (ar ap (ar ap (qv 1) af) (qv 13)) (aa af ad)))))
   (ae (g8 (i:=15) (nt:=1) (fi:=[0,2,8,5,1,13]) (N':=["_law_j", "_law_script", "_law_told_here", "_law_over_at_here", "_law_width_here", "_law_k", "_law_g"]) aI.nd rfl lc rfl (cscope rfl (by decide +kernel)) (cnames (N:=["_law_script", "_law_k", "_law_told_here", "_law_layout_here", "_law_pool", "_law_width_here", "_law_first", "_law_behind", "_law_over_at_here", "_law_turn", "_law_count", "_law_doors", "_law_gates", "_law_g", "_law_many", "_law_rules", "_law_over"]) (sc:=defScope di) rfl rfl (by decide +kernel)) (bw (by decide)) (bB rfl T.b7 (ar cN (qv 14) af)) (fun _ _ _ _ _=>(aj (i:=0) (by show (["_law_j", "_law_script", "_law_told_here", "_law_over_at_here", "_law_width_here", "_law_k", "_law_g"]:List Str).Nodup; decide +kernel) rfl lc)) (fun _ _ _ _ _=>aZ) (fun _ _ _ _ _=>(au (pT T) hr.m rfl (aa (qv 1) (aa (ar ap (ar ap (ar ap (qv 5) af) (ar cD af (qv 6))) (ar cD af (qv 0))) (aa (qv 2) (aa (qv 3) (aa (qv 4) ad))))))))
   (fq (aG (aC ja (qv 14) af) (ae (ak (i:=16) aI.nd rfl lc (au (fT T) hr.m rfl (aa (au (al T) hr.m rfl (aa (qv 0) (aa (ar ap (ar ap (qv 1) af) (ar cD af (qv 13))) (aa af ad)))) (aa (qv 8) (aa (qv 5) (aa (qs [48,49,45,45]) ad))))))
   (ai (cF (dC (qv 15) (aD (aa (ar cD (qs [45]) (qv 5)) (aa (qs [112,97,115,115]) (aa (qv 16) ad)))))))) aA)
   (ai (cF (dC (qv 12) (aD (aa (aw (ixE K rfl) (qv 11) (qv 13) (fun _ _=>rfl)) (aa (qv 15) ad))))))))))
   (ai (ao (aD (aa (qv 12) (aa (au (qN T) hr.m rfl (aa (qv 0) (aa (ar ap (qv 1) af) (aa (qv 11) (aa (ar zG (qv 7) (qv 6)) ad))))) ad))))))))))))),?_⟩
 rename_i a k t p o;obtain ⟨ns,k0,ps,ls,pl,hS,rfl,hk,hT,tok,hL,ok,hO,N,q⟩:=h;obtain ⟨fa,fb,esp,hab,hb⟩:=ok.to;have eG:spanG ls=(fa,fb):=by unfold spanG; rw [esp]; rfl
 rw [eG] at q;have w1:=ok.w1;have w2:=ok.w2;have hlen:=ok.len;have hpl:(pl.map tx).length=5:=by rw [List.length_map]; exact N.len
 walk_at "rd";refine ⟨ls,hL,by omega,fun H1 s1=>?_⟩;generalize eW:widthL ls=W at *;refine ⟨ls,hL.same s1,fun t1 H2 ht1 s2 e1=>?_⟩;rw [eG] at e1;have s12:=s1.trans s2;refine ⟨[_,_],.inr (SqT.of e1),rfl,_,[_],rfl,_,[],rfl,rfl,?_⟩;walk_at "rd";refine ⟨ns,ps,s12.seq hS,s12.seq hT,tok.l1,by have:=tok.l5; omega,fun ov H3 os hov s3 e3 hos=>?_⟩;have s13:=s12.trans s3;have hosW:∀ x ∈ os,x < W:=fun x hx=>tok.lt x (hos x hx)
 walk_at "rd";refine ⟨_,.inl (s13.seq hO),aM (s13.seq hS) (by omega) (by omega) (by omega) (by omega) fun r1 hr1=>?_⟩;walk_at "rd";refine ⟨by decide,fun c1 hc1=>?_⟩;have s4:=s13.trans (ah hc1 (.lst [V.int 1,V.int 2,V.int 3,V.int 2,V.int 1,V.int 2,V.int 3,V.int 2,V.int 0]));have e4:=ah hc1 (.lst [V.int 1,V.int 2,V.int 3,V.int 2,V.int 1,V.int 2,V.int 3,V.int 2,V.int 0]) _ _ e3;refine aM (s4.seq hS) (by omega) (by omega) (by decide) (by decide) fun r2 hr2=>?_
 obtain ⟨c,hc,ec⟩:=nJ (cs:=[1,2,3,2,1,2,3,2,0]) (B:=3) (vs:=[V.int 1,V.int 2,V.int 3,V.int 2,V.int 1,V.int 2,V.int 3,V.int 2,V.int 0]) rfl (by decide) (i:=r2) (by show r2 < 9; omega);walk_at "rd";refine ⟨_,_,.inl (SqL.of upd_same),ec,?_⟩;walk_at "rd";refine ⟨by omega,by omega,fun ds hds=>?_⟩;rw [Int.toNat_natCast];have dnP:∀ j:Nat,∃ h:(r1+j) % 5 < pl.length,pl.getD ((r1+j) % 5) []=pl[(r1+j) % 5]:=fun j=>by
  have h1:(r1+j) % 5 < pl.length:=by rw [N.len]; exact Nat.mod_lt _ (by decide)
  exact ⟨h1,by rw [List.getD_eq_getElem?_getD,List.getElem?_eq_getElem h1]; rfl⟩
 have dnd:=xL N (r1:=r1) hc;refine jY (lo:=0) (n:=c) (h:=fun j=>[tx (pl.getD ((r1+j) % 5) [])]) hds (by omega) (fun _=>by simp) ?_ ?_
 ·intro i H5 out non hi s5 ho _;have s45:=s4.trans s5;walk_at "rd";rw [show ((r1:Int)+(i:Int))=((r1+i:Nat):Int) by omega];obtain ⟨h1,h2⟩:=dnP i;refine ⟨_,.inl (s45.seq hO),by rw [hpl]; decide,_,_,.inl (s45.seq hO),?_,ho _ _ rfl (Same.refl _)⟩;rw [hpl,show (((r1+i:Nat):Int) % ((5:Nat):Int))=(((r1+i) % 5:Nat):Int) by omega];refine be ?_;rw [List.getElem?_map,List.getElem?_eq_getElem h1,h2];rfl
 intro H5 s5 e5;rw [cP (fun j=>tx (pl.getD ((r1+j) % 5) [])),show (List.range c).map (fun j=>tx (pl.getD ((r1+j) % 5) []))=((List.range c).map fun j=>pl.getD ((r1+j) % 5) []).map tx by rw [List.map_map]; rfl] at e5;have dmem:∀ x ∈ (List.range c).map (fun j=>pl.getD ((r1+j) % 5) []),x ∈ pl:=fun x hx=>by
  obtain ⟨j,_,rfl⟩:=List.mem_map.mp hx;obtain ⟨h1,h2⟩:=dnP j;rw [h2];exact List.getElem_mem h1
 have dlen:((List.range c).map fun j=>pl.getD ((r1+j) % 5) []).length=c:=by simp
 generalize (List.range c).map (fun j=>pl.getD ((r1+j) % 5) [])=dl at dnd dmem dlen e5;have s45:=s4.trans s5;have e6:=s5 _ _ e4;clear dnP;refine ⟨Nat.zero_le _,fun gl hgl=>⟨by omega,by omega,?_⟩⟩;have sg:=ah hgl (.lst []);refine dt (lo:=0) (n:=c) (fun i σ H'=>∃ (gs:List Gate) (vs:List V) (u13 u14 u15 u16:Option V),σ = [some (.ref a),some (nV k0),some (.ref t),some (.ref p),some (.ref o),some (nV W),some (nV fa),some (nV fb),some (.ref ov),some (nV r1),some (nV c),some (.ref ds),some (.ref gl),u13,u14,u15,u16]/\Same H5 H'/\H' gl=some (.lst vs)/\Paired (GateB gl (fun r=>H r=none) H') gs vs/\gs.map (·.1)=dl.take i/\(∀ x ∈ gs,∀ r ∈ x.2,RuleOk W r/\OverL ps r.2.2)/\∀ x ∈ gs,x.2.length<=5)
  ⟨[],[],none,none,none,none,rfl,sg,upd_same,.nil,by simp,fun x hx=>by simp at hx,fun x hx=>by simp at hx⟩ ?_ ?_
 ·rintro i σ H6 hi ⟨gs,vs,u13,u14,u15,u16,rfl,s6,eg,pg,hgd,hgr,hgn⟩;have s46:=s45.trans s6;walk_at "rd";refine aM (s46.seq hS) (by omega) (by omega) (by decide) (by decide) fun r3 hr3=>?_
  walk_at "rd";have hm5:r3 % 5 < 5:=Nat.mod_lt _ (by decide);rw [show ((r3:Int) % 5)=((r3 % 5:Nat):Int) by omega,Int.toNat_natCast];have mul9:CMul 9 (i:Int):=.inl ⟨by decide,by decide⟩;have mul2:∀ j:Nat,CMul 2 (j:Int):=fun j=>.inl ⟨by decide,by decide⟩
  refine ⟨by omega,by omega,fun R hR=>?_⟩;refine kY (lo:=0) (n:=r3 % 5) (fun _ v H'=>∃ r:Rule,(RuleOk W r/\OverL ps r.2.2)/\RuleAt H' r v) hR (by omega) ?_ ?_ ?_
  ·rintro x v H7 H8 acc hd k ⟨r,hr,t',rfl,et⟩;exact ⟨r,hr,t',rfl,k t' _ (fun z=>by rw [z,hd] at et; cases et) et⟩
  ·intro j H7 out non hj s7 ho;have s47:=s46.trans s7;walk_at "rd";refine ⟨mul9,mul2 j,ns,k0+22+9*i+2*j,W,ps,os,s47.seq hS,by omega,by omega,rfl,by omega,s47.seq hT,tok.lt,SqL.of (s7 _ _ (s6 _ _ e6)),hosW,fun t7 H8 r ht7 s8 e8 hrok hov=>?_⟩;exact ho _ _ s8 ⟨r,⟨hrok,fun i c e n=>hos i (hov i c e n)⟩,t7,rfl,e8⟩
  intro H7 us s7 e7 p7;obtain ⟨rs,pr7,hrl,hrok⟩:=jC p7;rw [List.length_range] at hrl;have hR5:=s6.free hR;have s47:=s46.trans s7;have nRg:R≠gl:=fun z=>by rw [z,eg] at hR; cases hR
  refine ⟨fun σ' H'=>∃ (rs:List Rule) (u:Option V),σ'=[some (.ref a),some (nV k0),some (.ref t),some (.ref p),some (.ref o),some (nV W),some (nV fa),some (nV fb),some (.ref ov),some (nV r1),some (nV c),some (.ref ds),some (.ref gl),some (nV i),some (nV r3),some (.ref R),u]/\Same H6 H'/\Rules H' R rs/\(∀ r ∈ rs,RuleOk W r/\OverL ps r.2.2)/\rs.length<=5,?_,?_⟩
  ·refine ite2 (fun g4=>⟨mul9,aM (s47.seq hS) (by omega) (by omega) (by decide) (by decide) fun r4 hr4=>?_⟩) fun g4=>⟨rs,_,rfl,s7,⟨us,e7,pr7⟩,hrok,by omega⟩
   refine mL (by omega) (SqL.of (s7 _ _ (s6 _ _ e6))) hosW (by decide) (by decide) (by unfold RowL; decide) fun over H8 s8 hl8 hr8 hov=>?_
   refine ⟨⟨_,s8 _ _ e7⟩,by omega,by omega,by decide,fun t8 ht8=>?_⟩;rw [Int.toNat_natCast];have s9:=ah ht8 (.tup [V.str (st (List.replicate W 45)),V.str (st [112,97,115,115]),tx over]);have e9:=s9 _ _ (s8 _ _ e7);have hul:=pr7.length;refine ⟨us,e9,sizeBig (by omega),rs++[(List.replicate W 45,passT,over)],_,rfl,aK (s7.trans (s8.trans s9)) hR,⟨_,upd_same,?_⟩,fun r hr=>?_,by rw [List.length_append,hrl]; simp; omega⟩
   ·refine dP (L2.Paired.mapP pr7 ?_) ⟨t8,rfl,?_⟩
    ·rintro x v ⟨t',rfl,et⟩;exact ⟨t',rfl,cx e9 _ _ (s9 _ _ (s8 _ _ et))⟩
    ·exact cx e9 _ _ upd_same
   ·rcases List.mem_append.mp hr with z | z
    ·exact hrok r z
    ·rw [List.mem_singleton.mp z];exact ⟨⟨fun c hc=>.inr (.inr (List.eq_of_mem_replicate hc)),by simp,.inl rfl,hr8,hl8⟩,fun i c e n=>hos i (hov i c e n)⟩
  ·rintro σ' H8 ⟨rs',u,rfl,s8,hR8,hrok',hrl'⟩;walk_at "rd";have eg8:=s8 _ _ eg;have hid:i < dl.length:=by omega
   refine ⟨⟨_,eg8⟩,_,tx dl[i],.inl (SqL.of (s8 _ _ (s6 _ _ e5))),be (by rw [List.getElem?_map,List.getElem?_eq_getElem hid]; rfl),by decide,fun t9 ht9=>?_⟩;have s9:=ah ht9 (.tup [tx dl[i],.ref R]);have eg9:=s9 _ _ eg8;have hvl:=pg.length;have hgl2:gs.length=i:=by
    have:=congrArg List.length hgd;rw [List.length_map,List.length_take] at this;omega
   refine ⟨vs,eg9,sizeBig (by omega),gs++[(dl[i],rs')],_,_,_,_,_,rfl,aK (s6.trans (s8.trans s9)) hgl,upd_same,?_,?_,fun x hx=>?_,fun x hx=>?_⟩
   ·exact dP (vO eg9 (tW (s8.trans s9) pg)) ⟨t9,R,rfl,⟨nRg,s46.free hR⟩,cx eg9 _ _ upd_same,oP eg9 nRg (hR8.same s9)⟩
   ·rw [List.map_append,hgd,List.take_add_one,List.getElem?_eq_getElem hid];rfl
   ·rcases List.mem_append.mp hx with z | z
    ·exact hgr x z
    ·rw [List.mem_singleton.mp z];exact hrok'
   ·rcases List.mem_append.mp hx with z | z
    ·exact hgn x z
    ·rw [List.mem_singleton.mp z];exact hrl'
 ·rintro σ H6 ⟨gs,vs,u13,u14,u15,u16,rfl,s6,eg,pg,hgd,hgr,hgn⟩;have s46:=s45.trans s6;rw [<- dlen,List.take_length] at hgd;walk_at "rd";refine ⟨ns,k0+5,fb - fa,dl,s46.seq hS,by omega,by omega,by omega,by omega,SqL.of (s6 _ _ e5),by omega,fun wp H7 ws hwp s7 hw wok hwl=>⟨by decide,fun hp hhp=>?_⟩⟩;have s8:=ah hhp (.tup [V.ref gl,V.ref wp]);have s78:=s7.trans s8;have ngw:gl≠wp:=fun z=>by rw [z,hwp] at eg; cases eg
  refine q hp gl wp _ (gs,ws) ((s46.trans s7).free hhp) (s45.free hgl) (s46.free hwp) (s46.trans s78) ⟨upd_same,ngw,⟨vs,s78 _ _ eg,L2.Paired.mapP pg ?_⟩,hw.same s8⟩ ⟨?_,fun x hx=>?_,?_,fun x hx r hr=>(hgr x hx r hr).1,fun x hx=>Nat.le_trans (hgn x hx) (by decide),?_,Nat.le_trans hwl (by decide)⟩ hwl fun x hx r hr=>(hgr x hx r hr).2
  ·rintro x v ⟨t',r,rfl,n,h1,h2⟩;refine ⟨t',r,rfl,⟨n.1,fun z=>?_,n.2⟩,s78 _ _ h1,h2.same s78⟩;obtain ⟨us,eu,_⟩:=h2;rw [z,hwp] at eu;cases eu
  ·show (gs.map (·.1)).Nodup;rw [hgd];exact dnd
  ·exact dmem _ (by rw [<- hgd]; exact List.mem_map.mpr ⟨x,hx,rfl⟩)
  ·have:=congrArg List.length hgd;rw [List.length_map,dlen] at this;show gs.length<=3;omega
  ·show WaysOk (fb - fa) (gs.map (·.1)) ws;rw [hgd];exact wok
theorem ye {H:Hp}:∀ (n:Nat) {v:V} {d:D},Th H n v d->Th H (n+1) v d
 | 0,_,_,h=>.inl h
 | n+1,_,_,.inl h=>.inl h
 | n+1,_,_,.inr (.inl ⟨a,vs,ds,e1,e2,e3,e4,p⟩)=>.inr (.inl ⟨a,vs,ds,e1,e2,e3,e4,L2.Paired.mapP p fun _ _ z=>ye n z⟩)
 | n+1,_,_,.inr (.inr ⟨a,vs,ds,e1,e2,e3,e4,p⟩)=>.inr (.inr ⟨a,vs,ds,e1,e2,e3,e4,L2.Paired.mapP p fun _ _ z=>ye n z⟩)
theorem ck {α β γ:Type} {F:α -> β -> Prop} {G:β -> γ -> Prop} {f:α -> γ} (h:∀ x v,F x v->G v (f x)):∀ {l:List α} {vs:List β},Paired F l vs->Paired G vs (l.map f)
 | _,_,.nil=>.nil
 | _,_,.cons r p=>.cons (h _ _ r) (ck h p)
theorem cH {α β γ:Type} {F:α -> β -> Prop} {G:β -> γ -> Prop} {f:α -> γ} (h:∀ x v,G v (f x)->F x v):∀ {l:List α} {vs:List β},Paired G vs (l.map f)->Paired F l vs
 | [],_,p=>by cases p; exact .nil
 | x::l,_,p=>by
  cases p with
  | cons r p=>exact .cons (h _ _ r) (cH h p)
theorem vH {H:Hp} {n:Nat} {v:V} {ds:List D} (h:Th H (n+1) v (.l ds)):∃ a vs,v=.ref a/\H a=some (.lst vs)/\Paired (Th H n) vs ds:=by
 rcases h with ⟨e,_⟩ | ⟨a,vs,ds',e1,e2,e3,_,p⟩ | ⟨a,vs,ds',e1,e2,e3,_,p⟩
 ·cases e
 ·cases e2; exact ⟨a,vs,e1,e3,p⟩
 ·cases e2
theorem rN {H:Hp} {n:Nat} {v:V} {ds:List D} (h:Th H (n+1) v (.t ds)):∃ a vs,v=.ref a/\H a=some (.tup vs)/\Paired (Th H n) vs ds:=by
 rcases h with ⟨e,_⟩ | ⟨a,vs,ds',e1,e2,e3,_,p⟩ | ⟨a,vs,ds',e1,e2,e3,_,p⟩
 ·cases e
 ·cases e2
 ·cases e2; exact ⟨a,vs,e1,e3,p⟩
theorem ux {H:Hp} {n:Nat} {a:Addr} {vs:List V} {ds:List D} (e:H a=some (.lst vs)) (hl:vs.length<=1000) (p:Paired (Th H n) vs ds):Th H (n+1) (.ref a) (.l ds):=.inr (.inl ⟨a,vs,ds,rfl,rfl,e,hl,p⟩)
theorem og {H:Hp} {n:Nat} {a:Addr} {vs:List V} {ds:List D} (e:H a=some (.tup vs)) (hl:vs.length<=1000) (p:Paired (Th H n) vs ds):Th H (n+1) (.ref a) (.t ds):=.inr (.inr ⟨a,vs,ds,rfl,rfl,e,hl,p⟩)
theorem A7 {H:Hp} {x:Fld} {v:V} (n:Nat) (h:FldAt H x v):Th H (n+1) v (fldD x):=by
 obtain ⟨t,rfl,e⟩:=h;exact og e (by simp) (.cons (dH n rfl) (.cons (dH n rfl) .nil))
theorem xf {H:Hp} {x:Fld} {v:V} {n:Nat} (h:Th H (n+1) v (fldD x)):FldAt H x v:=by
 obtain ⟨a,vs,rfl,e,p⟩:=rN h;cases p with
 | cons r p=>cases p with
  | cons r2 p=>
   cases p;rw [jB r,jB r2] at e;exact ⟨a,rfl,e⟩
theorem tq {H:Hp} {x:Way} {v:V} (n:Nat) (h:WayAt H x v):Th H (n+1) v (wayD x):=by
 obtain ⟨t,rfl,e⟩:=h;exact og e (by simp) (.cons (dH n rfl) (.cons (dH n rfl) .nil))
theorem mD {H:Hp} {x:Way} {v:V} {n:Nat} (h:Th H (n+1) v (wayD x)):WayAt H x v:=by
 obtain ⟨a,vs,rfl,e,p⟩:=rN h;cases p with
 | cons r p=>cases p with
  | cons r2 p=>
   cases p;rw [jB r,jB r2] at e;exact ⟨a,rfl,e⟩
theorem zF {H:Hp} {x:Rule} {v:V} (n:Nat) (h:RuleAt H x v):Th H (n+1) v (ruleD x):=by
 obtain ⟨t,rfl,e⟩:=h;exact og e (by simp) (.cons (dH n rfl) (.cons (dH n rfl) (.cons (dH n rfl) .nil)))
theorem u4 {H:Hp} {x:Rule} {v:V} {n:Nat} (h:Th H (n+1) v (ruleD x)):RuleAt H x v:=by
 obtain ⟨a,vs,rfl,e,p⟩:=rN h;cases p with
 | cons r p=>cases p with
  | cons r2 p=>cases p with
   | cons r3 p=>
    cases p;rw [jB r,jB r2,jB r3] at e;exact ⟨a,rfl,e⟩
noncomputable def layD (ls:List Fld):D:=.l (ls.map fldD)
noncomputable def gateD (x:Gate):D:=.t [.f (tx x.1),.l (x.2.map ruleD)]
noncomputable def houseD (h:House):D:=.t [.l (h.1.map gateD),.l (h.2.map wayD)]
theorem AM {H:Hp} {p:Addr} {ls:List Fld} (n:Nat) (h:Lay H p ls) (hl:ls.length<=1000):Th H (n+2) (.ref p) (layD ls):=by
 obtain ⟨vs,e,pr⟩:=h;exact ux e (by rw [<- pr.length]; exact hl) (ck (fun x v z=>A7 n z) pr)
theorem wY {H:Hp} {v:V} {ls:List Fld} {n:Nat} (h:Th H (n+2) v (layD ls)):∃ p,v=.ref p/\Lay H p ls:=by
 obtain ⟨a,vs,rfl,e,p⟩:=vH h;exact ⟨a,rfl,vs,e,cH (F:=FldAt H) (fun x v z=>xf z) p⟩
theorem xx {H:Hp} {p:Addr} {rs:List Rule} (n:Nat) (h:Rules H p rs) (hl:rs.length<=1000):Th H (n+2) (.ref p) (.l (rs.map ruleD)):=by
 obtain ⟨vs,e,pr⟩:=h;exact ux e (by rw [<- pr.length]; exact hl) (ck (fun x v z=>zF n z) pr)
theorem uu {H:Hp} {v:V} {rs:List Rule} {n:Nat} (h:Th H (n+2) v (.l (rs.map ruleD))):∃ p,v=.ref p/\Rules H p rs:=by
 obtain ⟨a,vs,rfl,e,p⟩:=vH h;exact ⟨a,rfl,vs,e,cH (F:=RuleAt H) (fun x v z=>u4 z) p⟩
theorem vn {H:Hp} {x:Gate} {v:V} {n:Nat} (h:Th H (n+3) v (gateD x)):GateAt H x v:=by
 obtain ⟨a,vs,rfl,e,p⟩:=rN h;cases p with
 | cons r p=>cases p with
  | cons r2 p=>
   cases p;obtain ⟨q,rfl,hq⟩:=uu r2;rw [jB r] at e;exact ⟨a,q,rfl,e,hq⟩
theorem wO {H:Hp} {t:Addr} {hs:House} (n:Nat) (h:HouseAt H t hs) (h1:hs.1.length<=1000) (h2:hs.2.length<=1000) (h3:∀ x ∈ hs.1,x.2.length<=1000):Th H (n+5) (.ref t) (houseD hs):=by
 obtain ⟨g,w,e,⟨vs,eg,pg⟩,⟨us,ew,pw⟩⟩:=h;refine og e (by simp) (.cons (ux eg (by rw [<- pg.length]; exact h1) ?_) (.cons (ux ew (by rw [<- pw.length]; exact h2) (ck (fun x v z=>tq (n+2) z) pw)) .nil));clear eg e ew pw h1 h2;obtain ⟨gs,ws⟩:=hs;dsimp only at pg h3 ⊢
 induction pg with
 | nil=>exact .nil
 | cons r p ih=>
  refine .cons ?_ (ih fun x hx=>h3 x (List.mem_cons_of_mem _ hx));obtain ⟨t',q,rfl,e,hq⟩:=r;exact og e (by simp) (.cons (dH (n+2) rfl) (.cons (xx n hq (h3 _ List.mem_cons_self)) .nil))
theorem uz {H:Hp} {v:V} {hs:House} {n:Nat} (h:Th H (n+5) v (houseD hs)):∃ t,v=.ref t/\HouseAt H t hs:=by
 obtain ⟨a,vs,rfl,e,p⟩:=rN h;cases p with
 | cons r p=>cases p with
  | cons r2 p=>
   cases p;obtain ⟨g,gv,rfl,eg,pg⟩:=vH r;obtain ⟨w,wv,rfl,ew,pw⟩:=vH r2;exact ⟨a,rfl,g,w,e,⟨gv,eg,cH (F:=GateAt H) (fun x v z=>vn z) pg⟩,⟨wv,ew,cH (F:=WayAt H) (fun x v z=>mD z) pw⟩⟩
theorem rp {H:Hp} {t:Addr} {vs:List V} (e:H t=some (.tup vs)) (hf:vs.all flatV=true) (hl:vs.length<=1000):Th H 1 (.ref t) (.t (vs.map D.f)):=by
 refine og e hl ?_;clear e hl
 induction vs with
 | nil=>exact .nil
 | cons v vs ih=>
  rw [List.all_cons,Bool.and_eq_true] at hf;exact .cons (dH 0 hf.1) (ih hf.2)
noncomputable abbrev Named:=List Nat × House
def NamedAt (H:Hp) (x:Named) (v:V):Prop:=∃ t q,v=.ref t/\H t=some (.tup [tx x.1,.ref q])/\HouseAt H q x.2
def Houses (H:Hp) (p:Addr) (hs:List Named):Prop:=∃ vs,H p=some (.lst vs)/\Paired (NamedAt H) hs vs
theorem Houses.same {H H':Hp} {p:Addr} {hs:List Named} (h:Houses H p hs) (s:Same H H'):Houses H' p hs:=by
 obtain ⟨vs,e,pr⟩:=h;exact ⟨vs,s _ _ e,L2.Paired.mapP pr fun _ _ ⟨t,q,e,h1,h2⟩=>⟨t,q,e,s _ _ h1,h2.same s⟩⟩
noncomputable def spotsOf (hs:List Named):List Way:=hs.flatMap fun x=>x.2.1.map fun g=>(x.1,g.1)
theorem ur (hs:List Named) (i:Nat) (h:i < hs.length):spotsOf (hs.take (i+1))=spotsOf (hs.take i)++hs[i].2.1.map fun g=>(hs[i].1,g.1):=by
 unfold spotsOf;rw [List.take_add_one,List.getElem?_eq_getElem h,Option.toList_some,List.flatMap_append];simp
theorem mx {α β:Type} {F:α -> β -> Prop}:∀ {l l':List α} {m m':List β},Paired F l m->Paired F l' m'->Paired F (l++l') (m++m')
 | _,_,_,_,.nil,q=>q
 | _,_,_,_,.cons r p,q=>.cons r (mx p q)
theorem lF {α β γ:Type} {F:β -> γ -> Prop} {f:α -> β}:∀ {l:List α} {vs:List γ},Paired (fun x v=>F (f x) v) l vs->Paired F (l.map f) vs
 | _,_,.nil=>.nil
 | _,_,.cons r p=>.cons r (lF p)
noncomputable def gf (K:Frag):Sp:=fun vs H Q _=>match vs with
 | [.ref p]=>∃ hs:List Named,Houses H p hs/\hs.length<=100/\(∀ x ∈ hs,x.2.1.length<=100)/\∀ q H',H q=none->Same H H'->Ways H' q (spotsOf hs)->Q (.ref q) H'
 | _=>False
theorem lu {hs:List Named} {c:Nat} (h:∀ x ∈ hs,x.2.1.length<=c):(spotsOf hs).length<=hs.length*c:=by
 unfold spotsOf
 induction hs with
 | nil=>simp
 | cons x hs ih=>
  have h1:=h x List.mem_cons_self;have h2:=ih fun y hy=>h y (List.mem_cons_of_mem _ hy)
  rw [List.flatMap_cons,List.length_append,List.length_map,List.length_cons,Nat.add_mul];omega
theorem jA (T:Top K mg):Callee P w K mg base 1 "_law_spots" ["_law_houses"] (gf K):=by
 refine T.kF.cal dN (by intro vs H Q E h; unfold gf at h; split at h <;> first | rfl | exact h.elim) (fun _ _ _ _ _ _ us hl=>match us,hl with | [_],_=>rfl) (fun f cdv A outer s H vs Q E hr h=>?_);unfold gf at h;split at h
 case h_2=>exact h.elim
 refine ⟨_,(ae (ak (i:=1) dN.nd rfl lc (aS ad))
   (ae (aU PassesOwn.never rfl (iterE K rfl (qv 0)) (tupE K rfl rfl (n:=2) (aq (aj (i:=2) dN.nd rfl lc) (aq (aj (i:=3) dN.nd rfl lc) aP))) (ai (cF (v5 (qv 1) (bZ (nt:=1) (fi:=[2]) (N':=["_law_gate", "_law_name"]) rfl (cscope rfl (by decide +kernel)) (cnames (N:=["_law_houses", "_law_spots_here", "_law_name", "_law_house_here"]) (sc:=defScope d9) rfl rfl (by decide +kernel)) (bw (by decide)) (iterE K rfl (aw (ixE K rfl) (qv 3) af (fun _ _=>rfl))) (fun _ _ _ _ _=>(aj (i:=0) (by show (["_law_gate", "_law_name"]:List Str).Nodup; decide +kernel) rfl lc)) (fun _ _ _ _ _=>aZ) (fun _ _ _ _ _=>(aD (aa (qv 1) (aa (aw (ixE K rfl) (qv 0) af (fun _ _=>rfl)) ad)))))))))
   (ai (ao (qv 1))))),?_⟩
 rename_i p;obtain ⟨hs,⟨vs,e0,pr⟩,hn,hg,q⟩:=h;have hl:=pr.length;walk_at "rd";refine ⟨Nat.zero_le _,fun g hg0=>?_⟩;have s1:=ah hg0 (.lst []);refine .inl ⟨⟨_,SqL.of (s1 _ _ e0)⟩,?_⟩;refine bj (xs:=vs) (fun i σ H'=>∃ u v,σ = [some (.ref p),some (.ref g),u,v]/\Same H H'/\Ways H' g (spotsOf (hs.take i))) ⟨none,none,rfl,s1,⟨[],upd_same,.nil⟩⟩ (fun i σ H' _ ⟨_,_,_,z,_⟩=>SqL.of (z _ _ e0)) ?_ ?_
 ·rintro i x σ H1 hx ⟨u,v,rfl,s2,⟨us,eu,pu⟩⟩;have hi:i < vs.length:=(List.getElem?_eq_some_iff.mp hx).1;have hil:i < hs.length:=by omega
  obtain ⟨y,hy,t,hq,ey,et,hH⟩:=aE pr (List.getElem?_eq_getElem hil);obtain rfl:x=.ref t:=by rw [hy] at hx; rw [<- Option.some.inj hx,ey]
  obtain ⟨ga,wa,eh,⟨gv,eg,pg⟩,_⟩:=hH.same s2;have hgl:=pg.length;obtain ⟨z1,z2⟩:=cu pg;have hgi:=hg hs[i] (List.getElem_mem hil);refine ⟨t,[_,_],rfl,SqT.of (s2 _ _ et),rfl,_,[_],rfl,_,[],rfl,rfl,?_⟩;walk_at "rd";refine ⟨⟨_,eu⟩,_,_,.inr (SqT.of eh),rfl,?_⟩;walk_at "rd";refine .inl ⟨⟨_,SqL.of eg⟩,fun D hD=>?_⟩;refine xb (item:=fun x:Gate × V=>x.2) (hs[i].2.1.zip gv) (fun _=>true) (fun x v H'=>WayAt H' (hs[i].1,x.1.1) v) hD (by rw [z1]; exact SqL.of eg) (by rw [List.length_zip]; omega) ?_ ?_ ?_
  ·rintro x v H2 H3 acc hd k ⟨t',rfl,et'⟩;exact ⟨t',rfl,k t' _ (fun z=>by rw [z,hd] at et'; cases et') et'⟩
  ·intro x H2 out non hx2 s3 ho _;obtain ⟨t',r',ex,et',_⟩:=z2 x hx2;rw [ex];walk_at "rd";refine ⟨_,_,.inr (SqT.of (s3 _ _ et')),rfl,by decide,fun t2 ht2=>?_⟩;exact ho _ _ rfl (ah ht2 _) ⟨t2,rfl,upd_same⟩
  ·intro H2 ws s3 e3 p3;have p4:Paired (WayAt H2) (hs[i].2.1.map fun g=>(hs[i].1,g.1)) ws:=by
    have hf:(hs[i].2.1.zip gv).filter (fun _=>true)=hs[i].2.1.zip gv:=List.filter_eq_self.mpr fun _ _=>rfl
    rw [hf] at p3;have:hs[i].2.1.map (fun g=>((hs[i].1,g.1):Way))=(hs[i].2.1.zip gv).map fun x=>(hs[i].1,x.1.1):=by
     conv=>lhs; rw [<- dE (l:=hs[i].2.1) (m:=gv) hgl,List.map_map]
     rfl
    rw [this];exact lF p3
   have eu3:=s3 _ _ eu;have ngD:g≠D:=fun z=>by rw [<- z,eu] at hD; cases hD
   have l1:=pu.length;have l2:=p4.length;have l3:=lu (hs:=hs.take i) (c:=100) fun x hx=>hg x (List.mem_of_mem_take hx)
   rw [List.length_take] at l3;rw [List.length_map] at l2;refine ⟨us,ws,eu3,e3,Nat.le_of_lt (sizeBig ?_),some (tx hs[i].1),some (.ref hq),rfl,aK (s2.trans s3) hg0,⟨_,upd_same,?_⟩⟩
   ·have:min i hs.length*100<=100*100:=Nat.mul_le_mul_right _ (by omega);omega
   ·rw [ur hs i hil];refine mx (L2.Paired.mapP pu ?_) (L2.Paired.mapP p4 ?_)
    ·rintro x v ⟨t',rfl,et'⟩;exact ⟨t',rfl,cx eu3 _ _ (s3 _ _ et')⟩
    ·rintro x v ⟨t',rfl,et'⟩;exact ⟨t',rfl,cx eu3 _ _ et'⟩
 ·rintro σ H1 ⟨u,v,rfl,s2,hW⟩;walk_at "rd";rw [<- hl,List.take_length] at hW;exact q g H1 hg0 s2 hW
noncomputable abbrev Line:=Way × Way
def LineAt (H:Hp) (x:Line) (v:V):Prop:=∃ t u1 u2,v=.ref t/\H t=some (.tup [u1,u2])/\WayAt H x.1 u1/\WayAt H x.2 u2
def Lines (H:Hp) (p:Addr) (ls:List Line):Prop:=∃ vs,H p=some (.lst vs)/\Paired (LineAt H) ls vs
theorem o6 {H H':Hp} (k:∀ t vs,H t=some (.tup vs)->H' t=some (.tup vs)) {x:Line} {v:V} (h:LineAt H x v):LineAt H' x v:=by
 obtain ⟨t,u1,u2,e,h1,⟨a,ea,ha⟩,⟨b,eb,hb⟩⟩:=h;exact ⟨t,u1,u2,e,k _ _ h1,⟨a,ea,k _ _ ha⟩,⟨b,eb,k _ _ hb⟩⟩
theorem Lines.same {H H':Hp} {p:Addr} {ls:List Line} (h:Lines H p ls) (s:Same H H'):Lines H' p ls:=by
 obtain ⟨vs,e,pr⟩:=h;exact ⟨vs,s _ _ e,L2.Paired.mapP pr fun _ _ z=>o6 (fun t us q=>s _ _ q) z⟩
noncomputable def endsOf (ls:List Line):List Way:=ls.flatMap fun x=>[x.1,x.2]
theorem iu {α β:Type} {F:α -> β -> Prop}:∀ {l:List α} {m:List β} (i:Nat),Paired F l m->Paired F (l.eraseIdx i) (m.eraseIdx i)
 | _,_,_,.nil=>.nil
 | _,_,0,.cons r p=>p
 | _,_,i+1,.cons r p=>.cons r (iu i p)
noncomputable def fX (K:Frag):Sp:=fun vs H Q _=>match vs with
 | [.ref a,.ref p]=>∃ (ns:List Int) (sp:List Way),SqL K H a (ns.map V.int)/\Ways H p sp/\sp.length<=1000/\sp.Nodup /\
   ∀ (c:Addr) (H':Hp) (ls:List Line),H c=none->Same H H'->Lines H' c ls->(endsOf ls).Nodup->(∀ s ∈ endsOf ls,s ∈ sp)->ls.length<=500->Q (.ref c) H'
 | _=>False
theorem oq (T:Top K mg):Callee P w K mg base 2 "_law_lines" ["_law_script", "_law_spots_here"] (fX K):=by
 refine T.kx.cal cB (by intro vs H Q E h; unfold fX at h; split at h <;> first | rfl | exact h.elim) (fun _ _ _ _ _ _ us hl=>match us,hl with | [_,_],_=>rfl) (fun f cdv A outer s H vs Q E hr h=>?_);unfold fX at h;split at h
 case h_2=>exact h.elim
 refine ⟨_,(ae (ak (i:=2) cB.nd rfl lc (cX (uy K rfl rfl) rfl T.iA fv (aa (qv 1) ad)))
   (ae (ak (i:=3) cB.nd rfl lc (ar gz (aB (lenE K rfl) rfl T.b5 aW (aa (qv 1) ad)) af))
   (ae (ak (i:=4) cB.nd rfl lc (aS ad))
   (ae (aU PassesOwn.never rfl (bB rfl T.b7 (aB (tO rfl) rfl T.Ad Ay (aa (au (al T) hr.m rfl (aa (qv 0) (aa af (aa (ar ap (qv 3) af) ad)))) (aa (au (al T) hr.m rfl (aa (qv 0) (aa af (aa (ar ap (qv 3) af) ad)))) ad)))) (aj (i:=5) cB.nd rfl lc) (ae (ak (i:=6) cB.nd rfl lc (rG (qv 2) (au (al T) hr.m rfl (aa (qv 0) (aa (ar ap af (ar cD af (qv 5))) (aa (aB (lenE K rfl) rfl T.b5 aW (aa (qv 2) ad)) ad))))))
   (ai (cF (dC (qv 4) (aD (aa (qv 6) (aa (rG (qv 2) (au (al T) hr.m rfl (aa (qv 0) (aa (ar ap af (ar cD af (qv 5))) (aa (aB (lenE K rfl) rfl T.b5 aW (aa (qv 2) ad)) ad))))) ad))))))))
   (ai (ao (qv 4))))))),?_⟩
 rename_i a p;obtain ⟨ns,sp,hS,⟨vs,e0,pr⟩,hl,hnd,q⟩:=h;have hvl:=pr.length;walk_at "rd";refine ⟨_,.inl (SqL.of e0),fun P hP=>?_⟩;have s1:=ah hP (.lst vs);refine ⟨_,.inl (SqL.of (s1 _ _ e0)),?_⟩;refine ⟨Nat.zero_le _,fun c hc=>?_⟩;have s2:=s1.trans (ah hc (.lst []));have eP:=ah hc (.lst []) _ _ (show upd H P (.lst vs) P=some (.lst vs) from upd_same);have ncP:c≠P:=fun z=>by rw [z,upd_same] at hc; cases hc
 have hc0:=s1.free hc;refine aM (s2.seq hS) (by decide) (by decide) (by omega) (by omega) fun r1 hr1=>?_
 refine aM (s2.seq hS) (by decide) (by decide) (by omega) (by omega) fun r2 hr2=>?_
 walk_at "rd";obtain ⟨z,ez,hz⟩:∃ z:Nat,(if (r1:Int) < (r2:Int) then (r2:Int) else (r1:Int))=(z:Int)/\2*z<=vs.length:=by
  split
  ·exact ⟨r2,rfl,by omega⟩
  ·exact ⟨r1,rfl,by omega⟩
 rw [ez,Int.toNat_natCast];refine ⟨by omega,by omega,?_⟩;have nPc:P≠c:=Ne.symm ncP;refine dt (lo:=0) (n:=z) (fun i σ H'=>∃ (rest:List Way) (pv:List V) (ls:List Line) (cv:List V) (u5 u6:Option V),σ = [some (.ref a),some (.ref p),some (.ref P),some (.int ((vs.length:Int) / 2)),some (.ref c),u5,u6]/\Same H H'/\H' P=some (.lst pv)/\Paired (WayAt H') rest pv/\H' c=some (.lst cv)/\Paired (LineAt H') ls cv/\(endsOf ls++rest).Perm sp/\rest.length+2*i=sp.length/\ls.length=i)
  ⟨sp,vs,[],[],none,none,rfl,s2,eP,jl (fun t us z=>s2 _ _ z) pr,upd_same,.nil,List.Perm.refl _,by omega,rfl⟩ ?_ ?_
 ·rintro i σ H1 hi ⟨rest,pv,ls,cv,u5,u6,rfl,s3,e3,p3,e4,p4,hperm,hrl,hll⟩;have l3:=p3.length;have l4:=p4.length;have mul2:CMul 2 (i:Int):=.inl ⟨by decide,by decide⟩;walk_at "rd";refine ⟨⟨_,e3⟩,mul2,_,.inl (SqL.of e3),aM (s3.seq hS) (by omega) (by omega) (by omega) (by omega) fun r3 hr3=>?_⟩;have h3:r3 < pv.length:=by omega
  have h3r:r3 < rest.length:=by omega
  refine ⟨pv,r3,pv[r3],rfl,e3,by omega,List.getElem?_eq_getElem h3,?_⟩;obtain ⟨y1,hy1,w1⟩:=aE p3 (List.getElem?_eq_getElem h3r);rw [List.getElem?_eq_getElem h3] at hy1;cases hy1;have p5:=iu r3 p3;have le1:(pv.eraseIdx r3).length=pv.length - 1:=List.length_eraseIdx_of_lt h3;have le2:(rest.eraseIdx r3).length=rest.length - 1:=List.length_eraseIdx_of_lt h3r;have s4:Same H (upd H1 P (.lst (pv.eraseIdx r3))):=aK s3 hP;have e5:upd H1 P (.lst (pv.eraseIdx r3)) P=some (.lst (pv.eraseIdx r3)):=upd_same;have e6:upd H1 P (.lst (pv.eraseIdx r3)) c=some (.lst cv):=by rw [av ncP]; exact e4
  have k4:∀ t us,H1 t=some (.tup us)->upd H1 P (.lst (pv.eraseIdx r3)) t=some (.tup us):=cx e3;generalize upd H1 P (.lst (pv.eraseIdx r3))=H2 at s4 e5 e6 k4 ⊢;walk_at "rd";refine ⟨⟨_,e6⟩,⟨_,e5⟩,mul2,_,.inl (SqL.of e5),aM (s4.seq hS) (by omega) (by omega) (by omega) (by omega) fun r4 hr4=>?_⟩;have h4:r4 < (pv.eraseIdx r3).length:=by omega
  have h4r:r4 < (rest.eraseIdx r3).length:=by omega
  refine ⟨_,r4,(pv.eraseIdx r3)[r4],rfl,e5,by omega,List.getElem?_eq_getElem h4,by decide,fun t5 ht5=>?_⟩;obtain ⟨y2,hy2,w2⟩:=aE p5 (List.getElem?_eq_getElem h4r);rw [List.getElem?_eq_getElem h4] at hy2;cases hy2;have p6:=iu r4 p5;have s5:Same H (upd H2 P (.lst ((pv.eraseIdx r3).eraseIdx r4))):=aK s4 hP;have e7:upd H2 P (.lst ((pv.eraseIdx r3).eraseIdx r4)) P=some (.lst ((pv.eraseIdx r3).eraseIdx r4)):=upd_same;have e8:upd H2 P (.lst ((pv.eraseIdx r3).eraseIdx r4)) c=some (.lst cv):=by rw [av ncP]; exact e6
  have k5:∀ t us,H2 t=some (.tup us)->upd H2 P (.lst ((pv.eraseIdx r3).eraseIdx r4)) t=some (.tup us):=cx e5;generalize upd H2 P (.lst ((pv.eraseIdx r3).eraseIdx r4))=H3 at s5 e7 e8 k5 ht5 ⊢;have s6:=ah ht5 (.tup [pv[r3],(pv.eraseIdx r3)[r4]]);have e9:=s6 _ _ e8;have kk:∀ t us,H1 t=some (.tup us)->upd (upd H3 t5 (.tup [pv[r3],(pv.eraseIdx r3)[r4]])) c (.lst (cv++[.ref t5])) t=some (.tup us):=fun t us z=>cx e9 _ _ (s6 _ _ (k5 _ _ (k4 _ _ z)))
  have nc5:c≠t5:=fun z=>by rw [<- z,e8] at ht5; cases ht5
  refine ⟨cv,e9,sizeBig (by omega),(rest.eraseIdx r3).eraseIdx r4,(pv.eraseIdx r3).eraseIdx r4,ls++[(rest[r3],(rest.eraseIdx r3)[r4])],cv++[.ref t5],_,_,rfl,aK (s5.trans s6) hc0,?_,jl kk p6,upd_same,?_,?_,?_,by rw [List.length_append,hll]; rfl⟩
  ·rw [av nPc];exact s6 _ _ e7
  ·refine dP (L2.Paired.mapP p4 fun _ _ y=>o6 kk y) ⟨t5,_,_,rfl,cx e9 _ _ upd_same,?_,?_⟩
   ·obtain ⟨ta,ea,ha⟩:=w1;exact ⟨ta,ea,kk _ _ ha⟩
   ·obtain ⟨ta,ea,ha⟩:=w2;exact ⟨ta,ea,kk _ _ ha⟩
  ·refine List.Perm.trans ?_ hperm;unfold endsOf;rw [List.flatMap_append,List.append_assoc];refine List.Perm.append_left _ ?_;show (rest[r3]::(rest.eraseIdx r3)[r4]::(rest.eraseIdx r3).eraseIdx r4).Perm rest;exact ((fe h4r).cons _).trans (fe h3r)
  ·have:((rest.eraseIdx r3).eraseIdx r4).length=(rest.eraseIdx r3).length - 1:=List.length_eraseIdx_of_lt h4r;omega
 ·rintro σ H1 ⟨rest,pv,ls,cv,u5,u6,rfl,s3,e3,p3,e4,p4,hperm,hrl,hll⟩;walk_at "rd";refine q c H1 ls hc0 s3 ⟨cv,e4,p4⟩ ?_ (fun x hx=>hperm.mem_iff.mp (List.mem_append_left _ hx)) (by omega);exact (List.nodup_append.mp (hperm.nodup_iff.mpr hnd)).1
noncomputable abbrev Net:=List Fld × List Named × List Line
def NetAt (H:Hp) (t:Addr) (n:Net):Prop:=∃ a b c,H t=some (.tup [.ref a,.ref b,.ref c])/\Lay H a n.1/\Houses H b n.2.1/\Lines H c n.2.2
theorem NetAt.same {H H':Hp} {t:Addr} {n:Net} (h:NetAt H t n) (s:Same H H'):NetAt H' t n:=by
 obtain ⟨a,b,c,e,h1,h2,h3⟩:=h;exact ⟨a,b,c,s _ _ e,h1.same s,h2.same s,h3.same s⟩
structure HouseOk5 (W S:Nat) (hs:House):Prop where
 nd:(hs.1.map (·.1)).Nodup
 g3:hs.1.length<=8
 rules:∀ x ∈ hs.1,∀ r ∈ x.2,RuleOk W r
 many:∀ x ∈ hs.1,x.2.length<=300
 ways:WaysOk S (hs.1.map (·.1)) hs.2
 w8:hs.2.length<=8
structure NetOk (n:Net):Prop where
 lay:LayOk n.1
 nd:(n.2.1.map (·.1)).Nodup
 low:∀ x ∈ n.2.1,Low x.1/\x.1.length<=1000
 house:∀ x ∈ n.2.1,HouseOk5 (widthL n.1) ((spanG n.1).2 - (spanG n.1).1) x.2
 door:∀ x ∈ n.2.1,∀ g ∈ x.2.1,Low g.1/\g.1.length<=1000
 h100:n.2.1.length<=100
 ends:(endsOf n.2.2).Nodup
 spots:∀ s ∈ endsOf n.2.2,s ∈ spotsOf n.2.1
 l500:n.2.2.length<=500
noncomputable def houseOf (hs:List Named) (n:List Nat):Option House:=(hs.find? fun x=>decide (x.1=n)).map (·.2)
noncomputable def ft (K:Frag):Sp:=fun vs H Q E=>match vs with
 | [.ref t,.str n]=>∃ N:Net,NetAt H t N/\(∀ c ∈ n.cps.toList,c < 16 ^ 8)/\n.cps.toList.length<=1000 /\
   (∀ h,houseOf N.2.1 n.cps.toList=some h->∀ q H',Same H H'->HouseAt H' q h->Q (.ref q) H') /\
   (houseOf N.2.1 n.cps.toList=none->∀ H',Same H H'->E (.ref (xA K "NoHouse")) none H')
 | _=>False
theorem nK (T:Top K mg):CalleeX P w K mg base 1 "house_named" ["net", "name"] (ft K):=by
 refine T.jI.calX fo (by intro vs H Q E h; unfold ft at h; split at h <;> first | rfl | exact h.elim) (fun _ _ _ _ _ _ us hl=>match us,hl with | [_,_],_=>rfl) (fun f cdv A outer s H vs Q E hr h=>?_);unfold ft at h;split at h
 case h_2=>exact h.elim
 refine ⟨_,(ae (aU PassesOwn.leaving rfl (iterE K rfl (aw (ixE K rfl) (qv 0) af (fun _ _=>rfl))) (tupE K rfl rfl (n:=2) (aq (aj (i:=2) fo.nd rfl lc) (aq (aj (i:=3) fo.nd rfl lc) aP))) (ai (aG (aC bf (qv 2) (qv 1)) (ai (ao (qv 3))) aA)))
   (ai (kq rfl jp rfl T.eU.1 T.eU.2 (aa (uN (fF (qs [110,111,32,104,111,117,115,101,32]) (fF (pY (qv 1)) qq))) ad)))),?_⟩
 rename_i p s;obtain ⟨n,rfl⟩:∃ x,s=st x:=⟨_,(aF s).symm⟩;obtain ⟨N,⟨a,b,c,e,_,⟨vs,e0,pr⟩,_⟩,hc,hn,q1,q2⟩:=h;simp only [am] at q1 q2 hc hn;have hl:=pr.length;walk_at "rd";refine ⟨_,_,.inr (SqT.of e),rfl,?_⟩;walk_at "rd";refine .inl ⟨⟨_,SqL.of e0⟩,?_⟩;refine bj (xs:=vs) (fun i σ H'=>∃ u v,σ = [some (.ref p),some (.str (st n)),u,v]/\Same H H'/\∀ x ∈ N.2.1.take i,¬ x.1=n) ⟨none,none,rfl,Same.refl _,fun x hx=>by simp at hx⟩ (fun i σ H' _ ⟨_,_,_,z,_⟩=>SqL.of (z _ _ e0)) ?_ ?_
 ·rintro i x σ H1 hx ⟨u,v,rfl,s1,h1⟩;have hi:i < vs.length:=(List.getElem?_eq_some_iff.mp hx).1;have hil:i < N.2.1.length:=by omega
  obtain ⟨y,hy,t,r,ey,et,hr⟩:=aE pr (List.getElem?_eq_getElem hil);obtain rfl:x=.ref t:=by rw [hy] at hx; rw [<- Option.some.inj hx,ey]
  refine ⟨t,[_,_],rfl,SqT.of (s1 _ _ et),rfl,_,[_],rfl,_,[],rfl,rfl,?_⟩;walk_at "rd";refine ite2 (fun g=>?_) fun g=>⟨some (tx N.2.1[i].1),some (.ref r),rfl,s1,fun y hy=>?_⟩
  ·refine q1 N.2.1[i].2 ?_ r H1 s1 (hr.same s1);unfold houseOf;rw [show N.2.1.find? (fun g=>decide (g.1=n))=some N.2.1[i] from List.find?_eq_some_iff_append.mpr ⟨by simpa using g,N.2.1.take i,N.2.1.drop (i+1),by simp,fun y hy=>by simpa using h1 y hy⟩];rfl
  ·rw [List.take_add_one,List.getElem?_eq_getElem hil] at hy;rcases List.mem_append.mp hy with hy | hy
   ·exact h1 y hy
   ·have e:y=N.2.1[i]:=by simpa using hy
    rw [e];exact g
 ·rintro σ H1 ⟨u,v,rfl,s1,h1⟩;walk_at "rd";have e:houseOf N.2.1 n=none:=by
   unfold houseOf;rw [List.find?_eq_none.mpr fun y hy=>by simpa using h1 y (by rw [<- hl,List.take_length]; exact hy)];rfl
  have hz:(st n).length=n.length:=fc n;refine ⟨by rw [fc]; exact Nat.le_of_lt (sizeBig (by decide)),hc,by omega,fun z hzz=>⟨?_,fun _=>⟨by decide,q2 e H1 s1⟩⟩⟩;rw [fc];exact Nat.le_of_lt (sizeBig (by simp only [List.length_cons,List.length_nil]; omega))
noncomputable def fR (K:Frag):Sp:=fun vs H Q E=>match vs with
 | [.ref t,.str n,.str d]=>∃ N:Net,NetAt H t N/\(∀ c ∈ n.cps.toList,c < 16 ^ 8)/\n.cps.toList.length<=1000/\(∀ c ∈ d.cps.toList,c < 16 ^ 8)/\d.cps.toList.length<=1000 /\
   (∀ h,houseOf N.2.1 n.cps.toList=some h->(∀ rs,gateOf h.1 d.cps.toList=some rs->∀ H',Same H H'->Q .non H')/\(gateOf h.1 d.cps.toList=none->∀ H',Same H H'->E (.ref (xA K "NoDoor")) none H')) /\
   (houseOf N.2.1 n.cps.toList=none->∀ H',Same H H'->E (.ref (xA K "NoHouse")) none H')
 | _=>False
theorem n9 (T:Top K mg):CalleeX P w K mg base 2 "check_spot" ["net", "house", "door"] (fR K):=by
 refine T.kP.calX oF (by intro vs H Q E h; unfold fR at h; split at h <;> first | rfl | exact h.elim) (fun _ _ _ _ _ _ us hl=>match us,hl with | [_,_,_],_=>rfl) (fun f cdv A outer s H vs Q E hr h=>?_);unfold fR at h;split at h
 case h_2=>exact h.elim
 refine ⟨_,(ai (cF (i5 (jy T) hr.m cW rfl (aa (i5 (nK T) hr.m cW rfl (aa (qv 0) (aa (qv 1) ad))) (aa (qv 2) ad))))),?_⟩;rename_i t n d;obtain ⟨N,hN,h1,h2,h3,h4,q1,q2⟩:=h;walk_at "rd";refine ⟨N,hN,h1,h2,fun h eh q H1 s1 hH=>?_,q2⟩;obtain ⟨q3,q4⟩:=q1 h eh;walk_at "rd";exact ⟨h,hH,h3,h4,fun rs ers p H2 s2 _=>q3 rs ers H2 (s1.trans s2),fun en H2 s2=>q4 en H2 (s1.trans s2)⟩
theorem vm (ls:List Line) (i:Nat) (h:i < ls.length):endsOf (ls.take (i+1))=endsOf (ls.take i)++[ls[i].1,ls[i].2]:=by
 unfold endsOf;rw [List.take_add_one,List.getElem?_eq_getElem h,Option.toList_some,List.flatMap_append];simp
theorem xr {ls:List Line} {i:Nat} (h:i < ls.length):endsOf ls=endsOf (ls.take i)++([ls[i].1,ls[i].2]++endsOf (ls.drop (i+1))):=by
 conv=>lhs; rw [<- List.take_append_drop (i+1) ls]
 rw [show endsOf (ls.take (i+1)++ls.drop (i+1))=endsOf (ls.take (i+1))++endsOf (ls.drop (i+1)) by unfold endsOf; rw [List.flatMap_append],vm ls i h,List.append_assoc]
def NamedF (D:Addr) (H:Hp) (x:Named) (v:V):Prop:=∃ t q g w,v=.ref t/\H t=some (.tup [tx x.1,.ref q])/\HouseN (fun r=>r≠D) H q g w x.2/\g≠D/\w≠D
theorem re {D:Addr} {H H':Hp} {acc:List V} (hd:H D=some (.lst acc)) (k:∀ b o,b≠D->H b=some o->H' b=some o) {x:Named} {v:V} (h:NamedF D H x v):NamedF D H' x v:=by
 obtain ⟨t,q,g,w,e,et,hN,ng,nw⟩:=h;have tp:∀ t ts,H t=some (.tup ts)->H' t=some (.tup ts):=fun t ts z=>k _ _ (fun y=>by rw [y,hd] at z; cases z) z
 obtain ⟨vs,eg,pg⟩:=hN.gates;obtain ⟨us,ew,pw⟩:=hN.ways;refine ⟨t,q,g,w,e,tp _ _ et,⟨tp _ _ hN.tup,hN.ne,⟨vs,k _ _ ng eg,L2.Paired.mapP pg ?_⟩,⟨us,k _ _ nw ew,jl tp pw⟩⟩,ng,nw⟩;rintro y v ⟨t',r,e',n,h1,⟨rv,er,pr⟩⟩;exact ⟨t',r,e',n,tp _ _ h1,⟨rv,k _ _ n.2.2 er,jU tp pr⟩⟩
theorem vG {D:Addr} {H:Hp} {x:Named} {v:V} (h:NamedF D H x v):NamedAt H x v:=by
 obtain ⟨t,q,g,w,e,et,hN,_,_⟩:=h;exact ⟨t,q,e,et,hN.at⟩
theorem nG {α β:Type} {F:β -> V->Prop} {P:α -> β -> Prop}:∀ {l:List α} {vs:List V},Paired (fun a v=>∃ b,P a b/\F b v) l vs->∃ bs:List β,Paired F bs vs/\Paired P l bs
 | _,_,.nil=>⟨[],.nil,.nil⟩
 | _,_,.cons ⟨b,h1,h2⟩ p=>by
  obtain ⟨bs,h3,h4⟩:=nG p;exact ⟨b::bs,.cons h2 h3,.cons h1 h4⟩
theorem oN {α β γ:Type} {P:α -> β -> Prop} {f:α -> γ} {g:β -> γ} (h:∀ a b,P a b->g b=f a):∀ {l:List α} {bs:List β},Paired P l bs->bs.map g=l.map f
 | _,_,.nil=>rfl
 | _,_,.cons r p=>by rw [List.map_cons,List.map_cons,h _ _ r,oN h p]
theorem jO {α β:Type} {P:α -> β -> Prop}:∀ {l:List α} {bs:List β},Paired P l bs->∀ b ∈ bs,∃ a,P a b
 | _,_,.nil,b,hb=>by simp at hb
 | _,_,.cons r p,b,hb=>by
  rcases List.mem_cons.mp hb with rfl | hb
  ·exact ⟨_,r⟩
  ·exact jO p b hb
theorem uj {α:Type} (d:α) (l:List α):(List.range l.length).map (fun i=>l.getD i d)=l:=by
 apply List.ext_getElem?;intro i;by_cases h:i < l.length
 ·rw [List.getElem?_map,List.getElem?_range h,List.getElem?_eq_getElem h];simp [List.getD_eq_getElem?_getD,List.getElem?_eq_getElem h]
 ·rw [List.getElem?_eq_none (by simp; omega),List.getElem?_eq_none (by omega)]
theorem rS:∀ {hs:List Named},(hs.map (·.1)).Nodup->(∀ x ∈ hs,(x.2.1.map (·.1)).Nodup)->(spotsOf hs).Nodup
 | [],_,_=>by unfold spotsOf; simp
 | x::hs,nd,hd=>by
  rw [List.map_cons,List.nodup_cons] at nd;have ih:=rS nd.2 fun y hy=>hd y (List.mem_cons_of_mem _ hy)
  have e:spotsOf (x::hs)=(x.2.1.map fun g=>(x.1,g.1))++spotsOf hs:=by unfold spotsOf; rw [List.flatMap_cons]
  rw [e,List.nodup_append];refine ⟨?_,ih,fun a ha b hb z=>?_⟩
  ·have:=hd x List.mem_cons_self;have e2:(x.2.1.map fun g=>((x.1,g.1):Way))=(x.2.1.map (·.1)).map fun n=>(x.1,n):=by rw [List.map_map]; rfl
   rw [e2];exact List.pairwise_map.mpr (List.Pairwise.imp (fun {a b} h z=>h (Prod.mk.inj z).2) this)
  ·obtain ⟨g,_,rfl⟩:=List.mem_map.mp ha;unfold spotsOf at hb;obtain ⟨y,hy,hb⟩:=List.mem_flatMap.mp hb;obtain ⟨g2,_,rfl⟩:=List.mem_map.mp hb;exact nd.1 (List.mem_map.mpr ⟨y,hy,(Prod.mk.inj z).1.symm⟩)
theorem rT {W S:Nat} {pl:List (List Nat)} {h:House} (k:HouseOk W S pl h):HouseOk5 W S h:=⟨k.nd,Nat.le_trans k.g3 (by decide),k.rules,k.many,k.ways,k.w8⟩
noncomputable def nohouseT:List Nat:=[110,111,104,111,117,115,101]
noncomputable def nowhereT:List Nat:=[110,111,119,104,101,114,101]
structure NetFew (m:Nat) (N:Net):Prop where
 few:N.2.1.length<=m
 doors:∀ x ∈ N.2.1,x.2.1.length<=5
 free:¬ (nohouseT ∈ N.2.1.map (·.1)/\nowhereT ∈ N.2.1.map (·.1))
theorem sY {n:Nat} {ls:List (List Nat)} (N:Names n ls):¬ (nohouseT ∈ ls/\nowhereT ∈ ls):=by
 rintro ⟨h1,h2⟩;rcases N.kind with ⟨c,h⟩ | ⟨u,v,h⟩
 ·obtain ⟨k,e⟩:=h _ h1;have a:=List.eq_of_mem_replicate (a:=c) (n:=k) (b:=110) (by rw [<- e]; decide);have b:=List.eq_of_mem_replicate (a:=c) (n:=k) (b:=111) (by rw [<- e]; decide);omega
 ·obtain ⟨c,e⟩:=h _ h1;obtain ⟨d,e2⟩:=h _ h2;rw [List.append_assoc] at e e2;have t1:=congrArg (List.take u.length) e;have t2:=congrArg (List.take u.length) e2;rw [List.take_left' rfl] at t1 t2;have d1:nohouseT.drop (u.length+1)=v:=by rw [e,<- List.append_assoc,List.drop_left' (by simp)]
  have d2:nowhereT.drop (u.length+1)=v:=by rw [e2,<- List.append_assoc,List.drop_left' (by simp)]
  have ht:=t1.trans t2.symm;have hd:=d1.trans d2.symm;have hl:u.length < 7:=by
   have:=congrArg List.length e;simp [nohouseT] at this;omega
  generalize u.length=k at ht hd hl;have:k=0\/k=1\/k=2\/k=3\/k=4\/k=5\/k=6:=by omega
  rcases this with rfl | rfl | rfl | rfl | rfl | rfl | rfl <;> first | exact absurd ht (by decide) | exact absurd hd (by decide)
noncomputable def i0 (K:Frag):Sp:=fun vs H Q _=>match vs with
 | [.ref a,.ref t,.int m]=>∃ (ns:List Int) (ps:List Nat) (M:Nat),SqL K H a (ns.map V.int)/\SqL K H t (ps.map nV)/\ToldOk (wF ns) ps/\m=(M:Int)/\1<=M/\M<=8 /\
   ∀ (q:Addr) (H':Hp) (N:Net),H q=none->Same H H'->NetAt H' q N->NetOk N->NetFew M N->N.2.1.map (·.1)=(List.range N.2.1.length).map (nameF ns 18)->(∀ x ∈ N.2.1,x.2.1.length<=3/\∀ g ∈ x.2.1,∀ r ∈ g.2,OverL ps r.2.2)->widthL N.1=wF ns->Q (.ref q) H'
 | _=>False
theorem rC (T:Top K mg):Callee P w K mg base 4 "_law_net" ["_law_script", "_law_told_here", "_law_most"] (i0 K):=by
 refine T.nQ.cal cV (by intro vs H Q E h; unfold i0 at h; split at h <;> first | rfl | exact h.elim) (fun _ _ _ _ _ _ us hl=>match us,hl with | [_,_,_],_=>rfl) (fun f cdv A outer s H vs Q E hr h=>?_);unfold i0 at h;split at h
 case h_2=>exact h.elim
 refine ⟨_,(ae (ak (i:=3) cV.nd rfl lc (au (iT T) hr.m rfl (aa (qv 0) ad)))
   (ae (ak (i:=4) cV.nd rfl lc (au (cR T) hr.m rfl (aa (qv 0) (aa af (aa af ad)))))
   (ae (ak (i:=5) cV.nd rfl lc (ar ap af (au (al T) hr.m rfl (aa (qv 0) (aa af (aa (qv 2) ad))))))
   (ae (ak (i:=6) cV.nd rfl lc (au (cR T) hr.m rfl (aa (qv 0) (aa af (aa (qv 5) ad)))))
   (ae (g8 (i:=7) (nt:=1) (fi:=[6,0,1,3,4]) (N':=["_law_h", "_law_names_here", "_law_script", "_law_told_here", "_law_layout_here", "_law_pool"]) cV.nd rfl lc rfl (cscope rfl (by decide +kernel)) (cnames (N:=["_law_script", "_law_told_here", "_law_most", "_law_layout_here", "_law_pool", "_law_many", "_law_names_here", "_law_houses"]) (sc:=defScope io) rfl rfl (by decide +kernel)) (bw (by decide)) (bB rfl T.b7 (qv 5)) (fun _ _ _ _ _=>(aj (i:=0) (by show (["_law_h", "_law_names_here", "_law_script", "_law_told_here", "_law_layout_here", "_law_pool"]:List Str).Nodup; decide +kernel) rfl lc)) (fun _ _ _ _ _=>aZ) (fun _ _ _ _ _=>(aD (aa (aw (ixE K rfl) (qv 1) (qv 0) (fun _ _=>rfl)) (aa (au (ol T) hr.m rfl (aa (qv 2) (aa (ar ap af (ar cD af (qv 0))) (aa (qv 3) (aa (qv 4) (aa (qv 5) ad)))))) ad)))))
   (ai (ao (aD (aa (qv 3) (aa (qv 7) (aa (au (oq T) hr.m rfl (aa (qv 0) (aa (au (jA T) hr.m rfl (aa (qv 7) ad)) ad))) ad))))))))))),?_⟩
 rename_i a t m;obtain ⟨ns,ps,M,hS,hT,tok,rfl,hM1,hM8,q⟩:=h;walk_at "rd";refine ⟨ns,hS,fun p H1 ls hp s1 hL ok hwf=>?_⟩;rw [<- hwf] at tok;walk_at "rd";refine ⟨ns,22,5,s1.seq hS,rfl,by decide,rfl,by decide,fun pn H2 pl hpn s2 e2 N=>?_⟩;have s12:=s1.trans s2;walk_at "rd";refine aM (s12.seq hS) (by decide) (by decide) (by omega) (by omega) fun r1 hr1=>?_
 walk_at "rd";refine ⟨ns,18,1+r1,s12.seq hS,rfl,by decide,by omega,by omega,fun pm H3 nm hpm s3 e3 N2=>?_⟩;have s13:=s12.trans s3;have e23:=s3 _ _ e2;have hL3:=hL.same (s2.trans s3);walk_at "rd";refine ⟨by omega,by omega,fun D hD=>?_⟩;rw [show (1+(r1:Int)).toNat=1+r1 by omega];have hnl:=N2.len;refine ly (List.range (1+r1)) (fun i v H'=>∃ x:Named,(x.1=nm.getD i []/\HouseOk (widthL ls) ((spanG ls).2 - (spanG ls).1) pl x.2/\∀ g ∈ x.2.1,∀ r ∈ g.2,OverL ps r.2.2)/\NamedF D H' x v) hD (by simp; omega) (fun i H4 hi s4=>show i < 1+r1 by simpa using hi) (fun H4 s4=>show 1+r1<=_ by simp) ?_ ?_ ?_ ?_
 ·rintro i H4 v H5 _ ⟨rfl,_⟩;exact Same.refl _
 ·rintro i v H4 H5 acc hd k ⟨x,h1,h2⟩;exact ⟨x,h1,re hd k h2⟩
 ·rintro i x v H4 H5 out non hx s4 nD ⟨rfl,rfl⟩ ho;obtain ⟨hi,hxe⟩:=List.getElem?_eq_some_iff.mp hx;rw [List.getElem_range] at hxe;subst hxe;rw [List.length_range] at hi;have s14:=s13.trans s4;walk_at "rd";refine ⟨_,tx nm[i],.inl (SqL.of (s4 _ _ e3)),be (by rw [List.getElem?_map,List.getElem?_eq_getElem (by omega)]; rfl),?_⟩;refine ⟨.inl ⟨by decide,by decide⟩,ns,70+50*i,ps,ls,pl,s14.seq hS,by omega,by omega,s14.seq hT,tok,hL3.same s4,ok,SqL.of (s4 _ _ e23),N.toNames,fun q' g w H5 hs hq' hg hw s5 hN hok hw4 hov=>⟨by decide,fun t6 ht6=>?_⟩⟩;have s6:=ah ht6 (.tup [tx nm[i],.ref q']);refine ho _ _ (s5.trans s6) ⟨(nm[i],hs),⟨?_,hok,hov⟩,t6,q',g,w,rfl,upd_same,?_,nD g hg,nD w hw⟩
  ·rw [List.getD_eq_getElem?_getD,List.getElem?_eq_getElem (by omega)];rfl
  ·have hN6:=hN.same s6;obtain ⟨vs6,eg6,pg6⟩:=hN6.gates;exact ⟨hN6.tup,hN6.ne,⟨vs6,eg6,L2.Paired.mapP pg6 fun _ _ ⟨t',r,e',n,h1,h2⟩=>⟨t',r,e',⟨n.1,n.2.1,nD r n.2.2⟩,h1,h2⟩⟩,hN6.ways⟩
 ·intro H4 vs s4 e4 p4;obtain ⟨hs,pf,pp⟩:=nG p4;have hnm:hs.map (·.1)=nm:=by
   have:=oN (f:=fun i=>nm.getD i []) (g:=fun x:Named=>x.1) (fun i b h=>h.1) pp;rw [this,<- hnl,uj]
  have hhok:∀ x ∈ hs,HouseOk (widthL ls) ((spanG ls).2 - (spanG ls).1) pl x.2:=fun x hx=>by
   obtain ⟨i,h⟩:=jO pp x hx;exact h.2.1
  have hhv:∀ x ∈ hs,∀ g ∈ x.2.1,∀ r ∈ g.2,OverL ps r.2.2:=fun x hx=>by
   obtain ⟨i,h⟩:=jO pp x hx;exact h.2.2
  have hhl:hs.length=1+r1:=by have:=congrArg List.length hnm; rw [List.length_map] at this; omega
  have hH4:Houses H4 D hs:=⟨vs,e4,L2.Paired.mapP pf fun _ _ z=>vG z⟩;have s14:=s13.trans s4;have snd:=rS (hs:=hs) (by rw [hnm]; exact N2.nd) fun x hx=>(hhok x hx).nd
  have slen:=lu (hs:=hs) (c:=3) fun x hx=>(hhok x hx).g3
  walk_at "rd";refine ⟨hs,hH4,by omega,fun x hx=>Nat.le_trans (hhok x hx).g3 (by decide),fun sq H5 hsq s5 hWs=>?_⟩;have s15:=s14.trans s5;walk_at "rd";refine ⟨ns,spotsOf hs,s15.seq hS,hWs,by omega,snd,fun c H6 lns hc s6 hLn en1 en2 en3=>⟨by decide,fun q7 hq7=>?_⟩⟩;have s7:=ah hq7 (.tup [V.ref p,V.ref D,V.ref c]);have s57:=s5.trans (s6.trans s7);refine q q7 _ (ls,hs,lns) ((s15.trans s6).free hq7) (s14.trans s57) ⟨p,D,c,upd_same,hL3.same (s4.trans s57),hH4.same s57,hLn.same s7⟩ ⟨ok,by rw [hnm]; exact N2.nd,fun x hx=>?_,fun x hx=>rT (hhok x hx),fun x hx g hg=>?_,by show hs.length<=100; omega,en1,en2,en3⟩ ⟨by show hs.length<=M; omega,fun x hx=>Nat.le_trans (hhok x hx).g3 (by decide),by show ¬ (nohouseT ∈ hs.map (·.1)/\nowhereT ∈ hs.map (·.1)); rw [hnm]; exact sY N2.toNames⟩ (by show hs.map (·.1)=(List.range hs.length).map _; rw [hnm,N2.eq,hhl]) (fun x hx=>⟨(hhok x hx).g3,hhv x hx⟩) hwf
  ·have hm:x.1 ∈ nm:=by rw [<- hnm]; exact List.mem_map.mpr ⟨x,hx,rfl⟩
   exact ⟨N2.low _ hm,Nat.le_trans (N2.short _ hm).2 (by decide)⟩
  ·have hm:=(hhok x hx).door g hg;exact ⟨N.low _ hm,Nat.le_trans (N.short _ hm).2 (by decide)⟩
noncomputable def namedD (x:Named):D:=.t [.f (tx x.1),houseD x.2]
noncomputable def lineD (x:Line):D:=.t [wayD x.1,wayD x.2]
noncomputable def netD (N:Net):D:=.t [layD N.1,.l (N.2.1.map namedD),.l (N.2.2.map lineD)]
theorem zD {H:Hp} {x:Line} {v:V} (n:Nat) (h:LineAt H x v):Th H (n+2) v (lineD x):=by
 obtain ⟨t,u1,u2,rfl,e,h1,h2⟩:=h;exact og e (by simp) (.cons (tq n h1) (.cons (tq n h2) .nil))
theorem vZ {H:Hp} {x:Line} {v:V} {n:Nat} (h:Th H (n+2) v (lineD x)):LineAt H x v:=by
 obtain ⟨a,vs,rfl,e,p⟩:=rN h;cases p with
 | cons r p=>cases p with
  | cons r2 p=>
   cases p;exact ⟨a,_,_,rfl,e,mD r,mD r2⟩
theorem tI {H:Hp} {x:Named} {v:V} {n:Nat} (h:Th H (n+6) v (namedD x)):NamedAt H x v:=by
 obtain ⟨a,vs,rfl,e,p⟩:=rN h;cases p with
 | cons r p=>cases p with
  | cons r2 p=>
   cases p;obtain ⟨q,rfl,hq⟩:=uz r2;rw [jB r] at e;exact ⟨a,q,rfl,e,hq⟩
theorem wn {H:Hp} {p:Addr} {hs:List Named} (h:Houses H p hs) (hl:hs.length<=1000) (h1:∀ x ∈ hs,x.2.1.length<=1000/\x.2.2.length<=1000/\∀ g ∈ x.2.1,g.2.length<=1000):Th H 7 (.ref p) (.l (hs.map namedD)):=by
 obtain ⟨vs,e,pr⟩:=h;refine ux e (by rw [<- pr.length]; exact hl) ?_;clear e hl
 induction pr with
 | nil=>exact .nil
 | cons r p ih=>
  refine .cons ?_ (ih fun x hx=>h1 x (List.mem_cons_of_mem _ hx));obtain ⟨t',q,rfl,e,hq⟩:=r;have:=h1 _ List.mem_cons_self;exact og e (by simp) (.cons (dH 5 rfl) (.cons (wO 0 hq this.1 this.2.1 this.2.2) .nil))
theorem wN {H:Hp} {p:Addr} {ls:List Line} (h:Lines H p ls) (hl:ls.length<=1000):Th H 7 (.ref p) (.l (ls.map lineD)):=by
 obtain ⟨vs,e,pr⟩:=h;exact ux e (by rw [<- pr.length]; exact hl) (ck (fun x v z=>zD 4 z) pr)
theorem AQ {H:Hp} {q:Addr} {N:Net} (h:NetAt H q N) (ok:NetOk N):Th H 8 (.ref q) (netD N):=by
 obtain ⟨a,b,c,e,h1,h2,h3⟩:=h;have:=ok.lay.len;have:=ok.h100;have:=ok.l500;refine og e (by simp) (.cons (AM 5 h1 (by omega)) (.cons (wn h2 (by omega) fun x hx=>?_) (.cons (wN h3 (by omega)) .nil)));have k:=ok.house x hx;exact ⟨Nat.le_trans k.g3 (by decide),Nat.le_trans k.w8 (by decide),fun g hg=>Nat.le_trans (k.many g hg) (by decide)⟩
theorem wU {H:Hp} {v:V} {N:Net} (h:Th H 8 v (netD N)):∃ q,v=.ref q/\NetAt H q N:=by
 obtain ⟨a,vs,rfl,e,p⟩:=rN h;cases p with
 | cons r p=>cases p with
  | cons r2 p=>cases p with
   | cons r3 p=>
    cases p;obtain ⟨p1,rfl,k1⟩:=wY r;obtain ⟨p2,v2,rfl,e2,k2⟩:=vH r2;obtain ⟨p3,v3,rfl,e3,k3⟩:=vH r3;exact ⟨a,rfl,p1,p2,p3,e,k1,⟨v2,e2,cH (F:=NamedAt H) (fun x v z=>tI z) k2⟩,⟨v3,e3,cH (F:=LineAt H) (fun x v z=>vZ z) k3⟩⟩
noncomputable def keyW (x:Way):List Key:=[.inr (st x.1),.inr (st x.2)]
theorem rX {x y:Way} (h:keyW x=keyW y):x=y:=by
 obtain ⟨a,b⟩:=x;obtain ⟨c,d⟩:=y;have h1:st a=st c:=by injection h with h1 _; injection h1
 have h2:st b=st d:=by injection h with _ h2; injection h2 with h2 _; injection h2
 rw [dh.mp h1,dh.mp h2]
noncomputable def beyondL:List Line->Way->Option Way
 | [],_=>none
 | (a,b)::ls,x=>if a=x then some b else if b=x then some a else beyondL ls x
theorem iS:∀ {ls:List Line} {x:Way},x ∉ endsOf ls->beyondL ls x=none
 | [],_,_=>rfl
 | (a,b)::ls,x,h=>by
  have e:endsOf ((a,b)::ls)=a::b::endsOf ls:=by unfold endsOf; rw [List.flatMap_cons]; rfl
  rw [e] at h;simp only [List.mem_cons,not_or] at h;unfold beyondL;rw [if_neg (fun z=>h.1 z.symm),if_neg (fun z=>h.2.1 z.symm)];exact iS h.2.2
theorem lB:∀ (ls:List Line) (a b x:Way),beyondL (ls++[(a,b)]) x=(beyondL ls x).or (if a=x then some b else if b=x then some a else none)
 | [],a,b,x=>by simp [beyondL]
 | (c,d)::ls,a,b,x=>by
  have ih:=lB ls a b x;show beyondL ((c,d)::(ls++[(a,b)])) x=_;unfold beyondL;by_cases h1:c=x
  ·rw [if_pos h1,if_pos h1]; rfl
  ·rw [if_neg h1,if_neg h1];by_cases h2:d=x
   ·rw [if_pos h2,if_pos h2]; rfl
   ·rw [if_neg h2,if_neg h2];exact ih
def OptW (H:Hp) (o:Option Way) (v:Option V):Prop:=match o with
 | none=>v=none
 | some y=>∃ u,v=some u/\WayAt H y u
theorem OptW.keep {H H':Hp} (k:∀ t vs,H t=some (.tup vs)->H' t=some (.tup vs)) {o:Option Way} {v:Option V} (h:OptW H o v):OptW H' o v:=by
 cases o with
 | none=>exact h
 | some y=>
  obtain ⟨u,e,t,e2,h2⟩:=h;exact ⟨u,e,t,e2,k _ _ h2⟩
def EndsAt (H:Hp) (d:Addr) (ls:List Line):Prop:=∃ kvs:List (List Key × V),H d=some (.dT kvs)/\∀ x,OptW H (beyondL ls x) (valV kvs (keyW x))
theorem EndsAt.same {H H':Hp} {d:Addr} {ls:List Line} (h:EndsAt H d ls) (s:Same H H'):EndsAt H' d ls:=by
 obtain ⟨kvs,e,h⟩:=h;exact ⟨kvs,s _ _ e,fun x=>(h x).keep fun _ _ z=>s _ _ z⟩
noncomputable def gO (K:Frag):Sp:=fun vs H Q _=>match vs with
 | [.ref p]=>∃ N:Net,NetAt H p N/\N.2.2.length<=500/\(endsOf N.2.2).Nodup/\∀ d H',H d=none->Same H H'->EndsAt H' d N.2.2->Q (.ref d) H'
 | _=>False
theorem pV (T:Top K mg):Callee P w K mg base 1 "line_ends" ["net"] (gO K):=by
 refine T.lP.cal eK (by intro vs H Q E h; unfold gO at h; split at h <;> first | rfl | exact h.elim) (fun _ _ _ _ _ _ us hl=>match us,hl with | [_],_=>rfl) (fun f cdv A outer s H vs Q E hr h=>?_);unfold gO at h;split at h
 case h_2=>exact h.elim
 refine ⟨_,(ae (ak (i:=1) eK.nd rfl lc sw)
   (ae (aU PassesOwn.never rfl (iterE K rfl (aw (ixE K rfl) (qv 0) af (fun _ _=>rfl))) (tupE K rfl rfl (n:=2) (aq (aj (i:=2) eK.nd rfl lc) (aq (aj (i:=3) eK.nd rfl lc) aP))) (ae (qj (mR hr) (qv 1) (qv 2) (qv 3))
   (ai (qj (mR hr) (qv 1) (qv 3) (qv 2)))))
   (ai (ao (qv 1))))),?_⟩
 rename_i p;obtain ⟨⟨ls,hs,lns⟩,⟨pa,pb,pc,eN,_,_,⟨vs,e0,pr⟩⟩,hn,hnd,q⟩:=h;dsimp only at pr hn hnd q;have hl:=pr.length;walk_at "rd";intro d hd;have s1:=ah hd (.dT []);refine ⟨_,_,.inr (SqT.of (s1 _ _ eN)),rfl,?_⟩;walk_at "rd";refine .inl ⟨⟨_,SqL.of (s1 _ _ e0)⟩,?_⟩;refine bj (xs:=vs) (fun i σ H'=>∃ u v kvs,σ = [some (.ref p),some (.ref d),u,v]/\Same H H'/\H' d=some (.dT kvs)/\kvs.length<=2*i/\∀ x,OptW H' (beyondL (lns.take i) x) (valV kvs (keyW x))) ⟨none,none,[],rfl,s1,upd_same,Nat.le_refl _,fun x=>rfl⟩ (fun i σ H' _ ⟨_,_,_,_,z,_⟩=>SqL.of (z _ _ e0)) ?_ ?_
 ·rintro i x σ H1 hx ⟨u,v,kvs,rfl,s2,ed,hk,hv⟩;have hi:i < vs.length:=(List.getElem?_eq_some_iff.mp hx).1;have hil:i < lns.length:=by omega
  obtain ⟨y,hy,t,u1,u2,ey,et,⟨t1,rfl,h1⟩,⟨t2,rfl,h2⟩⟩:=aE pr (List.getElem?_eq_getElem hil);obtain rfl:x=.ref t:=by rw [hy] at hx; rw [<- Option.some.inj hx,ey]
  refine ⟨t,[_,_],rfl,SqT.of (s2 _ _ et),rfl,_,[_],rfl,_,[],rfl,rfl,?_⟩;walk_at "rd";have h1':=s2 _ _ h1;have h2':=s2 _ _ h2;generalize ea:lns[i].1=a at *;generalize eb:lns[i].2=b at *;have kd:∀ {H:Hp} {k k':List (List Key × V)},H d=some (.dT k)->∀ t ts,H t=some (.tup ts)->upd H d (.dT k') t=some (.tup ts):=fun e t ts z=>by
   rw [av (fun y=>by rw [y,e] at z; cases z)];exact z
  have g1:DPut H1 d (.ref t1) (.ref t2) (upd H1 d (.dT (putK kvs (keyW a) (.ref t2)))):=DPut.t (k:=keyW a) ed h1' (sizeBig (by omega));have lp1:=fH kvs (keyW a) (.ref t2);have ed2:upd H1 d (.dT (putK kvs (keyW a) (.ref t2))) d=some (.dT (putK kvs (keyW a) (.ref t2))):=upd_same;have g2:=DPut.t (v:=.ref t1) (k:=keyW b) ed2 (kd ed _ _ h2') (sizeBig (by omega));have lp2:=fH (putK kvs (keyW a) (.ref t2)) (keyW b) (.ref t1);refine ⟨_,g1,_,g2,_,_,putK (putK kvs (keyW a) (.ref t2)) (keyW b) (.ref t1),rfl,aK (aK s2 hd) hd,upd_same,by omega,fun x=>?_⟩;have kk:∀ t ts,H1 t=some (.tup ts)->upd (upd H1 d (.dT (putK kvs (keyW a) (.ref t2)))) d (.dT (putK (putK kvs (keyW a) (.ref t2)) (keyW b) (.ref t1))) t=some (.tup ts):=fun t ts z=>kd ed2 _ _ (kd ed _ _ z)
  have hends:=xr hil;rw [hends,ea,eb] at hnd;obtain ⟨_,n2,n3⟩:=List.nodup_append.mp hnd;have na:a ∉ endsOf (lns.take i):=fun z=>n3 a z a (by simp) rfl
  have nb:b ∉ endsOf (lns.take i):=fun z=>n3 b z b (by simp) rfl
  have nab:a≠b:=fun z=>by
   have:=List.nodup_cons.mp n2;exact this.1 (by rw [z]; simp)
  rw [rj,rj,List.take_add_one,List.getElem?_eq_getElem hil,Option.toList_some,show lns[i]=(a,b) by rw [<- ea,<- eb],lB];by_cases c1:x=b
  ·subst c1;rw [if_pos rfl,iS nb,if_neg nab,if_pos rfl];exact ⟨_,rfl,t1,rfl,kk _ _ h1'⟩
  ·rw [if_neg (fun z=>c1 (rX z))];by_cases c2:x=a
   ·subst c2;rw [if_pos rfl,iS na,if_pos rfl];exact ⟨_,rfl,t2,rfl,kk _ _ h2'⟩
   ·rw [if_neg (fun z=>c2 (rX z)),if_neg (fun z=>c2 z.symm),if_neg (fun z=>c1 z.symm),Option.or_none];exact (hv x).keep kk
 ·rintro σ H1 ⟨u,v,kvs,rfl,s2,ed,hk,hv⟩;walk_at "rd";rw [<- hl,List.take_length] at hv;exact q d H1 hd s2 ⟨kvs,ed,hv⟩
def OptV (H:Hp) (o:Option Way) (v:V):Prop:=match o with
 | none=>v=.non
 | some y=>WayAt H y v
theorem uO (x y:Way):eqD (wayD x) (wayD y)=decide (x=y):=by
 have txs:∀ x y:List Nat,eqV (tx x) (tx y)=decide (x=y):=fun x y=>by
  show (st x == st y)=_;rw [Bool.eq_iff_iff,beq_iff_eq,dh,decide_eq_true_eq]
 unfold wayD;simp only [eqD,eqDs,Bool.and_true,txs];rw [Bool.eq_iff_iff];simp [Prod.ext_iff]
theorem ke {H:Hp} {x:Way} {v:V} (h:WayAt H x v):Deep K H 1 v (wayD x):=by
 obtain ⟨t,rfl,e⟩:=h;exact .inr (.inr ⟨t,_,_,rfl,rfl,SqT.of e,.cons ⟨rfl,rfl⟩ (.cons ⟨rfl,rfl⟩ .nil)⟩)
theorem sj (y:Line) (ls:List Line) (x:Way):beyondL (y::ls) x=if y.1=x then some y.2 else if y.2=x then some y.1 else beyondL ls x:=rfl
noncomputable def c6 (K:Frag):Sp:=fun vs H Q _=>match vs with
 | [.ref p,.ref t]=>∃ (ls:List Line) (x:Way),Lines H p ls/\WayAt H x (.ref t)/\∀ v H',Same H H'->OptV H' (beyondL ls x) v->Q v H'
 | _=>False
theorem nr (T:Top K mg):Callee P w K mg base 1 "_law_beyond" ["_law_lines_here", "_law_spot"] (c6 K):=by
 refine T.jH.cal eZ (by intro vs H Q E h; unfold c6 at h; split at h <;> first | rfl | exact h.elim) (fun _ _ _ _ _ _ us hl=>match us,hl with | [_,_],_=>rfl) (fun f cdv A outer s H vs Q E hr h=>?_);unfold c6 at h;split at h
 case h_2=>exact h.elim
 refine ⟨_,(ae (aU PassesOwn.never rfl (iterE K rfl (qv 0)) (tupE K rfl rfl (n:=2) (aq (aj (i:=2) eZ.nd rfl lc) (aq (aj (i:=3) eZ.nd rfl lc) aP))) (ae (aG (aC (eqDE K rfl hr) (qv 2) (qv 1)) (ai (ao (qv 3))) aA)
   (ai (aG (aC (eqDE K rfl hr) (qv 3) (qv 1)) (ai (ao (qv 2))) aA))))
   (ai (ao h8))),?_⟩
 rename_i p t;obtain ⟨ls,x,⟨vs,e0,pr⟩,⟨t',et',ht⟩,q⟩:=h;cases et';have hl:=pr.length;walk_at "rd";refine .inl ⟨⟨_,SqL.of e0⟩,?_⟩;refine bj (xs:=vs) (fun i σ H'=>∃ u v,σ = [some (.ref p),some (.ref t),u,v]/\H'=H/\beyondL ls x=beyondL (ls.drop i) x) ⟨none,none,rfl,rfl,rfl⟩ (fun i σ H' _ ⟨_,_,_,z,_⟩=>by rw [z]; exact SqL.of e0) ?_ ?_
 ·rintro i y σ H1 hy ⟨u,v,rfl,rfl,hb⟩;have hi:i < vs.length:=(List.getElem?_eq_some_iff.mp hy).1;have hil:i < ls.length:=by omega
  obtain ⟨y',hy',t0,u1,u2,ey,et,⟨t1,rfl,h1⟩,⟨t2,rfl,h2⟩⟩:=aE pr (List.getElem?_eq_getElem hil);obtain rfl:y=.ref t0:=by rw [hy'] at hy; rw [<- Option.some.inj hy,ey]
  refine ⟨t0,[_,_],rfl,SqT.of et,rfl,_,[_],rfl,_,[],rfl,rfl,?_⟩;walk_at "rd";rw [List.drop_eq_getElem_cons hil] at hb;refine ⟨1,_,_,by decide,ke ⟨t1,rfl,h1⟩,ke ⟨t,rfl,ht⟩,?_⟩;rw [uO];rw [sj] at hb;by_cases c1:ls[i].1=x
  ·rw [if_pos (decide_eq_true c1)];rw [if_pos c1] at hb;refine q _ _ (Same.refl _) ?_;rw [hb];exact ⟨t2,rfl,h2⟩
  ·rw [if_neg (by simpa using c1)];refine ⟨1,_,_,by decide,ke ⟨t2,rfl,h2⟩,ke ⟨t,rfl,ht⟩,?_⟩;rw [uO];rw [if_neg c1] at hb;by_cases c2:ls[i].2=x
   ·rw [if_pos (decide_eq_true c2)];rw [if_pos c2] at hb;refine q _ _ (Same.refl _) ?_;rw [hb];exact ⟨t1,rfl,h1⟩
   ·rw [if_neg (by simpa using c2)];rw [if_neg c2] at hb;exact ⟨_,_,rfl,hb⟩
 ·rintro σ H1 ⟨u,v,rfl,rfl,hb⟩;walk_at "rd";rw [<- hl,List.drop_length] at hb;refine q _ _ (Same.refl _) ?_;rw [hb];exact rfl
noncomputable def gT:Sp:=fun vs H Q _=>match vs with
 | [v,.int w]=>Known H v/\Q (.bl (textOf v w [48,49])) H
 | _=>False
theorem pQ (T:Top K mg):Callee P w K mg base 2 "is_letter" ["thing", "width"] gT:=by
 refine T.lI.cal qu (by intro vs H Q E h; unfold gT at h; split at h <;> first | rfl | exact h.elim) (fun _ _ _ _ _ _ us hl=>match us,hl with | [_,_],_=>rfl) (fun f cdv A outer s H vs Q E hr h=>?_);unfold gT at h;split at h
 case h_2=>exact h.elim
 refine ⟨_,(ai (ao (au (ox T) hr.m rfl (aa (qv 0) (aa (qv 1) (aa (qs [48,49]) ad)))))),?_⟩;walk_at "rd";exact h
noncomputable abbrev Step:=List Nat × List Nat × List Nat
inductive Act where
 | drop (n:Nat)
 | lost
 | sent (d l:List Nat)
noncomputable def actV:Act->List V
 | .drop n=>[tx dropT,.int (n:Nat)]
 | .lost=>[tx lostT]
 | .sent d l=>[tx sentW,tx d,tx l]
noncomputable def actOf (ls:List Fld) (rs:List Rule) (ws:List Way) (l:List Nat):Act:=
 if dropB rs (firstR rs l) then .drop (firstR rs l) else match (wayL ws (partT ls (sentT rs l))).2 with
  | none=>.lost
  | some d=>.sent d (sentT rs l)
theorem rL (ls:List Fld) (rs:List Rule) (ws:List Way) (l:List Nat):doesV ls rs ws l=actV (actOf ls rs ws l):=by
 unfold doesV actOf;split
 ·rfl
 ·cases (wayL ws (partT ls (sentT rs l))).2 <;> rfl
noncomputable def actS (N:Net) (s:Step):Act:=match houseOf N.2.1 s.1 with
 | none=>.lost
 | some h=>match gateOf h.1 s.2.1 with
  | none=>.lost
  | some rs=>actOf N.1 rs h.2 s.2.2
theorem qf {N:Net} {s:Step} {h:House} {rs:List Rule} (e1:houseOf N.2.1 s.1=some h) (e2:gateOf h.1 s.2.1=some rs):actS N s=actOf N.1 rs h.2 s.2.2:=by
 unfold actS;rw [e1];dsimp only;rw [e2]
noncomputable def outT:List Nat:=[111,117,116]
noncomputable def ringT:List Nat:=[114,105,110,103]
noncomputable def stepV (s:Step):List V:=[tx s.1,tx s.2.1,tx s.2.2]
inductive Go where
 | stop (e:List V)
 | on (t:Step)
noncomputable def goA (N:Net) (s:Step):Act->Go
 | .drop n=>.stop [tx dropT,tx s.1,tx s.2.1,.int (n:Nat)]
 | .lost=>.stop [tx lostT,tx s.1,tx s.2.1]
 | .sent d l=>match beyondL N.2.2 (s.1,d) with
  | none=>.stop [tx outT,tx s.1,tx d,tx l]
  | some w=>.on (w.1,w.2,l)
noncomputable def goS (N:Net) (s:Step):Go:=goA N s (actS N s)
noncomputable def atS (tr:List Step) (s:Step):Nat:=tr.findIdx fun x=>decide (x=s)
noncomputable def ringV (tr:List Step) (s:Step):List V:=[tx ringT,tx (minT ((tr.drop (atS tr s)).map (·.1)))]
noncomputable def walkF (N:Net):Nat->List Step->Step->List Step × List V
 | 0,tr,_=>(tr,[])
 | n+1,tr,s=>if s ∈ tr then (tr,ringV tr s) else match goS N s with
  | .stop e=>(tr++[s],e)
  | .on t=>walkF N n (tr++[s]) t
theorem lh {N:Net} {n:Nat} {tr:List Step} {s:Step} (h:s ∈ tr):walkF N (n+1) tr s=(tr,ringV tr s):=by
 unfold walkF;rw [if_pos h]
theorem lp {N:Net} {n:Nat} {tr:List Step} {s:Step} {e:List V} (h:s ∉ tr) (g:goS N s=.stop e):walkF N (n+1) tr s=(tr++[s],e):=by
 unfold walkF;rw [if_neg h,g]
theorem pP {N:Net} {n:Nat} {tr:List Step} {s t:Step} (h:s ∉ tr) (g:goS N s=.on t):walkF N (n+1) tr s=walkF N n (tr++[s]) t:=by
 conv=>lhs; unfold walkF
 rw [if_neg h,g]
structure InW (N:Net) (ps l0:List Nat) (s:Step):Prop where
 spot:(s.1,s.2.1) ∈ spotsOf N.2.1
 len:s.2.2.length=l0.length
 bits:∀ c ∈ s.2.2,c=48\/c=49
 off:∀ i,i ∉ ps->s.2.2[i]? = l0[i]?
theorem zX {α:Type} [DecidableEq α]:∀ {l m:List α},l.Nodup->(∀ x ∈ l,x ∈ m)->l.length<=m.length
 | [],_,_,_=>Nat.zero_le _
 | x::l,m,nd,h=>by
  rw [List.nodup_cons] at nd;have hx:=h x List.mem_cons_self;have ih:=zX (l:=l) (m:=m.erase x) nd.2 fun y hy=>(List.mem_erase_of_ne (fun z=>nd.1 (by rw [<- z]; exact hy))).mpr (h y (List.mem_cons_of_mem _ hy))
  rw [List.length_erase_of_mem hx] at ih;have:=List.length_pos_of_mem hx;rw [List.length_cons];omega
noncomputable def bitsL:Nat->List (List Nat)
 | 0=>[[]]
 | n+1=>(bitsL n).map (48::·)++(bitsL n).map (49::·)
theorem oY:∀ n,(bitsL n).length=2 ^ n
 | 0=>rfl
 | n+1=>by rw [bitsL,List.length_append,List.length_map,List.length_map,oY n,Nat.pow_succ]; omega
theorem oW:∀ {l:List Nat},(∀ c ∈ l,c=48\/c=49)->l ∈ bitsL l.length
 | [],_=>List.mem_singleton.mpr rfl
 | c::l,h=>by
  have ih:=oW fun d hd=>h d (List.mem_cons_of_mem _ hd)
  rw [List.length_cons,bitsL,List.mem_append];rcases h c List.mem_cons_self with rfl | rfl
  ·exact .inl (List.mem_map.mpr ⟨l,ih,rfl⟩)
  ·exact .inr (List.mem_map.mpr ⟨l,ih,rfl⟩)
theorem nu {N:Net} {ps l0:List Nat} {tr:List Step} (nd:tr.Nodup) (h:∀ s ∈ tr,InW N ps l0 s) (hp:∀ i ∈ ps,i < l0.length):tr.length<=(spotsOf N.2.1).length*2 ^ ps.length:=by
 let key:Step->Way × List Nat:=fun s=>((s.1,s.2.1),ps.map fun i=>s.2.2.getD i 48)
 have inj:∀ x ∈ tr,∀ y ∈ tr,key x=key y->x=y:=fun x hx y hy e=>by
  have e1:=congrArg Prod.fst e;have e2:ps.map (fun i=>x.2.2.getD i 48)=ps.map fun i=>y.2.2.getD i 48:=congrArg Prod.snd e
  have hX:=h x hx;have hY:=h y hy;have e3:x.2.2=y.2.2:=List.ext_getElem? fun i=>by
   by_cases hi:i ∈ ps
   ·have h1:x.2.2.getD i 48=y.2.2.getD i 48:=List.map_inj_left.mp e2 i hi;have hl:=hp i hi;rw [List.getD_eq_getElem?_getD,List.getD_eq_getElem?_getD,List.getElem?_eq_getElem (by rw [hX.len]; exact hl),List.getElem?_eq_getElem (by rw [hY.len]; exact hl)] at h1;rw [List.getElem?_eq_getElem (by rw [hX.len]; exact hl),List.getElem?_eq_getElem (by rw [hY.len]; exact hl)];exact congrArg some h1
   ·rw [hX.off i hi,hY.off i hi]
  obtain ⟨a,b,c⟩:=x;obtain ⟨a',b',c'⟩:=y;have e4:a=a':=congrArg Prod.fst e1;have e5:b=b':=congrArg Prod.snd e1;have e6:c=c':=e3;rw [e4,e5,e6]
 have nd2:(tr.map key).Nodup:=List.pairwise_map.mpr (List.Pairwise.imp_of_mem (fun {a b} ha hb hab e=>hab (inj a ha b hb e)) nd);have sub:∀ x ∈ tr.map key,x ∈ (spotsOf N.2.1).flatMap fun w=>(bitsL ps.length).map fun b=>(w,b):=fun x hx=>by
  obtain ⟨s,hs,rfl⟩:=List.mem_map.mp hx;have hS:=h s hs;refine List.mem_flatMap.mpr ⟨_,hS.spot,List.mem_map.mpr ⟨_,?_,rfl⟩⟩;have hl:ps.length=(ps.map fun i=>s.2.2.getD i 48).length:=by simp
  rw [hl];refine oW fun c hc=>?_
  obtain ⟨i,hi,rfl⟩:=List.mem_map.mp hc;have hlt:i < s.2.2.length:=by rw [hS.len]; exact hp i hi
  rw [List.getD_eq_getElem?_getD,List.getElem?_eq_getElem hlt];exact hS.bits _ (List.getElem_mem hlt)
 have le:=zX nd2 sub;rw [List.length_map] at le;refine Nat.le_trans le (Nat.le_of_eq ?_);generalize spotsOf N.2.1=l;clear le sub nd2 inj key nd h
 induction l with
 | nil=>simp
 | cons x l ih=>rw [List.flatMap_cons,List.length_append,ih,List.length_map,oY,List.length_cons,Nat.succ_mul,Nat.add_comm]
theorem sx {ps l o:List Nat} (h:l.length=o.length) (ho:OverL ps o) (i:Nat) (hi:i ∉ ps):(written l o)[i]? = l[i]?:=by
 by_cases hl:i < l.length
 ·have hl2:i < o.length:=by omega
  have e:(l.zip o)[i]? = some (l[i],o[i]):=List.getElem?_zip_eq_some.mpr ⟨List.getElem?_eq_getElem hl,List.getElem?_eq_getElem hl2⟩;have e45:o[i]=45:=Classical.byContradiction fun n=>hi (ho i _ (List.getElem?_eq_getElem hl2) n)
  unfold written;rw [List.getElem?_map,e,List.getElem?_eq_getElem hl];show some (wSign l[i] o[i])=_;rw [e45];rfl
 ·rw [List.getElem?_eq_none (by rw [fE h]; omega),List.getElem?_eq_none (by omega)]
theorem pX {l o:List Nat} (hl:∀ c ∈ l,c=48\/c=49) (ho:RowL o):∀ c ∈ written l o,c=48\/c=49:=fun c hc=>by
 unfold written at hc;obtain ⟨⟨a,b⟩,hab,rfl⟩:=List.mem_map.mp hc;obtain ⟨h1,h2⟩:=List.of_mem_zip hab;unfold wSign;split
 ·exact hl a h1
 ·rename_i ne;rcases ho b h2 with z | z | z
  ·exact .inl z
  ·exact .inr z
  ·exact absurd z ne
structure NetW (ps:List Nat) (W:Nat) (N:Net):Prop where
 ok:NetOk N
 width:widthL N.1=W
 over:∀ x ∈ N.2.1,∀ g ∈ x.2.1,∀ r ∈ g.2,OverL ps r.2.2
 spots:(spotsOf N.2.1).length<=9
 told:ps.length<=5
 lt:∀ i ∈ ps,i < W
theorem ir {N:Net} (ok:NetOk N) {x:Way} (h:x ∈ spotsOf N.2.1):∃ (y:Named) (g:Gate),y ∈ N.2.1/\g ∈ y.2.1/\y.1=x.1/\g.1=x.2/\houseOf N.2.1 x.1=some y.2/\gateOf y.2.1 x.2=some g.2:=by
 have hh:=h;unfold spotsOf at h;obtain ⟨y,hy,hx⟩:=List.mem_flatMap.mp h;obtain ⟨g,hg,rfl⟩:=List.mem_map.mp hx;have e1:houseOf N.2.1 y.1=some y.2:=by
  obtain ⟨i,hi,rfl⟩:=List.getElem_of_mem hy;unfold houseOf;rw [show N.2.1.find? (fun g=>decide (g.1=N.2.1[i].1))=some N.2.1[i] from List.find?_eq_some_iff_append.mpr ⟨by simp,N.2.1.take i,N.2.1.drop (i+1),by simp,fun z hz=>?_⟩]
  ·rfl
  ·obtain ⟨j,hj,rfl⟩:=List.mem_take_iff_getElem.mp hz;have:=List.pairwise_iff_getElem.mp ok.nd j i (by simp; omega) (by simp; omega) (by omega);rw [List.getElem_map,List.getElem_map] at this;simpa using this
 have e2:gateOf y.2.1 g.1=some g.2:=by
  have nd:=(ok.house y hy).nd;obtain ⟨i,hi,rfl⟩:=List.getElem_of_mem hg;unfold gateOf;rw [show y.2.1.find? (fun g=>decide (g.1=y.2.1[i].1))=some y.2.1[i] from List.find?_eq_some_iff_append.mpr ⟨by simp,y.2.1.take i,y.2.1.drop (i+1),by simp,fun z hz=>?_⟩]
  ·rfl
  ·obtain ⟨j,hj,rfl⟩:=List.mem_take_iff_getElem.mp hz;have:=List.pairwise_iff_getElem.mp nd j i (by simp; omega) (by simp; omega) (by omega);rw [List.getElem_map,List.getElem_map] at this;simpa using this
 exact ⟨y,g,hy,hg,rfl,rfl,e1,e2⟩
theorem no:∀ {ls:List Line} {x y:Way},beyondL ls x=some y->y ∈ endsOf ls
 | [],_,_,h=>by cases h
 | (a,b)::ls,x,y,h=>by
  have e:endsOf ((a,b)::ls)=a::b::endsOf ls:=by unfold endsOf; rw [List.flatMap_cons]; rfl
  rw [e];unfold beyondL at h;split at h
  ·cases h; simp
  ·split at h
   ·cases h; simp
   ·exact List.mem_cons_of_mem _ (List.mem_cons_of_mem _ (no h))
theorem yx {ls:List Fld} {rs:List Rule} {ws:List Way} {l d l':List Nat} (h:actOf ls rs ws l=.sent d l'):l'=sentT rs l/\∃ r ∈ rs,sentT rs l=written l r.2.2:=by
 unfold actOf at h;split at h
 ·cases h
 ·rename_i nd;split at h
  ·cases h
  ·cases h;refine ⟨rfl,?_⟩;have hj:firstR rs l < rs.length:=by
    rcases Nat.lt_or_ge (firstR rs l) rs.length with z | z
    ·exact z
    ·exfalso;apply nd;unfold dropB;rw [List.getElem?_eq_none z]
   refine ⟨rs[firstR rs l],List.getElem_mem hj,?_⟩;unfold sentT;rw [List.getElem?_eq_getElem hj];rfl
theorem xp {N:Net} {ps l0:List Nat} {W:Nat} (n:NetW ps W N) (hl0:l0.length=W) {s t:Step} (h:InW N ps l0 s) (e:goS N s=.on t):InW N ps l0 t:=by
 obtain ⟨y,g,hy,hg,e1,e2,e3,e4⟩:=ir n.ok h.spot;have ea:=qf (N:=N) (s:=s) e3 e4;unfold goS at e;rw [ea] at e;cases ec:actOf N.1 g.2 y.2.2 s.2.2 with
 | drop k=>rw [ec] at e; cases e
 | lost=>rw [ec] at e; cases e
 | sent d l=>
  rw [ec] at e;unfold goA at e;dsimp only at e;cases eb:beyondL N.2.2 (s.1,d) with
  | none=>rw [eb] at e; cases e
  | some w=>
   rw [eb] at e;cases e;obtain ⟨rfl,r,hr,es⟩:=yx ec;have rok:=(n.ok.house y hy).rules g hg r hr;have ho:=n.over y hy g hg r hr;have hlen:s.2.2.length=r.2.2.length:=by rw [h.len,hl0,rok.overN,n.width]
   rw [es];refine ⟨n.ok.spots w (no eb),?_,pX h.bits rok.over,fun i hi=>?_⟩
   ·show (written s.2.2 r.2.2).length=_;rw [fE hlen];exact h.len
   ·show (written s.2.2 r.2.2)[i]? = _;rw [sx hlen ho i hi];exact h.off i hi
theorem yH {N:Net} {s t:Step} (h:goS N s=.on t):∃ d l w,actS N s=.sent d l/\beyondL N.2.2 (s.1,d)=some w/\t=(w.1,w.2,l):=by
 unfold goS at h;cases e:actS N s with
 | drop n=>rw [e] at h; cases h
 | lost=>rw [e] at h; cases h
 | sent d l=>
  rw [e] at h;unfold goA at h;dsimp only at h;cases eb:beyondL N.2.2 (s.1,d) with
  | none=>rw [eb] at h; cases h
  | some w=>
   rw [eb] at h;cases h;exact ⟨d,l,w,rfl,eb,rfl⟩
def StepAt (H:Hp) (x:Step) (v:V):Prop:=∃ t,v=.ref t/\H t=some (.tup (stepV x))
theorem b6 {H H':Hp} (k:∀ t vs,H t=some (.tup vs)->H' t=some (.tup vs)) {tr:List Step} {vs:List V} (p:Paired (StepAt H) tr vs):Paired (StepAt H') tr vs:=
 L2.Paired.mapP p fun _ _ ⟨t,e,h⟩=>⟨t,e,k _ _ h⟩
theorem xS (x s:Step):eqDs ((stepV x).map D.f) ((stepV s).map D.f)=decide (x=s):=by
 have txs:∀ x y:List Nat,eqV (tx x) (tx y)=decide (x=y):=fun x y=>by
  show (st x == st y)=_;rw [Bool.eq_iff_iff,beq_iff_eq,dh,decide_eq_true_eq]
 obtain ⟨a,b,c⟩:=x;obtain ⟨a',b',c'⟩:=s;unfold stepV;simp only [List.map_cons,List.map_nil,eqDs,eqD,txs,Bool.and_true];rw [Bool.eq_iff_iff];simp [Prod.ext_iff]
theorem sf {H:Hp} {x:Step} {v:V} (h:StepAt H x v) (s:Step):tupEq H (stepV s) v=decide (x=s):=by
 obtain ⟨t,rfl,e⟩:=h;unfold tupEq;simp only [e];exact xS x s
theorem jo {H:Hp} (s:Step):∀ {tr:List Step} {vs:List V},Paired (StepAt H) tr vs->vs.any (tupEq H (stepV s))=decide (s ∈ tr)
 | _,_,.nil=>rfl
 | x::tr,v::vs,.cons r p=>by
  rw [List.any_cons,sf r s,jo s p,Bool.eq_iff_iff,Bool.or_eq_true,decide_eq_true_eq,decide_eq_true_eq,decide_eq_true_eq,List.mem_cons];exact or_congr eq_comm Iff.rfl
theorem mZ {H:Hp} (s:Step):∀ {tr:List Step} {vs:List V},Paired (StepAt H) tr vs->vs.findIdx (tupEq H (stepV s))=atS tr s
 | _,_,.nil=>rfl
 | x::tr,v::vs,.cons r p=>by
  unfold atS;rw [List.findIdx_cons,List.findIdx_cons,sf r s,mZ s p];rfl
theorem jP {H:Hp} {tr:List Step} {vs:List V} (p:Paired (StepAt H) tr vs):∀ y ∈ vs,FlatT H y:=fun y hy=>by
 induction p with
 | nil=>simp at hy
 | cons r p ih=>
  rcases List.mem_cons.mp hy with rfl | hy
  ·obtain ⟨t,rfl,e⟩:=r;exact ⟨t,_,rfl,e,rfl⟩
  ·exact ih hy
theorem iX {α β:Type} {R:α -> β -> Prop}:∀ (n:Nat) {l:List α} {m:List β},Paired R l m->Paired R (l.drop n) (m.drop n)
 | 0,_,_,p=>p
 | n+1,_,_,.nil=>.nil
 | n+1,_,_,.cons _ p=>iX n p
theorem z8 {tr:List Step} {s:Step} (h:s ∈ tr):atS tr s < tr.length:=List.findIdx_lt_length.mpr ⟨s,h,by simp⟩
theorem mW {xs:List V} {n:Nat} (h:n<=xs.length):cutV xs (some (n:Nat)) none=xs.drop n:=by
 unfold cutV;rw [HT.sIx_nat,HT.sIx_none,Nat.min_eq_left h];exact List.take_of_length_le (by rw [List.length_drop]; exact Nat.le_refl _)
noncomputable def iN (K:Frag):Sp:=fun vs H Q _=>match vs with
 | [.ref p,.ref q]=>∃ (tr:List Step) (s:Step) (xs:List V),H p=some (.lst xs)/\Paired (StepAt H) tr xs/\H q=some (.tup (stepV s))/\s ∈ tr/\tr.length<=1000/\∀ a H',H a=none->Same H H'->H' a=some (.tup (ringV tr s))->Q (.ref a) H'
 | _=>False
theorem rh (T:Top K mg):Callee P w K mg base 1 "ring_end" ["trail", "step"] (iN K):=by
 refine T.nP.cal r8 (by intro vs H Q E h; unfold iN at h; split at h <;> first | rfl | exact h.elim) (fun _ _ _ _ _ _ us hl=>match us,hl with | [_,_],_=>rfl) (fun f cdv A outer s H vs Q E hr h=>?_);unfold iN at h;split at h
 case h_2=>exact h.elim
 refine ⟨_,(ai (ao (aD (aa (qs [114,105,110,103]) (aa (aB (pq K rfl rfl) rfl T.pF ni (aa (bZ (nt:=1) (fi:=[]) (N':=["past"]) rfl (cscope rfl (by decide +kernel)) (cnames (N:=["trail", "step"]) (sc:=defScope im) rfl rfl (by decide +kernel)) (bw (by decide)) (iterE K rfl (cz (slE K rfl) (qv 0) (cE (oH K rfl hr (qv 0) (qv 1))) dG)) (fun _ _ _ _ _=>(aj (i:=0) (by show (["past"]:List Str).Nodup; decide +kernel) rfl lc)) (fun _ _ _ _ _=>aZ) (fun _ _ _ _ _=>(aw (ixE K rfl) (qv 0) af (fun _ _=>rfl)))) ad)) ad))))),?_⟩;rename_i p q;obtain ⟨tr,s',xs,ep,pr,eq,hm,hn,k⟩:=h;have hl:=pr.length;have hlt:=z8 hm;walk_at "rd";refine ⟨⟨_,SqL.of ep⟩,_,xs,SqL.of ep,by omega,eq,rfl,jP pr,by rw [jo s' pr]; simpa using hm,?_⟩;rw [mZ s' pr];refine ⟨xs,SqL.of ep,fun c hc=>?_⟩;have ec:cutV xs (some (atS tr s':Nat)) none=xs.drop (atS tr s'):=mW (by omega);rw [ec];have s1:=ah hc (.lst (xs.drop (atS tr s')));have e1:upd H c (.lst (xs.drop (atS tr s'))) c=some (.lst (xs.drop (atS tr s'))):=upd_same;generalize upd H c (.lst (xs.drop (atS tr s')))=H1 at s1 e1 ⊢;have pd:=iX (atS tr s') (b6 (fun _ _ z=>s1 _ _ z) pr);obtain ⟨z1,z2⟩:=cu pd;have hdl:=pd.length;have hdl2:(tr.drop (atS tr s')).length<=1000:=by rw [List.length_drop]; omega
 refine .inl ⟨⟨_,SqL.of e1⟩,fun D hD=>?_⟩;refine cc (item:=fun x:Step × V=>x.2) (xs:=(tr.drop (atS tr s')).zip (xs.drop (atS tr s'))) (h:=fun x=>[tx x.1.1]) hD (by rw [z1]; exact SqL.of e1) (by rw [List.length_zip]; omega) (fun _=>by simp) ?_ ?_
 ·intro x H2 out non hx s2 ho _;obtain ⟨t,ex,et⟩:=z2 x hx;rw [ex];walk_at "rd";refine ⟨_,_,.inr (SqT.of (s2 _ _ et)),rfl,?_⟩;exact ho _ _ rfl (Same.refl _)
 intro H2 s2 e2;rw [show ((tr.drop (atS tr s')).zip (xs.drop (atS tr s'))).flatMap (fun x=>[tx x.1.1])=((tr.drop (atS tr s')).map (·.1)).map tx by
  rw [cP (fun x:Step × V=>tx x.1.1)]
  conv=>rhs; rw [<- dE (l:=tr.drop (atS tr s')) (m:=xs.drop (atS tr s')) hdl,List.map_map,List.map_map]
  rfl] at e2
 walk_at "rd";refine ⟨_,SqL.of e2,by rw [List.length_map,List.length_drop]; omega,by decide,fun a ha=>?_⟩;have s12:=s1.trans s2;exact k a _ (s12.free ha) (s12.trans (ah ha _)) upd_same
noncomputable def lv (K:Frag):Sp:=fun vs H Q _=>match vs with
 | [.ref t,.str n,.str d,.ref e]=>∃ (N:Net) (s:Step) (a:Act),n=st s.1/\d=st s.2.1/\H t=some (.tup (actV a))/\EndsAt H e N.2.2 /\
   (∀ ev,goA N s a=.stop ev->∀ q H',H q=none->Same H H'->H' q=some (.tup ev)->Q (.ref q) H')/\(∀ t',goA N s a=.on t'->∀ H',Same H H'->Q .non H')
 | _=>False
theorem vv (T:Top K mg):Callee P w K mg base 1 "end_by" ["does", "house", "door", "ends"] (lv K):=by
 refine T.sS.cal vk (by intro vs H Q E h; unfold lv at h; split at h <;> first | rfl | exact h.elim) (fun _ _ _ _ _ _ us hl=>match us,hl with | [_,_,_,_],_=>rfl) (fun f cdv A outer s H vs Q E hr h=>?_);unfold lv at h;split at h
 case h_2=>exact h.elim
 refine ⟨_,(ae (aG (aC bf (aw (ixE K rfl) (qv 0) af (fun _ _=>rfl)) (qs [100,114,111,112])) (ai (ao (aD (aa (qs [100,114,111,112]) (aa (qv 1) (aa (qv 2) (aa (aw (ixE K rfl) (qv 0) af (fun _ _=>rfl)) ad))))))) aA)
   (ae (aG (aC bf (aw (ixE K rfl) (qv 0) af (fun _ _=>rfl)) (qs [108,111,115,116])) (ai (ao (aD (aa (qs [108,111,115,116]) (aa (qv 1) (aa (qv 2) ad)))))) aA)
   (ae (aG (Bj (mR hr) (aD (aa (qv 1) (aa (aw (ixE K rfl) (qv 0) af (fun _ _=>rfl)) ad))) (qv 3)) (ai (ao h8)) aA)
   (ai (ao (aD (aa (qs [111,117,116]) (aa (qv 1) (aa (aw (ixE K rfl) (qv 0) af (fun _ _=>rfl)) (aa (aw (ixE K rfl) (qv 0) af (fun _ _=>rfl)) ad)))))))))),?_⟩
 rename_i t n d e;obtain ⟨N,s',a,rfl,rfl,et,hE,q1,q2⟩:=h;walk_at "rd";cases a with
 | drop k=>
  refine ⟨_,_,.inr (SqT.of et),rfl,?_⟩;walk_at "rd";rw [if_pos (by decide)];exact ⟨_,_,.inr (SqT.of et),rfl,by decide,fun p hp=>q1 _ rfl p _ hp (ah hp _) upd_same⟩
 | lost=>
  refine ⟨_,_,.inr (SqT.of et),rfl,?_⟩;walk_at "rd";rw [if_neg (by decide)];refine ⟨_,_,.inr (SqT.of et),rfl,?_⟩;walk_at "rd";rw [if_pos (by decide)];exact ⟨by decide,fun p hp=>q1 _ rfl p _ hp (ah hp _) upd_same⟩
 | sent d l=>
  refine ⟨_,_,.inr (SqT.of et),rfl,?_⟩;walk_at "rd";rw [if_neg (by decide)];refine ⟨_,_,.inr (SqT.of et),rfl,?_⟩;walk_at "rd";rw [if_neg (by decide)];refine ⟨_,_,.inr (SqT.of et),rfl,by decide,fun p hp=>?_⟩;have s1:=ah hp (.tup [V.str (st s'.1),tx d]);have ek:upd H p (.tup [V.str (st s'.1),tx d]) p=some (.tup ((keyW (s'.1,d)).map kV)):=upd_same;generalize upd H p (.tup [V.str (st s'.1),tx d])=H1 at s1 ek ⊢;obtain ⟨kvs,ed,hv⟩:=hE.same s1;refine ⟨_,DGet.t ed ek,?_⟩;have hvx:=hv (s'.1,d);cases eb:beyondL N.2.2 (s'.1,d) with
  | none=>
   rw [eb] at hvx;have hvx:valV kvs (keyW (s'.1,d))=none:=hvx;rw [hvx,if_neg (by simp)];have et1:=s1 _ _ et;refine ⟨_,_,.inr (SqT.of et1),rfl,_,_,.inr (SqT.of et1),rfl,by decide,fun p2 hp2=>?_⟩;exact q1 _ (by unfold goA; dsimp only; rw [eb]; rfl) p2 _ (s1.free hp2) (s1.trans (ah hp2 _)) upd_same
  | some w=>
   rw [eb] at hvx;obtain ⟨u,hu,_⟩:=hvx;rw [hu,if_pos (by simp)];exact q2 (w.1,w.2,l) (by unfold goA; dsimp only; rw [eb]) H1 s1
def HousesD (H:Hp) (d:Addr) (hs:List Named):Prop:=∃ kvs:List (Key × V),H d=some (.dK kvs)/\∀ n h,houseOf hs n=some h->∃ q,valV kvs (.inr (st n))=some (.ref q)/\HouseAt H q h
theorem HousesD.same {H H':Hp} {d:Addr} {hs:List Named} (h:HousesD H d hs) (s:Same H H'):HousesD H' d hs:=by
 obtain ⟨kvs,e,h⟩:=h;exact ⟨kvs,s _ _ e,fun n x e=>let ⟨q,h1,h2⟩:=h n x e; ⟨q,h1,h2.same s⟩⟩
theorem kb {H:Hp}:∀ {hs:List Named} {vs:List V},Paired (NamedAt H) hs vs->∃ kvs:List (Key × V),kvs.map (·.1)=hs.map (fun x=>Sum.inr (st x.1))/\Paired (fun (kv:Key × V) v=>∃ t,v=.ref t/\H t=some (.tup [kV kv.1,kv.2])) kvs vs/\∀ n h,houseOf hs n=some h->∃ q,valV kvs (.inr (st n))=some (.ref q)/\HouseAt H q h
 | _,_,.nil=>⟨[],rfl,.nil,fun n h e=>by simp [houseOf] at e⟩
 | x::hs,_,.cons ⟨t,q,rfl,e,hq⟩ p=>by
  obtain ⟨kvs,h1,h2,h3⟩:=kb p;refine ⟨(.inr (st x.1),.ref q)::kvs,by rw [List.map_cons,List.map_cons,h1],.cons ⟨t,rfl,e⟩ h2,fun n h eh=>?_⟩;unfold houseOf at eh h3;rw [List.find?_cons] at eh;by_cases c:x.1=n
  ·subst c;rw [show decide (x.1=x.1)=true by simp] at eh;cases eh;exact ⟨q,cb rfl,hq⟩
  ·rw [show decide (x.1=n)=false by simp [c]] at eh;obtain ⟨q',e1,e2⟩:=h3 n h eh;refine ⟨q',?_,e2⟩;rw [b9 (fun z=>c (dh.mp (Sum.inr.inj z)))];exact e1
noncomputable def keyS (x:Step):List Key:=[.inr (st x.1),.inr (st x.2.1),.inr (st x.2.2)]
theorem wX {x y:Step} (h:keyS x=keyS y):x=y:=by
 obtain ⟨a,b,c⟩:=x;obtain ⟨a',b',c'⟩:=y;unfold keyS at h;simp only [List.cons.injEq,Sum.inr.injEq,dh,and_true] at h;obtain ⟨rfl,rfl,rfl⟩:=h;rfl
theorem kX (s:Step):∀ tr:List Step,(valV (tr.map fun x=>(keyS x,V.bl true)) (keyS s)).isSome=decide (s ∈ tr)
 | []=>rfl
 | x::tr=>by
  rw [List.map_cons];by_cases c:x=s
  ·subst c;rw [cb rfl];simp
  ·rw [b9 (fun z=>c (wX z)),kX s tr,Bool.eq_iff_iff,decide_eq_true_eq,decide_eq_true_eq,List.mem_cons];exact ⟨.inr,fun h=>h.resolve_left fun z=>c z.symm⟩
theorem h7 {H:Hp}:∀ {tr:List Step} {vs:List V},Paired (fun (kv:List Key × V) v=>∃ b,v=.ref b/\H b=some (.tup (kv.1.map kV))) (tr.map fun x=>(keyS x,V.bl true)) vs->Paired (StepAt H) tr vs
 | [],_,.nil=>.nil
 | x::tr,_,.cons ⟨b,e,h⟩ p=>.cons ⟨b,e,h⟩ (h7 p)
theorem uT {N:Net} {ps:List Nat} {W:Nat} (n:NetW ps W N) {y:Named} {g:Gate} (hy:y ∈ N.2.1) (hg:g ∈ y.2.1):Meet N.1 g.2 y.2.2 W:=by
 have ok:=n.ok;have hk:=ok.house y hy;obtain ⟨fa,fb,esp,hab,hb⟩:=ok.lay.to;have w2:=ok.lay.w2;have hw:=n.width;have eG:spanG N.1=(fa,fb):=by unfold spanG; rw [esp]; rfl
 refine ⟨by omega,fun r hr=>?_,fun x hx=>?_,fa,fb,esp,by omega⟩
 ·rw [(hk.rules g hg r hr).overN,n.width]
 ·have:=hk.ways.n x hx;rw [eG] at this;simp only at this;omega
def WalkAt (H:Hp) (q:Addr) (R:List Step × List V):Prop:=∃ p a us,H q=some (.tup [.ref p,.ref a])/\H p=some (.lst us)/\Paired (StepAt H) R.1 us/\H a=some (.tup R.2)
theorem oI {l:List Nat} {W:Nat} (h1:l.length=W) (h2:∀ c ∈ l,c=48\/c=49):textOf (tx l) (W:Int) [48,49]=true:=by
 unfold textOf;simp only [am,Bool.and_eq_true,decide_eq_true_eq,List.all_eq_true];exact ⟨by omega,fun c hc=>by simpa using h2 c hc⟩
def Shown (H:Hp) (v:V):Prop:=match v with
 | .int i=>i=7
 | .non=>True
 | .bl _=>True
 | .str y=>(∀ c ∈ y.cps.toList,c < 16 ^ 8)/\y.cps.toList.length<=1000
 | .ref p=>∃ ls,Few ls/\(H p=some (.lst (ls.map fun l=>V.str (st l)))\/H p=some (.tup (ls.map fun l=>V.str (st l))))
 | _=>False
theorem Shown.known {H:Hp} {v:V} (h:Shown H v):Known H v:=by
 cases v with
 | str y=>exact h.2
 | ref p=>
  obtain ⟨ls,_,h | h⟩:=h
  ·exact .inl ⟨_,h⟩
  ·exact .inr ⟨_,h⟩
 | int i=>trivial
 | non=>trivial
 | bl b=>trivial
 | _=>exact h.elim
theorem Shown.same {H H':Hp} {v:V} (h:Shown H v) (s:Same H H'):Shown H' v:=by
 cases v with
 | ref p=>
  obtain ⟨ls,h1,h | h⟩:=h
  ·exact ⟨ls,h1,.inl (s _ _ h)⟩
  ·exact ⟨ls,h1,.inr (s _ _ h)⟩
 | _=>exact h
theorem zx {hs:List Named} {n d:List Nat} {h:House} {rs:List Rule} (e1:houseOf hs n=some h) (e2:gateOf h.1 d=some rs):(n,d) ∈ spotsOf hs:=by
 unfold houseOf at e1;obtain ⟨x,hx,rfl⟩:=Option.map_eq_some_iff.mp e1;unfold gateOf at e2;obtain ⟨g,hg,rfl⟩:=Option.map_eq_some_iff.mp e2;have h1:=List.find?_some hx;have h2:=List.find?_some hg;simp only [decide_eq_true_eq] at h1 h2;unfold spotsOf;refine List.mem_flatMap.mpr ⟨x,List.mem_of_find?_eq_some hx,List.mem_map.mpr ⟨g,List.mem_of_find?_eq_some hg,?_⟩⟩;rw [h1,h2]
theorem vw {v:V} {W:Nat} (h:textOf v (W:Int) [48,49]=true):∃ l,v=.str (st l)/\l.length=W/\∀ c ∈ l,c=48\/c=49:=by
 cases v with
 | str y=>
  unfold textOf at h;simp only [Bool.and_eq_true,decide_eq_true_eq,List.all_eq_true] at h;exact ⟨y.cps.toList,by rw [aF],by omega,fun c hc=>by simpa using h.2 c hc⟩
 | _=>cases h
noncomputable def fB (K:Frag):Sp:=fun vs H Q E=>match vs with
 | [.ref t,.str n,.str d,v]=>∃ (N:Net) (ps:List Nat) (W:Nat),NetAt H t N/\NetW ps W N/\(∀ c ∈ n.cps.toList,c < 16 ^ 8)/\n.cps.toList.length<=1000/\(∀ c ∈ d.cps.toList,c < 16 ^ 8)/\d.cps.toList.length<=1000/\Shown H v /\
   (houseOf N.2.1 n.cps.toList=none->∀ H',Same H H'->E (.ref (xA K "NoHouse")) none H') /\
   ∀ h,houseOf N.2.1 n.cps.toList=some h->(gateOf h.1 d.cps.toList=none->∀ H',Same H H'->E (.ref (xA K "NoDoor")) none H') /\
    ∀ rs,gateOf h.1 d.cps.toList=some rs->(textOf v (W:Int) [48,49]=false->∀ H',Same H H'->E (.ref (xA K "Misfit")) none H') /\
     ∀ l,v=.str (st l)->l.length=W->(∀ c ∈ l,c=48\/c=49)->∀ q H',H q=none->Same H H'->WalkAt H' q (walkF N 300 [] (n.cps.toList,d.cps.toList,l))->Q (.ref q) H'
 | _=>False
theorem iJ (T:Top K mg):CalleeX P w K mg base 5 "net_walk" ["net", "house", "door", "letter"] (fB K):=by
 refine T.nT.calX cm (by intro vs H Q E h; unfold fB at h; split at h <;> first | rfl | exact h.elim) (fun _ _ _ _ _ _ us hl=>match us,hl with | [_,_,_,_],_=>rfl) (fun f cdv A outer s H vs Q E hr h=>?_);unfold fB at h;split at h
 case h_2=>exact h.elim
 refine ⟨_,(ae (cF (i5 (n9 T) hr.m cW rfl (aa (qv 0) (aa (qv 1) (aa (qv 2) ad)))))
   (ae (aG (mF (cG (au (pQ T) hr.m rfl (aa (qv 3) (aa (au (l7 T) hr.m rfl (aa (aw (ixE K rfl) (qv 0) af (fun _ _=>rfl)) ad)) ad))))) (ai (kq rfl jp rfl T.gF.1 T.gF.2 (aa (uN (fF (qs [110,111,32,108,101,116,116,101,114,32,111,102,32,116,104,101,32,110,101,116,58,32]) (fF (yC hr.gd hr.units0 (qv 3)) qq))) ad))) aA)
   (ae (ak (i:=4) cm.nd rfl lc (cX (ub rfl) rfl T.yl y8 (aa (aw (ixE K rfl) (qv 0) af (fun _ _=>rfl)) ad)))
   (ae (ak (i:=5) cm.nd rfl lc (au (pV T) hr.m rfl (aa (qv 0) ad)))
   (ae (ak (i:=6) cm.nd rfl lc sw)
   (ae (ak (i:=7) cm.nd rfl lc (aD (aa (qv 1) (aa (qv 2) (aa (qv 3) ad)))))
   (ae (nB PassesOwn.leaving (vQ (mR hr) (qv 7) (qv 6)) (ae (qj (mR hr) (qv 6) (qv 7) dm)
   (ae (ak (i:=8) cm.nd rfl lc (i5 (oh T) hr.m cW rfl (aa (aw (ixE K rfl) (qv 0) af (fun _ _=>rfl)) (aa (uH (mR hr) (qv 4) (aw (ixE K rfl) (qv 7) af (fun _ _=>rfl)) (fun _ _=>rfl)) (aa (aw (ixE K rfl) (qv 7) af (fun _ _=>rfl)) (aa (aw (ixE K rfl) (qv 7) af (fun _ _=>rfl)) ad))))))
   (ae (ak (i:=9) cm.nd rfl lc (au (vv T) hr.m rfl (aa (qv 8) (aa (aw (ixE K rfl) (qv 7) af (fun _ _=>rfl)) (aa (aw (ixE K rfl) (qv 7) af (fun _ _=>rfl)) (aa (qv 5) ad))))))
   (ae (aG (aC vP (qv 9) h8) (ai (ao (aD (aa (cX (jZ rfl) rfl T.iA fv (aa (qv 6) ad)) (aa (qv 9) ad))))) aA)
   (ai (ak (i:=7) cm.nd rfl lc (ar (zB K rfl) (uH (mR hr) (qv 5) (aD (aa (aw (ixE K rfl) (qv 7) af (fun _ _=>rfl)) (aa (aw (ixE K rfl) (qv 8) af (fun _ _=>rfl)) ad))) (fun _ _=>rfl)) (aD (aa (aw (ixE K rfl) (qv 8) af (fun _ _=>rfl)) ad))))))))))
   (ai (ao (aD (aa (cX (jZ rfl) rfl T.iA fv (aa (qv 6) ad)) (aa (au (rh T) hr.m rfl (aa (cX (jZ rfl) rfl T.iA fv (aa (qv 6) ad)) (aa (qv 7) ad))) ad)))))))))))),?_⟩
 rename_i t n d v;obtain ⟨xn,rfl⟩:∃ x,n=st x:=⟨_,(aF n).symm⟩;obtain ⟨xd,rfl⟩:∃ x,d=st x:=⟨_,(aF d).symm⟩;obtain ⟨N,ps,W,hN,nw,k1,k2,k3,k4,hsh,qH,qG⟩:=h;simp only [am] at qH qG;have ok:=nw.ok;walk_at "rd";refine ⟨N,hN,k1,k2,k3,k4,fun h eh=>?_,fun z H1 s1=>qH (by simpa only [am] using z) H1 s1⟩;simp only [am] at eh ⊢;obtain ⟨qD,qR⟩:=qG h eh;refine ⟨fun rs er H1 s1=>?_,qD⟩;obtain ⟨qM,qW⟩:=qR rs er;have hsp:=zx eh er;obtain ⟨pa,pb,pc,eN,hL,hH,hLn⟩:=hN.same s1;have hlen:=ok.lay.len;have w2:=ok.lay.w2;have hwd:=nw.width;walk_at "rd";refine ⟨_,_,.inr (SqT.of eN),rfl,?_⟩;walk_at "rd";refine ⟨N.1,hL,by omega,fun H2 s2=>?_⟩;rw [hwd];refine ⟨(hsh.same (s1.trans s2)).known,?_⟩;cases etx:textOf v (W:Int) [48,49] with
 | false=>
  walk_at "rd";have hsh2:=hsh.same (s1.trans s2);have q2:=qM etx H2 (s1.trans s2);refine ⟨by decide,?_⟩;have fin:∀ z:Str,z.length<=200000->0+(st [110,111,32,108,101,116,116,101,114,32,111,102,32,116,104,101,32,110,101,116,58,32]).length+z.length<=sizeLine/\∀ z:Str,1<=sizeLine/\E (.ref (xA K "Misfit")) none H2:=fun z hz=>⟨by
   rw [fc];refine Nat.le_trans (m:=300000) ?_ (by decide);simp only [List.length_cons,List.length_nil];omega,fun _=>⟨by decide,q2⟩⟩
  cases v with
  | non=>exact fin
  | bl b=>exact fin
  | int i=>exact ⟨hsh2,fin⟩
  | str y=>exact ⟨hsh2.1,by have:=hsh2.2; simp only [Array.length_toList] at this; show y.cps.size<=10000; omega,fin⟩
  | ref p=>
   obtain ⟨ls,f1,f2⟩:=hsh2;exact ⟨ls,f1,f2,fin⟩
  | _=>exact hsh2.elim
 | true=>
 obtain ⟨xl,rfl,hW,hb⟩:=vw etx;have q:=qW xl rfl hW hb;walk_at "rd";have s12:=s1.trans s2;have eN2:=s2 _ _ eN;obtain ⟨hv,eh2,ph⟩:=hH.same s2;obtain ⟨kvs,hk1,hk2,hk3⟩:=kb ph;have hkl:kvs.length=N.2.1.length:=by have:=congrArg List.length hk1; simpa using this
 have h100:=ok.h100;refine ⟨_,_,.inr (SqT.of eN2),rfl,?_⟩;walk_at "rd";refine ⟨hv,kvs,eh2,by omega,?_,hk2,fun d1 hd1=>?_⟩
 ·rw [hk1];refine List.pairwise_map.mpr (List.Pairwise.imp_of_mem ?_ (List.pairwise_map.mp ok.nd));intro a b _ _ hab e;exact hab (dh.mp (Sum.inr.inj e))
 have s3:=ah hd1 (.dK kvs);have hHD:HousesD (upd H2 d1 (.dK kvs)) d1 N.2.1:=⟨kvs,upd_same,fun n h e=>let ⟨q,h1,h2⟩:=hk3 n h e; ⟨q,h1,h2.same s3⟩⟩;generalize upd H2 d1 (.dK kvs)=H3 at s3 hHD ⊢;have s13:=s12.trans s3;refine ⟨N,hN.same s13,ok.l500,ok.ends,fun d2 H4 hd2 s4 hE=>?_⟩;have s14:=s13.trans s4;walk_at "rd";intro d3 hd3;have s5:=ah hd3 (.dT []);refine ⟨by decide,fun p0 hp0=>?_⟩;have s6:=ah hp0 (.tup [V.str (st xn),V.str (st xd),V.str (st xl)]);have s56:=s5.trans s6;have hlx:xl.length=W:=hW;refine ⟨fun m σ H'=>∃ (tr:List Step) (x:Step) (p:Addr) (u8 u9:Option V),σ = [some (.ref t),some (.str (st xn)),some (.str (st xd)),some (.str (st xl)),some (.ref d1),some (.ref d2),some (.ref d3),some (.ref p),u8,u9]/\Same H4 H'/\H' d3=some (.dT (tr.map fun x=>(keyS x,V.bl true)))/\H' p=some (.tup (stepV x))/\m+tr.length=300/\walkF N m tr x=walkF N 300 [] (xn,xd,xl)/\tr.Nodup/\(∀ y ∈ tr,InW N ps xl y)/\InW N ps xl x,⟨300,[],(xn,xd,xl),p0,none,none,rfl,s56,s6 _ _ upd_same,upd_same,rfl,rfl,.nil,fun y hy=>by simp at hy,⟨hsp,rfl,hb,fun _ _=>rfl⟩⟩,?_⟩;rintro m σ H5 ⟨tr,x,p,u8,u9,rfl,s45,ed3,ep,hm,hwk,hnd,hin,hx⟩;have few:=nu (hnd) hin (fun i hi=>by rw [hlx]; exact nw.lt i hi);have hfew:tr.length<=288:=by
  refine Nat.le_trans few (Nat.le_trans (Nat.mul_le_mul nw.spots (Nat.pow_le_pow_right (by decide) nw.told)) (by decide))
 have s15:=s14.trans s45;walk_at "rd";refine ⟨_,DGet.t (k:=keyS x) ed3 ep,?_⟩;rw [kX];obtain ⟨m',rfl⟩:∃ m',m=m'+1:=⟨m - 1,by omega⟩;by_cases hx':x ∈ tr
 ·rw [if_neg (by simp [hx'])];rw [lh hx'] at hwk;refine ⟨_,ed3,fun p1 vs1 hp1 pv1=>?_⟩;have s7:=ah hp1 (.lst vs1);have e7:upd H5 p1 (.lst vs1) p1=some (.lst vs1):=upd_same;generalize upd H5 p1 (.lst vs1)=H7 at s7 e7 ⊢;refine ⟨_,s7 _ _ ed3,fun p2 vs2 hp2 pv2=>?_⟩;have s8:=ah hp2 (.lst vs2);have e8:upd H7 p2 (.lst vs2) p2=some (.lst vs2):=upd_same;generalize upd H7 p2 (.lst vs2)=H8 at s8 e8 ⊢;refine ⟨tr,x,vs2,e8,b6 (fun _ _ z=>s8 _ _ z) (h7 pv2),(s7.trans s8) _ _ ep,hx',by omega,fun a H9 ha s9 e9=>⟨by decide,fun q0 hq0=>?_⟩⟩;have sA:=ah hq0 (.tup [V.ref p1,V.ref a]);have s79:=s7.trans (s8.trans s9);refine q q0 _ ((s15.trans s79).free hq0) (s15.trans (s79.trans sA)) ?_;rw [<- hwk];exact ⟨p1,a,vs1,upd_same,sA _ _ ((s8.trans s9) _ _ e7),b6 (fun _ _ z=>sA _ _ (s79 _ _ z)) (h7 pv1),sA _ _ e9⟩
 ·rw [if_pos (by simp [hx'])];refine ⟨_,fun σ' H' z=>z,?_⟩;have g1:DPut H5 d3 (.ref p) (.bl true) (upd H5 d3 (.dT (putK (tr.map fun x=>(keyS x,V.bl true)) (keyS x) (.bl true)))):=DPut.t (k:=keyS x) ed3 ep (sizeBig (by rw [List.length_map]; omega));have hpk:putK (tr.map fun x=>(keyS x,V.bl true)) (keyS x) (V.bl true)=(tr++[x]).map fun x=>(keyS x,V.bl true):=by
   rw [wS,List.map_append]
   ·rfl
   ·have:=kX x tr;rw [show decide (x ∈ tr)=false by simp [hx']] at this;exact Option.isNone_iff_eq_none.mp (by rw [<- Option.not_isSome]; simp [this])
  rw [hpk] at g1;refine ⟨_,g1,?_⟩;have hd3':H4 d3=none:=hd3;have s6':Same H4 (upd H5 d3 (.dT ((tr++[x]).map fun x=>(keyS x,V.bl true)))):=aK s45 hd3';have e63:upd H5 d3 (.dT ((tr++[x]).map fun x=>(keyS x,V.bl true))) d3=some (.dT ((tr++[x]).map fun x=>(keyS x,V.bl true))):=upd_same;have e6p:upd H5 d3 (.dT ((tr++[x]).map fun x=>(keyS x,V.bl true))) p=some (.tup (stepV x)):=by
   rw [av (fun z=>by rw [z,ed3] at ep; cases ep)];exact ep
  generalize upd H5 d3 (.dT ((tr++[x]).map fun x=>(keyS x,V.bl true)))=H6 at s6' e63 e6p ⊢;have s16:=s14.trans s6';have eN6:=(s3.trans (s4.trans s6')) _ _ eN2;obtain ⟨y1,g1',hy1,hg1,f1,f2,eh1,eg1⟩:=ir ok hx.spot;have eh1:houseOf N.2.1 x.1=some y1.2:=eh1;have eg1:gateOf y1.2.1 x.2.1=some g1'.2:=eg1;have lx1:=ok.low y1 hy1;have lx2:=ok.door y1 hy1 g1' hg1;rw [show y1.1=x.1 from f1] at lx1;rw [show g1'.1=x.2.1 from f2] at lx2;obtain ⟨kv6,ekv,hkv⟩:=hHD.same (s4.trans s6');obtain ⟨hq1,ev1,hHa⟩:=hkv x.1 y1.2 eh1;refine ⟨_,_,.inr (SqT.of eN6),rfl,_,_,.inr (SqT.of e6p),rfl,.ref hq1,?_,_,_,.inr (SqT.of e6p),rfl,_,_,.inr (SqT.of e6p),rfl,?_⟩
  ·rw [<- ev1];exact DGet.k (k:=.inr (st x.1)) ekv
  have hlW:x.2.2.length=W:=by rw [hx.len]; exact hlx
  refine ⟨N.1,y1.2,hL.same (s2.trans (s3.trans (s4.trans s6'))),hHa,fun c hc=>(by have:=lx2.1 c (by simpa using hc); omega),by simp only [am]; exact lx2.2,fun rs er=>?_,fun z=>(by simp only [am] at z; rw [eg1] at z; cases z)⟩;simp only [am] at er ⊢;rw [eg1] at er;cases er;refine ⟨by rw [hlW]; exact uT nw hy1 hg1,fun ta H7 hta s7 eta=>?_⟩;rw [rL,<- qf eh1 eg1] at eta;have e7p:=s7 _ _ e6p;refine ⟨_,_,.inr (SqT.of e7p),rfl,_,_,.inr (SqT.of e7p),rfl,?_⟩;walk_at "rd";refine ⟨N,x,actS N x,rfl,rfl,eta,(hE.same s6').same s7,fun ev hev b H8 hb' s8 e8=>?_,fun x2 hon H8 s8=>?_⟩
  ·walk_at "rd";rw [lp hx' hev] at hwk;refine ⟨_,(s7.trans s8) _ _ e63,fun p1 vs1 hp1 pv1=>⟨by decide,fun q0 hq0=>?_⟩⟩;have s9:=ah hp1 (.lst vs1);have sA:=ah hq0 (.tup [V.ref p1,V.ref b]);have s9A:=s9.trans sA;have s6A:=s7.trans (s8.trans s9A);refine q q0 _ ((s16.trans (s7.trans (s8.trans s9))).free hq0) (s16.trans s6A) ?_;rw [<- hwk];exact ⟨p1,b,vs1,upd_same,sA _ _ upd_same,b6 (fun _ _ z=>s9A _ _ z) (h7 pv1),s9A _ _ e8⟩
  ·walk_at "rd";have s68:=s7.trans s8;have hgo:goS N x=.on x2:=hon;rw [pP hx' hgo] at hwk;have hx2:=xp nw hlx hx hgo;obtain ⟨dd,ll,w,ea,eb,rfl⟩:=yH hgo;have eta8:=s8 _ _ eta;rw [ea] at eta8;refine ⟨_,_,.inr (SqT.of (s68 _ _ e6p)),rfl,_,_,.inr (SqT.of eta8),rfl,by decide,fun p9 hp9=>?_⟩;have s9:=ah hp9 (.tup [tx x.1,tx dd]);have ek:upd H8 p9 (.tup [tx x.1,tx dd]) p9=some (.tup ((keyW (x.1,dd)).map kV)):=upd_same;change ∃ v,DGet (upd H8 p9 (.tup [tx x.1,tx dd])) d2 (.ref p9) (some v)/\_;generalize upd H8 p9 (.tup [tx x.1,tx dd])=H9 at s9 ek ⊢;obtain ⟨kv9,ed9,hv9⟩:=(hE.same s6').same (s68.trans s9);have hvx:=hv9 (x.1,dd);rw [eb] at hvx;obtain ⟨u,hu,tw,rfl,etw⟩:=hvx;refine ⟨.ref tw,by rw [<- hu]; exact DGet.t ed9 ek,?_⟩;have eta9:=s9 _ _ eta8;refine ⟨_,_,.inr (SqT.of eta9),rfl,by decide,fun p10 hp10=>?_⟩;have s10:=ah hp10 (.tup [tx ll]);have e10:upd H9 p10 (.tup [tx ll]) p10=some (.tup [tx ll]):=upd_same;change kCatT K (.ref tw) (.ref p10) (upd H9 p10 (.tup [tx ll])) _;generalize upd H9 p10 (.tup [tx ll])=H10 at s10 e10 ⊢;walk_at "rd";refine ⟨_,_,SqT.of (s10 _ _ etw),SqT.of e10,by simp,by simp,by simp,fun p11 hp11=>?_⟩;have s11:=ah hp11 (.tup ([tx w.1,tx w.2]++[tx ll]));have s611:=s68.trans (s9.trans (s10.trans s11));have hnd2:(tr++[x]).Nodup:=by
    rw [List.nodup_append];exact ⟨hnd,by simp,fun a ha b hb' z=>by rw [List.mem_singleton.mp hb'] at z; exact hx' (z ▸ ha)⟩
   exact ⟨m',by omega,tr++[x],_,p11,_,_,rfl,s6'.trans s611,s611 _ _ e63,upd_same,by rw [List.length_append]; simp; omega,hwk,hnd2,fun y hy=>by
    rcases List.mem_append.mp hy with z | z
    ·exact hin y z
    ·rw [List.mem_singleton.mp z]; exact hx,hx2⟩
noncomputable def dw (K:Frag):Sp:=fun vs H Q _=>match vs with
 | [.ref p,.str n]=>∃ (hs:List Named) (h:House),Houses H p hs/\houseOf hs n.cps.toList=some h/\∀ q,HouseAt H q h->Q (.ref q) H
 | _=>False
theorem kW (T:Top K mg):Callee P w K mg base 1 "_law_house_of" ["_law_houses", "_law_name"] (dw K):=by
 refine T.iG.cal dB (by intro vs H Q E h; unfold dw at h; split at h <;> first | rfl | exact h.elim) (fun _ _ _ _ _ _ us hl=>match us,hl with | [_,_],_=>rfl) (fun f cdv A outer s H vs Q E hr h=>?_);unfold dw at h;split at h
 case h_2=>exact h.elim
 refine ⟨_,(ae (aU PassesOwn.never rfl (iterE K rfl (qv 0)) (tupE K rfl rfl (n:=2) (aq (aj (i:=2) dB.nd rfl lc) (aq (aj (i:=3) dB.nd rfl lc) aP))) (ai (aG (aC bf (qv 2) (qv 1)) (ai (ao (qv 3))) aA)))
   (ai (ao (aD (aa (aS ad) (aa (aS ad) ad)))))),?_⟩
 rename_i p s;obtain ⟨n,rfl⟩:∃ x,s=st x:=⟨_,(aF s).symm⟩;obtain ⟨hs,h,⟨vs,e0,pr⟩,eh,q⟩:=h;simp only [am] at eh;have hl:=pr.length;walk_at "rd";refine .inl ⟨⟨_,SqL.of e0⟩,?_⟩;refine bj (xs:=vs) (fun i σ H'=>∃ u v,σ = [some (.ref p),some (.str (st n)),u,v]/\H'=H/\houseOf (hs.drop i) n=some h) ⟨none,none,rfl,rfl,eh⟩ (fun i σ H' _ ⟨_,_,_,z,_⟩=>by rw [z]; exact SqL.of e0) ?_ ?_
 ·rintro i x σ H1 hx ⟨u,v,rfl,rfl,h1⟩;have hi:i < vs.length:=(List.getElem?_eq_some_iff.mp hx).1;have hil:i < hs.length:=by omega
  obtain ⟨y,hy,t,r,ey,et,hr⟩:=aE pr (List.getElem?_eq_getElem hil);obtain rfl:x=.ref t:=by rw [hy] at hx; rw [<- Option.some.inj hx,ey]
  refine ⟨t,[_,_],rfl,SqT.of et,rfl,_,[_],rfl,_,[],rfl,rfl,?_⟩;walk_at "rd";rw [List.drop_eq_getElem_cons hil] at h1;unfold houseOf at h1 ⊢;rw [List.find?_cons] at h1;refine ite2 (fun g=>?_) fun g=>⟨_,_,rfl,?_⟩
  ·rw [show decide (hs[i].1=n)=true by simpa using g] at h1;cases h1;exact q r hr
  ·rw [show decide (hs[i].1=n)=false by simpa using g] at h1;exact h1
 ·rintro σ H1 ⟨u,v,rfl,rfl,h1⟩;rw [<- hl,List.drop_length] at h1;cases h1
noncomputable def eR (K:Frag):Sp:=fun vs H Q _=>match vs with
 | [.ref t,.ref sp,.str l]=>∃ (N:Net) (ps:List Nat) (W:Nat) (w:Way),NetAt H t N/\NetW ps W N/\H sp=some (.tup [tx w.1,tx w.2])/\w ∈ spotsOf N.2.1/\l.cps.toList.length=W/\(∀ c ∈ l.cps.toList,c=48\/c=49) /\
   ∀ q H',H q=none->Same H H'->WalkAt H' q (walkF N 300 [] (w.1,w.2,l.cps.toList))->Q (.ref q) H'
 | _=>False
theorem pS (T:Top K mg):Callee P w K mg base 4 "_law_walk" ["_law_net_here", "_law_spot", "_law_letter"] (eR K):=by
 refine T.lT.cal bx (by intro vs H Q E h; unfold eR at h; split at h <;> first | rfl | exact h.elim) (fun _ _ _ _ _ _ us hl=>match us,hl with | [_,_,_],_=>rfl) (fun f cdv A outer s H vs Q E hr h=>?_);unfold eR at h;split at h
 case h_2=>exact h.elim
 refine ⟨_,(ae (jS (qv 0) (seqE K rfl rfl (n:=3) (aq (aj (i:=3) bx.nd rfl lc) (aq (aj (i:=4) bx.nd rfl lc) (aq (aj (i:=5) bx.nd rfl lc) aP)))))
   (ae (ak (i:=6) bx.nd rfl lc (aS ad))
   (ae (ak (i:=7) bx.nd rfl lc (aD (aa (aw (ixE K rfl) (qv 1) af (fun _ _=>rfl)) (aa (aw (ixE K rfl) (qv 1) af (fun _ _=>rfl)) (aa (qv 2) ad)))))
   (ae (nB PassesOwn.never (aC (vF K rfl hr) (qv 7) (qv 6)) (ae (cF (dC (qv 6) (qv 7)))
   (ae (ak (i:=8) bx.nd rfl lc (au (qC T) hr.m rfl (aa (qv 3) (aa (au (kW T) hr.m rfl (aa (qv 4) (aa (aw (ixE K rfl) (qv 7) af (fun _ _=>rfl)) ad))) (aa (aw (ixE K rfl) (qv 7) af (fun _ _=>rfl)) (aa (aw (ixE K rfl) (qv 7) af (fun _ _=>rfl)) ad))))))
   (ae (aG (aC bf (aw (ixE K rfl) (qv 8) af (fun _ _=>rfl)) (qs [100,114,111,112])) (ai (ao (aD (aa (qv 6) (aa (aD (aa (qs [100,114,111,112]) (aa (aw (ixE K rfl) (qv 7) af (fun _ _=>rfl)) (aa (aw (ixE K rfl) (qv 7) af (fun _ _=>rfl)) (aa (aw (ixE K rfl) (qv 8) af (fun _ _=>rfl)) ad))))) ad))))) aA)
   (ae (aG (aC bf (aw (ixE K rfl) (qv 8) af (fun _ _=>rfl)) (qs [108,111,115,116])) (ai (ao (aD (aa (qv 6) (aa (aD (aa (qs [108,111,115,116]) (aa (aw (ixE K rfl) (qv 7) af (fun _ _=>rfl)) (aa (aw (ixE K rfl) (qv 7) af (fun _ _=>rfl)) ad)))) ad))))) aA)
   (ae (ak (i:=9) bx.nd rfl lc (au (nr T) hr.m rfl (aa (qv 5) (aa (aD (aa (aw (ixE K rfl) (qv 7) af (fun _ _=>rfl)) (aa (aw (ixE K rfl) (qv 8) af (fun _ _=>rfl)) ad))) ad))))
   (ae (aG (aC qx (qv 9) h8) (ai (ao (aD (aa (qv 6) (aa (aD (aa (qs [111,117,116]) (aa (aw (ixE K rfl) (qv 7) af (fun _ _=>rfl)) (aa (aw (ixE K rfl) (qv 8) af (fun _ _=>rfl)) (aa (aw (ixE K rfl) (qv 8) af (fun _ _=>rfl)) ad))))) ad))))) aA)
   (ai (ak (i:=7) bx.nd rfl lc (aD (aa (aw (ixE K rfl) (qv 9) af (fun _ _=>rfl)) (aa (aw (ixE K rfl) (qv 9) af (fun _ _=>rfl)) (aa (aw (ixE K rfl) (qv 8) af (fun _ _=>rfl)) ad)))))))))))))
   (ai (ao (aD (aa (qv 6) (aa (aD (aa (qs [114,105,110,103]) (aa (aB (pq K rfl rfl) rfl T.pF ni (aa (bZ (nt:=1) (fi:=[]) (N':=["_law_step"]) rfl (cscope rfl (by decide +kernel)) (cnames (N:=["_law_net_here", "_law_spot", "_law_letter", "_law_layout_here", "_law_houses", "_law_lines_here", "_law_trail", "_law_coming", "_law_does_here", "_law_beyond_here"]) (sc:=defScope fG) rfl rfl (by decide +kernel)) (bw (by decide)) (iterE K rfl (cz (slE K rfl) (qv 6) (cE (oH K rfl hr (qv 6) (qv 7))) dG)) (fun _ _ _ _ _=>(aj (i:=0) (by show (["_law_step"]:List Str).Nodup; decide +kernel) rfl lc)) (fun _ _ _ _ _=>aZ) (fun _ _ _ _ _=>(aw (ixE K rfl) (qv 0) af (fun _ _=>rfl)))) ad)) ad))) ad))))))))),?_⟩
 rename_i t sp v;obtain ⟨xl,rfl⟩:∃ x,v=st x:=⟨_,(aF v).symm⟩;obtain ⟨N,ps,W,w,hN,nw,esp,hsp,hW,hb,q⟩:=h;simp only [am] at hW hb q;have ok:=nw.ok;obtain ⟨pa,pb,pc,eN,hL,hH,hLn⟩:=id hN;walk_at "rd";refine ⟨[_,_,_],.inr (SqT.of eN),rfl,_,[_,_],rfl,_,[_],rfl,_,[],rfl,rfl,?_⟩;walk_at "rd";refine ⟨by decide,fun g hg=>?_⟩;have s1:=ah hg (.lst []);refine ⟨_,_,.inr (SqT.of (s1 _ _ esp)),rfl,_,_,.inr (SqT.of (s1 _ _ esp)),rfl,by decide,fun p0 hp0=>?_⟩;have s2:=ah hp0 (.tup [tx w.1,tx w.2,V.str (st xl)]);have s12:=s1.trans s2;have hlx:xl.length=W:=hW;refine ⟨fun m σ H'=>∃ (tr:List Step) (x:Step) (p:Addr) (us:List V) (u8 u9:Option V),σ = [some (.ref t),some (.ref sp),some (.str (st xl)),some (.ref pa),some (.ref pb),some (.ref pc),some (.ref g),some (.ref p),u8,u9]/\Same H H'/\H' g=some (.lst us)/\Paired (StepAt H') tr us/\H' p=some (.tup (stepV x))/\m+tr.length=300/\walkF N m tr x=walkF N 300 [] (w.1,w.2,xl)/\tr.Nodup/\(∀ y ∈ tr,InW N ps xl y)/\InW N ps xl x,⟨300,[],(w.1,w.2,xl),p0,[],none,none,rfl,s12,s2 _ _ upd_same,.nil,upd_same,rfl,rfl,.nil,fun y hy=>by simp at hy,⟨hsp,rfl,hb,fun _ _=>rfl⟩⟩,?_⟩;rintro m σ H5 ⟨tr,x,p,us,u8,u9,rfl,s5,eg,pu,ep,hm,hwk,hnd,hin,hx⟩;have few:=nu (hnd) hin (fun i hi=>by rw [hlx]; exact nw.lt i hi);have hfew:tr.length<=288:=by
  refine Nat.le_trans few (Nat.le_trans (Nat.mul_le_mul nw.spots (Nat.pow_le_pow_right (by decide) nw.told)) (by decide))
 obtain ⟨m',rfl⟩:∃ m',m=m'+1:=⟨m - 1,by omega⟩;have hul:=pu.length;walk_at "rd";refine ⟨_,us,SqL.of eg,ep,rfl,jP pu,?_⟩;rw [jo x pu];by_cases hx':x ∈ tr
 ·rw [if_neg (by simp [hx'])];rw [lh hx'] at hwk;have hlt:=z8 hx';refine ⟨⟨_,SqL.of eg⟩,_,us,SqL.of eg,by omega,ep,rfl,jP pu,by rw [jo x pu]; simpa using hx',?_⟩;rw [mZ x pu];refine ⟨us,SqL.of eg,fun c hc=>?_⟩;rw [mW (show atS tr x<=us.length by omega)];have s6:=ah hc (.lst (us.drop (atS tr x)));have e6:upd H5 c (.lst (us.drop (atS tr x))) c=some (.lst (us.drop (atS tr x))):=upd_same;generalize upd H5 c (.lst (us.drop (atS tr x)))=H6 at s6 e6 ⊢;have pd:=iX (atS tr x) (b6 (fun _ _ z=>s6 _ _ z) pu);obtain ⟨z1,z2⟩:=cu pd;have hdl:=pd.length;have hdl2:(tr.drop (atS tr x)).length<=1000:=by rw [List.length_drop]; omega
  refine .inl ⟨⟨_,SqL.of e6⟩,fun D hD=>?_⟩;refine cc (item:=fun x:Step × V=>x.2) (xs:=(tr.drop (atS tr x)).zip (us.drop (atS tr x))) (h:=fun x=>[tx x.1.1]) hD (by rw [z1]; exact SqL.of e6) (by rw [List.length_zip]; omega) (fun _=>by simp) ?_ ?_
  ·intro y H7 out non hy s7 ho _;obtain ⟨t',ey,et'⟩:=z2 y hy;rw [ey];walk_at "rd";refine ⟨_,_,.inr (SqT.of (s7 _ _ et')),rfl,?_⟩;exact ho _ _ rfl (Same.refl _)
  intro H7 s7 e7;rw [show ((tr.drop (atS tr x)).zip (us.drop (atS tr x))).flatMap (fun x=>[tx x.1.1])=((tr.drop (atS tr x)).map (·.1)).map tx by
   rw [cP (fun x:Step × V=>tx x.1.1)]
   conv=>rhs; rw [<- dE (l:=tr.drop (atS tr x)) (m:=us.drop (atS tr x)) hdl,List.map_map,List.map_map]
   rfl] at e7
  walk_at "rd";refine ⟨_,SqL.of e7,by rw [List.length_map,List.length_drop]; omega,by decide,fun a ha=>⟨by decide,fun q0 hq0=>?_⟩⟩;have s67:=s6.trans s7;have s8:=ah ha (.tup (ringV tr x));have sA:=ah hq0 (.tup [V.ref g,V.ref a]);have s68:=s67.trans s8;refine q q0 _ ((s5.trans s68).free hq0) (s5.trans (s68.trans sA)) ?_;rw [<- hwk];exact ⟨g,a,us,upd_same,sA _ _ (s68 _ _ eg),b6 (fun _ _ z=>sA _ _ (s68 _ _ z)) pu,sA _ _ upd_same⟩
 ·rw [if_pos (by simp [hx'])];refine ⟨_,fun σ' H' z=>z,⟨_,eg⟩,us,eg,sizeBig (by omega),?_⟩;have hg':H g=none:=hg;have s6:Same H (upd H5 g (.lst (us++[.ref p]))):=aK s5 hg';have kt:∀ t ts,H5 t=some (.tup ts)->upd H5 g (.lst (us++[.ref p])) t=some (.tup ts):=cx eg;have e6g:upd H5 g (.lst (us++[.ref p])) g=some (.lst (us++[.ref p])):=upd_same;have e6p:=kt _ _ ep;have p6:Paired (StepAt (upd H5 g (.lst (us++[.ref p])))) (tr++[x]) (us++[.ref p]):=dP (b6 kt pu) ⟨p,rfl,e6p⟩;generalize upd H5 g (.lst (us++[.ref p]))=H6 at s6 e6g e6p p6 ⊢;obtain ⟨y1,g1',hy1,hg1,f1,f2,eh1,eg1⟩:=ir ok hx.spot;have eh1:houseOf N.2.1 x.1=some y1.2:=eh1;have eg1:gateOf y1.2.1 x.2.1=some g1'.2:=eg1;refine ⟨_,_,.inr (SqT.of e6p),rfl,N.2.1,y1.2,hH.same s6,by simp only [am]; exact eh1,fun hq1 hHa=>?_⟩;have hlW:x.2.2.length=W:=by rw [hx.len]; exact hlx
  refine ⟨_,_,.inr (SqT.of e6p),rfl,_,_,.inr (SqT.of e6p),rfl,N.1,y1.2,g1'.2,hL.same s6,hHa,(ok.house y1 hy1).nd,by simp only [am]; exact eg1,by simp only [am]; rw [hlW]; exact uT nw hy1 hg1,fun ta H7 s7 eta=>?_⟩;simp only [am] at eta;rw [rL,<- qf eh1 eg1] at eta;have e7p:=s7 _ _ e6p;have e7g:=s7 _ _ e6g;have p7:=b6 (fun _ _ z=>s7 _ _ z) p6;have s17:=s6.trans s7;have fin:∀ {ev:List V} {b:Addr} {H':Hp},goS N x=.stop ev->Same H7 H'->H' b=some (.tup ev)->∀ q0,H' q0=none->Q (.ref q0) (upd H' q0 (.tup [V.ref g,V.ref b])):=fun {ev b H'} hev sH eb q0 hq0=>by
   rw [lp hx' hev] at hwk;have sA:=ah hq0 (.tup [V.ref g,V.ref b]);refine q q0 _ ((s17.trans sH).free hq0) ((s17.trans sH).trans sA) ?_;rw [<- hwk];exact ⟨g,b,_,upd_same,sA _ _ (sH _ _ e7g),b6 (fun _ _ z=>sA _ _ (sH _ _ z)) p7,sA _ _ eb⟩
  walk_at "rd";cases ea:actS N x with
  | drop k=>
   rw [ea] at eta;refine ⟨_,_,.inr (SqT.of eta),rfl,?_⟩;walk_at "rd";rw [if_pos (by decide)];refine ⟨_,_,.inr (SqT.of e7p),rfl,_,_,.inr (SqT.of e7p),rfl,_,_,.inr (SqT.of eta),rfl,by decide,fun b hb'=>⟨by decide,fun q0 hq0=>?_⟩⟩;exact fin (by unfold goS; rw [ea]; rfl) (ah hb' _) upd_same q0 hq0
  | lost=>
   rw [ea] at eta;refine ⟨_,_,.inr (SqT.of eta),rfl,?_⟩;walk_at "rd";rw [if_neg (by decide)];refine ⟨_,_,.inr (SqT.of eta),rfl,?_⟩;walk_at "rd";rw [if_pos (by decide)];refine ⟨_,_,.inr (SqT.of e7p),rfl,_,_,.inr (SqT.of e7p),rfl,by decide,fun b hb'=>⟨by decide,fun q0 hq0=>?_⟩⟩;exact fin (by unfold goS; rw [ea]; rfl) (ah hb' _) upd_same q0 hq0
  | sent dd ll=>
   rw [ea] at eta;refine ⟨_,_,.inr (SqT.of eta),rfl,?_⟩;walk_at "rd";rw [if_neg (by decide)];refine ⟨_,_,.inr (SqT.of eta),rfl,?_⟩;walk_at "rd";rw [if_neg (by decide)];refine ⟨_,_,.inr (SqT.of e7p),rfl,_,_,.inr (SqT.of eta),rfl,by decide,fun p8 hp8=>?_⟩;have s8:=ah hp8 (.tup [tx x.1,tx dd]);have e8:upd H7 p8 (.tup [tx x.1,tx dd]) p8=some (.tup [tx x.1,tx dd]):=upd_same;change c6 K [.ref pc,.ref p8] (upd H7 p8 (.tup [tx x.1,tx dd])) _ _;generalize upd H7 p8 (.tup [tx x.1,tx dd])=H8 at s8 e8 ⊢;refine ⟨N.2.2,(x.1,dd),hLn.same (s17.trans s8),⟨p8,rfl,e8⟩,fun bv H9 s9 ov=>?_⟩;have s79:=s8.trans s9;have e9p:=s79 _ _ e7p;have eta9:=s79 _ _ eta;cases eb:beyondL N.2.2 (x.1,dd) with
   | none=>
    rw [eb] at ov;rw [show bv=.non from ov];walk_at "rd";refine ⟨_,_,.inr (SqT.of e9p),rfl,_,_,.inr (SqT.of eta9),rfl,_,_,.inr (SqT.of eta9),rfl,by decide,fun b hb'=>⟨by decide,fun q0 hq0=>?_⟩⟩;exact fin (by unfold goS; rw [ea]; unfold goA; dsimp only; rw [eb]; rfl) (s79.trans (ah hb' _)) upd_same q0 hq0
   | some wy=>
    rw [eb] at ov;obtain ⟨tw,rfl,etw⟩:=ov;walk_at "rd";have hgo:goS N x=.on (wy.1,wy.2,ll):=by unfold goS; rw [ea]; unfold goA; dsimp only; rw [eb]
    rw [pP hx' hgo] at hwk;have hx2:=xp nw hlx hx hgo;refine ⟨_,_,.inr (SqT.of etw),rfl,_,_,.inr (SqT.of etw),rfl,_,_,.inr (SqT.of eta9),rfl,by decide,fun p10 hp10=>?_⟩;have s10:=ah hp10 (.tup [tx wy.1,tx wy.2,tx ll]);have s710:=s79.trans s10;have hnd2:(tr++[x]).Nodup:=by
     rw [List.nodup_append];exact ⟨hnd,by simp,fun a ha b hb' z=>by rw [List.mem_singleton.mp hb'] at z; exact hx' (z ▸ ha)⟩
    exact ⟨m',by omega,tr++[x],_,p10,us++[.ref p],_,_,rfl,s17.trans s710,s710 _ _ e7g,b6 (fun _ _ z=>s710 _ _ z) p7,upd_same,by rw [List.length_append]; simp; omega,hwk,hnd2,fun y hy=>by
     rcases List.mem_append.mp hy with z | z
     ·exact hin y z
     ·rw [List.mem_singleton.mp z]; exact hx,hx2⟩
noncomputable def fareV (e:List V):List V:=match e with
 | .str h::_=>if h=st outT then e else if h=st ringT then [tx ringT] else [tx lostT]
 | _=>[]
structure EndOk (e:List V):Prop where
 head:∃ h r,e=tx h::r
 flat:e.all flatV=true
 few:e.length<=4
theorem Bv {N:Net} {s:Step} {e:List V} (h:goS N s=.stop e):EndOk e:=by
 unfold goS at h;cases ea:actS N s with
 | drop n=>rw [ea] at h; cases h; exact ⟨⟨_,_,rfl⟩,rfl,by simp⟩
 | lost=>rw [ea] at h; cases h; exact ⟨⟨_,_,rfl⟩,rfl,by simp⟩
 | sent d l=>
  rw [ea] at h;unfold goA at h;dsimp only at h;cases eb:beyondL N.2.2 (s.1,d) with
  | none=>rw [eb] at h; cases h; exact ⟨⟨_,_,rfl⟩,rfl,by simp⟩
  | some w=>rw [eb] at h; cases h
theorem vD {N:Net} {ps l0:List Nat} {W:Nat} (nw:NetW ps W N) (hl0:l0.length=W):∀ (m:Nat) (tr:List Step) (x:Step),m+tr.length=300->tr.Nodup->(∀ y ∈ tr,InW N ps l0 y)->InW N ps l0 x->EndOk (walkF N m tr x).2/\(walkF N m tr x).1.length<=300:=by
 intro m
 induction m with
 | zero=>
  intro tr x hm hnd hin hx;have few:=nu (hnd) hin (fun i hi=>by rw [hl0]; exact nw.lt i hi);have hfew:tr.length<=288:=by
   refine Nat.le_trans few (Nat.le_trans (Nat.mul_le_mul nw.spots (Nat.pow_le_pow_right (by decide) nw.told)) (by decide))
  omega
 | succ m ih=>
  intro tr x hm hnd hin hx;by_cases hx':x ∈ tr
  ·rw [lh hx'];exact ⟨⟨⟨_,_,rfl⟩,rfl,by simp [ringV]⟩,by show tr.length<=300; omega⟩
  ·cases eg:goS N x with
   | stop e=>
    rw [lp hx' eg];exact ⟨Bv eg,by show (tr++[x]).length<=300; rw [List.length_append]; simp; omega⟩
   | on t=>
    rw [pP hx' eg];refine ih (tr++[x]) t (by rw [List.length_append]; simp; omega) ?_ (fun y hy=>?_) (xp nw hl0 hx eg)
    ·rw [List.nodup_append];exact ⟨hnd,by simp,fun a ha b hb' z=>by rw [List.mem_singleton.mp hb'] at z; exact hx' (z ▸ ha)⟩
    ·rcases List.mem_append.mp hy with z | z
     ·exact hin y z
     ·rw [List.mem_singleton.mp z]; exact hx
theorem yR {N:Net} {ps:List Nat} {W:Nat} (nw:NetW ps W N) {w:Way} {l:List Nat} (hw:w ∈ spotsOf N.2.1) (hl:l.length=W) (hb:∀ c ∈ l,c=48\/c=49):EndOk (walkF N 300 [] (w.1,w.2,l)).2/\(walkF N 300 [] (w.1,w.2,l)).1.length<=300:=
 vD nw (l0:=l) hl 300 [] (w.1,w.2,l) rfl .nil (fun y hy=>by simp at hy) ⟨hw,rfl,hb,fun _ _=>rfl⟩
noncomputable def iW (K:Frag):Sp:=fun vs H Q _=>match vs with
 | [.ref a]=>∃ e,H a=some (.tup e)/\EndOk e/\∀ q H',Same H H'->H' q=some (.tup (fareV e))->Q (.ref q) H'
 | _=>False
theorem sy (T:Top K mg):Callee P w K mg base 1 "fared_by" ["end"] (iW K):=by
 refine T.nW.cal sd (by intro vs H Q E h; unfold iW at h; split at h <;> first | rfl | exact h.elim) (fun _ _ _ _ _ _ us hl=>match us,hl with | [_],_=>rfl) (fun f cdv A outer s H vs Q E hr h=>?_);unfold iW at h;split at h
 case h_2=>exact h.elim
 refine ⟨_,(ae (aG (aC bf (aw (ixE K rfl) (qv 0) af (fun _ _=>rfl)) (qs [111,117,116])) (ai (ao (qv 0))) aA)
   (ai (ao (ki (aC bf (aw (ixE K rfl) (qv 0) af (fun _ _=>rfl)) (qs [114,105,110,103])) (aD (aa (qs [114,105,110,103]) ad)) (aD (aa (qs [108,111,115,116]) ad)))))),?_⟩
 rename_i a;obtain ⟨e,ea,ok,q⟩:=h;obtain ⟨h',r,rfl⟩:=ok.head;walk_at "rd";refine ⟨_,_,.inr (SqT.of ea),be (j:=0) rfl,?_⟩;walk_at "rd";unfold fareV at q;dsimp only at q;refine ite2 (fun g=>?_) fun g=>?_
 ·rw [if_pos (dh.mpr (show h'=outT from g))] at q;exact q a H (Same.refl _) ea
 ·rw [if_neg (fun z=>g (dh.mp z:h'=outT))] at q;refine ⟨_,_,.inr (SqT.of ea),be (j:=0) rfl,?_⟩;walk_at "rd";refine ite2 (fun g2=>?_) fun g2=>?_
  ·rw [if_pos (dh.mpr (show h'=ringT from g2))] at q;exact ⟨by decide,fun p hp=>q p _ (ah hp _) upd_same⟩
  ·rw [if_neg (fun z=>g2 (dh.mp z:h'=ringT))] at q;exact ⟨by decide,fun p hp=>q p _ (ah hp _) upd_same⟩
noncomputable def marksM (b1 b2 b4:Bool):List V:=[.bl false,.bl b1,.bl b2,.bl false,.bl b4,.bl false,.bl false,.bl false,.bl false,.bl false,.bl true]
structure MK (K:Frag) (c:Str) (b1 b2 b4:Bool):Prop where
 cl:XCl K (xA K c)
 m0:Xm K c "Misfit" b1
 m1:Xm K c "Twice" false
 m2:Xm K c "NoField" false
 m3:Xm K c "NoRule" false
 m4:Xm K c "NoWay" false
 m5:Xm K c "NoDoor" b2
 m6:Xm K c "NoHouse" b4
 m7:Xm K c "NoLine" false
 m8:Xm K c "BadWord" false
 m9:Xm K c "Unlike" false
 v:Xv K c
 th:Xm K c "ThrongError" true
noncomputable def fZ (K:Frag):Sp:=fun vs H Q _=>match vs with
 | [.ref ea]=>∃ (c:Str) (b1 b2 b4:Bool),H ea=some (XO (xA K c) ea)/\MK K c b1 b2 b4/\∀ p H',H p=none->Same H H'->H' p=some (.lst (marksM b1 b2 b4))->Q (.ref p) H'
 | _=>False
theorem n8 (T:Top K mg):CalleeH P w K mg base 1 "_law_marks" ["_law_e"] (fZ K):=by
 refine T.kQ.calH gr (by intro vs H Q E h; unfold fZ at h; split at h <;> first | rfl | exact h.elim) (fun _ _ _ _ _ _ us hl=>match us,hl with | [_],_=>rfl) (fun f cdv A outer s H vs Q E hr h=>?_);unfold fZ at h;split at h
 case h_2=>exact h.elim
 refine ⟨_,(ae (ak (i:=1) gr.nd rfl lc (aS (aa (dj K rfl rfl rfl T.az (qv 0) (gj T.lA rfl)) (aa (dj K rfl rfl rfl T.az (qv 0) (gj T.gF rfl)) (aa (dj K rfl rfl rfl T.az (qv 0) (gj T.gD rfl)) (aa (dj K rfl rfl rfl T.az (qv 0) (gj T.gI rfl)) ad))))))
   (ae (ak (i:=1) gr.nd rfl lc (ar ap (qv 1) (aS (aa (dj K rfl rfl rfl T.az (qv 0) (gj T.eU rfl)) (aa (dj K rfl rfl rfl T.az (qv 0) (gj T.nR rfl)) (aa (dj K rfl rfl rfl T.az (qv 0) (gj T.nN rfl)) (aa (dj K rfl rfl rfl T.az (qv 0) (gj T.qU rfl)) ad)))))))
   (ai (ao (ar ap (qv 1) (aS (aa (dj K rfl rfl rfl T.az (qv 0) (gj T.qV rfl)) (aa (dj K rfl rfl rfl T.az (qv 0) (gj T.nO rfl)) (aa (dj K rfl rfl rfl T.az (qv 0) (Ab rfl T.kB oD)) ad))))))))),?_⟩
 rename_i ea;obtain ⟨c,b1,b2,b4,e0,⟨xc,m0,m1,m2,m3,m4,m5,m6,m7,m8,m9,v,_⟩,q⟩:=h;walk_at "rd";refine ⟨_,false,e0,xc,Xn.kit m8 T.lA,_,b1,e0,xc,Xn.kit m0 T.gF,_,b2,e0,xc,Xn.kit m5 T.gD,_,false,e0,xc,Xn.kit m2 T.gI,by decide,fun p1 hp1=>?_⟩;have s1:=ah hp1 (.lst [.bl false,.bl b1,.bl b2,.bl false]);have f1:upd H p1 (.lst [.bl false,.bl b1,.bl b2,.bl false]) p1=some (.lst [.bl false,.bl b1,.bl b2,.bl false]):=upd_same;have x1:=s1 _ _ e0;generalize upd H p1 (.lst [.bl false,.bl b1,.bl b2,.bl false])=H1 at s1 f1 x1 ⊢;walk_at "rd";refine ⟨_,b4,x1,xc,Xn.kit m6 T.eU,_,false,x1,xc,Xn.kit m7 T.nR,_,false,x1,xc,Xn.kit m3 T.nN,_,false,x1,xc,Xn.kit m4 T.qU,by decide,fun p2 hp2=>?_⟩;have s2:=ah hp2 (.lst [.bl b4,.bl false,.bl false,.bl false]);have f2:upd H1 p2 (.lst [.bl b4,.bl false,.bl false,.bl false]) p2=some (.lst [.bl b4,.bl false,.bl false,.bl false]):=upd_same;have f12:=s2 _ _ f1;generalize upd H1 p2 (.lst [.bl b4,.bl false,.bl false,.bl false])=H2 at s2 f2 f12 ⊢;walk_at "rd";refine ⟨[.bl false,.bl b1,.bl b2,.bl false],[.bl b4,.bl false,.bl false,.bl false],f12,f2,Nat.le_of_lt (sizeBig (by simp)),fun p3 hp3=>?_⟩;have s3:=ah hp3 (.lst [.bl false,.bl b1,.bl b2,.bl false,.bl b4,.bl false,.bl false,.bl false]);have f3:upd H2 p3 (.lst [.bl false,.bl b1,.bl b2,.bl false,.bl b4,.bl false,.bl false,.bl false]) p3=some (.lst [.bl false,.bl b1,.bl b2,.bl false,.bl b4,.bl false,.bl false,.bl false]):=upd_same;have s13:=s1.trans (s2.trans s3);have x3:=s13 _ _ e0;walk_at "rd";generalize upd H2 p3 (.lst [.bl false,.bl b1,.bl b2,.bl false,.bl b4,.bl false,.bl false,.bl false])=H3 at s3 f3 s13 x3 ⊢;refine ⟨_,false,x3,xc,Xn.kit m1 T.qV,_,false,x3,xc,Xn.kit m9 T.nO,_,true,x3,xc,Xv.kit v,by decide,fun p4 hp4=>?_⟩;have s4:=ah hp4 (.lst [.bl false,.bl false,.bl true]);have f4:upd H3 p4 (.lst [.bl false,.bl false,.bl true]) p4=some (.lst [.bl false,.bl false,.bl true]):=upd_same;have f34:=s4 _ _ f3;generalize upd H3 p4 (.lst [.bl false,.bl false,.bl true])=H4 at s4 f4 f34 ⊢;walk_at "rd";refine ⟨[.bl false,.bl b1,.bl b2,.bl false,.bl b4,.bl false,.bl false,.bl false],[.bl false,.bl false,.bl true],f34,f4,Nat.le_of_lt (sizeBig (by simp)),fun p5 hp5=>?_⟩;exact q p5 _ (s13.free (s4.free hp5)) (s13.trans (s4.trans (ah hp5 _))) upd_same
noncomputable def misfitT:List Nat:=[77,105,115,102,105,116]
noncomputable def noDoorT:List Nat:=[78,111,68,111,111,114]
noncomputable def noHouseT:List Nat:=[78,111,72,111,117,115,101]
noncomputable def clsL (i:Nat):List Nat:=if i=0 then misfitT else if i=1 then noDoorT else noHouseT
noncomputable def clsS (i:Nat):Str:=if i=0 then "Misfit" else if i=1 then "NoDoor" else "NoHouse"
noncomputable def marksI (i:Nat):List V:=marksM (i == 0) (i == 1) (i == 2)
noncomputable def classL:List (List Nat):=[[66,97,100,87,111,114,100],misfitT,noDoorT,[78,111,70,105,101,108,100],noHouseT,[78,111,76,105,110,101],[78,111,82,117,108,101],[78,111,87,97,121],[84,119,105,99,101],[85,110,108,105,107,101]]
noncomputable def dk (K:Frag):Sp:=fun vs H Q _=>match vs with
 | [.str n]=>∃ i:Nat,i < 3/\n=st (clsL i)/\∀ p H',H p=none->Same H H'->H' p=some (.lst (marksI i))->Q (.ref p) H'
 | _=>False
theorem c9 (T:Top K mg):Callee P w K mg base 1 "_law_marks_due" ["_law_name"] (dk K):=by
 refine T.gH.cal fu (by intro vs H Q E h; unfold dk at h; split at h <;> first | rfl | exact h.elim) (fun _ _ _ _ _ _ us hl=>match us,hl with | [_],_=>rfl) (fun f cdv A outer s H vs Q E hr h=>?_);unfold dk at h;split at h
 case h_2=>exact h.elim
 refine ⟨_,(ae (ak (i:=1) fu.nd rfl lc (aS (aa (qs [66,97,100,87,111,114,100]) (aa (qs [77,105,115,102,105,116]) (aa (qs [78,111,68,111,111,114]) (aa (qs [78,111,70,105,101,108,100]) (aa (qs [78,111,72,111,117,115,101]) (aa (qs [78,111,76,105,110,101]) (aa (qs [78,111,82,117,108,101]) (aa (qs [78,111,87,97,121]) (aa (qs [84,119,105,99,101]) (aa (qs [85,110,108,105,107,101]) ad))))))))))))
   (ai (ao (ar ap (bZ (nt:=1) (fi:=[0]) (N':=["_law_own", "_law_name"]) rfl (cscope rfl (by decide +kernel)) (cnames (N:=["_law_name", "_law_some"]) (sc:=defScope cJ) rfl rfl (by decide +kernel)) (bw (by decide)) (iterE K rfl (qv 1)) (fun _ _ _ _ _=>(aj (i:=0) (by show (["_law_own", "_law_name"]:List Str).Nodup; decide +kernel) rfl lc)) (fun _ _ _ _ _=>aZ) (fun _ _ _ _ _=>(jM bf (qv 0) (qv 1)))) (aS (aa dm ad)))))),?_⟩
 rename_i n;obtain ⟨i,hi,rfl,q⟩:=h;walk_at "rd";refine ⟨by decide,fun p hp=>?_⟩;have s1:=ah hp (.lst (classL.map tx));have e1:upd H p (.lst (classL.map tx)) p=some (.lst (classL.map tx)):=upd_same;change ((∃ xs,SqL K (upd H p (.lst (classL.map tx))) p xs)/\∀ D,upd H p (.lst (classL.map tx)) D=none->compW _ _ _ _ _ D _ (upd H p (.lst (classL.map tx))))\/_;generalize upd H p (.lst (classL.map tx))=H1 at s1 e1 ⊢;have hcl:classL.length<=100000:=by simp [classL]
 refine .inl ⟨⟨_,SqL.of e1⟩,fun D hD=>?_⟩;refine cc (item:=tx) (xs:=classL) (h:=fun x=>[V.bl (decide (x=clsL i))]) hD (SqL.of e1) hcl (fun _=>by simp) ?_ ?_
 ·intro x H2 out non hx s2 ho _;walk_at "rd";exact ho _ _ rfl (Same.refl _)
 intro H2 s2 e2;have e3:classL.flatMap (fun x=>[V.bl (decide (x=clsL i))])++[V.bl true]=marksI i:=by
  have:i=0\/i=1\/i=2:=by omega
  rcases this with rfl | rfl | rfl <;> rfl
 refine ⟨by decide,fun p3 hp3=>?_⟩;have s3:=ah hp3 (.lst [V.bl true]);walk_at "rd";refine ⟨_,_,s3 _ _ e2,upd_same,Nat.le_of_lt (sizeBig (by rw [cP (fun x=>V.bl (decide (x=clsL i))),List.length_map]; simp [classL])),fun p4 hp4=>?_⟩;have s4:=ah hp4 (.lst (classL.flatMap (fun x=>[V.bl (decide (x=clsL i))])++[V.bl true]));exact q p4 _ (s1.free (s2.free (s3.free hp4))) (s1.trans (s2.trans (s3.trans s4))) (by rw [upd_same,e3])
theorem BE (T:Top K mg) {i:Nat} (h:i < 3):MK K (clsS i) (i == 0) (i == 1) (i == 2):=by
 have:i=0\/i=1\/i=2:=by omega
 rcases this with rfl | rfl | rfl
 ·exact ⟨T.gF.2,T.bU,T.cf,T.bD,T.bV,T.cg,T.bN,T.bC,T.bQ,T.bK,T.bP,T.gK,T.aR⟩
 ·exact ⟨T.gD.2,T.bY,T.cj,T.bH,T.bR,T.ci,T.bS,T.bI,T.bX,T.bL,T.bW,T.gE,T.aQ⟩
 ·exact ⟨T.eU.2,T.bG,T.bT,T.bn,T.bM,T.bO,T.bF,T.bp,T.bE,T.bo,T.bJ,T.eX,T.aN⟩
theorem cY {H:Hp} {p:Addr} {i:Nat} (h:H p=some (.lst (marksI i))):Deep K H 1 (.ref p) (.l ((marksI i).map D.f)):=
 .inr (.inl ⟨p,_,_,rfl,rfl,SqL.of h,du rfl⟩)
theorem k8 {i:Nat} (h:i < 3):¬ (eqD (.l ((marksI i).map D.f)) (.l ((marksI i).map D.f)))=false:=by
 have:i=0\/i=1\/i=2:=by omega
 rcases this with rfl | rfl | rfl <;> decide +kernel
def Refuse (N:Net) (n d:List Nat) (v:V) (W i:Nat):Prop:=(i=2/\houseOf N.2.1 n=none)\/(i=1/\∃ h,houseOf N.2.1 n=some h/\gateOf h.1 d=none)\/(i=0/\(∃ h rs,houseOf N.2.1 n=some h/\gateOf h.1 d=some rs)/\textOf v (W:Int) [48,49]=false)
theorem kl {K:Frag} {H:Hp} {t:Addr} {n d:Str} {v:V} {N:Net} {ps:List Nat} {W i:Nat} {Q:VK} {E:XK} (hN:NetAt H t N) (nw:NetW ps W N) (k1:∀ c ∈ n.cps.toList,c < 16 ^ 8) (k2:n.cps.toList.length<=1000) (k3:∀ c ∈ d.cps.toList,c < 16 ^ 8) (k4:d.cps.toList.length<=1000) (hs:Shown H v) (hr:Refuse N n.cps.toList d.cps.toList v W i)
  (q:∀ H',Same H H'->E (.ref (xA K (clsS i))) none H'):fB K [.ref t,.str n,.str d,v] H Q E:=by
 refine ⟨N,ps,W,hN,nw,k1,k2,k3,k4,hs,fun z H' s=>?_,fun h eh=>⟨fun z H' s=>?_,fun rs er=>⟨fun z H' s=>?_,fun l el hl hb=>?_⟩⟩⟩
 ·rcases hr with ⟨rfl,_⟩ | ⟨_,h,e,_⟩ | ⟨_,⟨h,rs,e,_⟩,_⟩
  ·exact q H' s
  ·rw [z] at e; cases e
  ·rw [z] at e; cases e
 ·rcases hr with ⟨_,e⟩ | ⟨rfl,_⟩ | ⟨_,⟨h',rs,e,e2⟩,_⟩
  ·rw [eh] at e; cases e
  ·exact q H' s
  ·rw [eh] at e; cases e; rw [z] at e2; cases e2
 ·rcases hr with ⟨_,e⟩ | ⟨_,h',e,e2⟩ | ⟨rfl,_⟩
  ·rw [eh] at e; cases e
  ·rw [eh] at e; cases e; rw [er] at e2; cases e2
  ·exact q H' s
 ·exfalso;rcases hr with ⟨_,e⟩ | ⟨_,h',e,e2⟩ | ⟨_,_,e3⟩
  ·rw [eh] at e; cases e
  ·rw [eh] at e; cases e; rw [er] at e2; cases e2
  ·rw [el,oI hl hb] at e3;cases e3
noncomputable def gQ (K:Frag):Sp:=fun vs H Q E=>match vs with
 | [.ref t,.str n,.str d,v]=>∃ (N:Net) (ps:List Nat) (W i:Nat),NetAt H t N/\NetW ps W N/\(∀ c ∈ n.cps.toList,c < 16 ^ 8)/\n.cps.toList.length<=1000/\(∀ c ∈ d.cps.toList,c < 16 ^ 8)/\d.cps.toList.length<=1000/\Shown H v/\Refuse N n.cps.toList d.cps.toList v W i/\∀ H',Same H H'->E (.ref (xA K (clsS i))) none H'
 | _=>False
theorem pL (T:Top K mg):CalleeX P w K mg base 6 "net_fared" ["net", "house", "door", "letter"] (gQ K):=by
 refine T.lO.calX qg (by intro vs H Q E h; unfold gQ at h; split at h <;> first | rfl | exact h.elim) (fun _ _ _ _ _ _ us hl=>match us,hl with | [_,_,_,_],_=>rfl) (fun f cdv A outer s H vs Q E hr h=>?_);unfold gQ at h;split at h
 case h_2=>exact h.elim
 refine ⟨_,(ai (ao (au (sy T) hr.m rfl (aa (aw (ixE K rfl) (i5 (iJ T) hr.m cW rfl (aa (qv 0) (aa (qv 1) (aa (qv 2) (aa (qv 3) ad))))) af (fun _ _=>rfl)) ad)))),?_⟩;rename_i t n d v;obtain ⟨N,ps,W,i,hN,nw,k1,k2,k3,k4,hs,hr',q⟩:=h;walk_at "rd";exact kl hN nw k1 k2 k3 k4 hs hr' q
noncomputable def d4 (K:Frag):Sp:=fun vs H Q _=>match vs with
 | [.int w,.ref t,.str n,.str d,v]=>∃ (N:Net) (ps:List Nat) (W i:Nat),i < 3/\NetAt H t N/\NetW ps W N/\(∀ c ∈ n.cps.toList,c < 16 ^ 8)/\n.cps.toList.length<=1000/\(∀ c ∈ d.cps.toList,c < 16 ^ 8)/\d.cps.toList.length<=1000/\Shown H v/\Refuse N n.cps.toList d.cps.toList v W i /\
   ∀ p H',H p=none->Same H H'->H' p=some (.lst (marksI i))->Q (.ref p) H'
 | _=>False
theorem dR (T:Top K mg):Callee P w K mg base 7 "_law_refused" ["_law_way", "_law_net_here", "_law_house_here", "_law_door", "_law_letter"] (d4 K):=by
 refine T.jc.cal cT (by intro vs H Q E h; unfold d4 at h; split at h <;> first | rfl | exact h.elim) (fun _ _ _ _ _ _ us hl=>match us,hl with | [_,_,_,_,_],_=>rfl) (fun f cdv A outer s H vs Q E hr h=>?_);unfold d4 at h;split at h
 case h_2=>exact h.elim
 refine ⟨_,(ae (ak (i:=5) cT.nd rfl lc (aS ad))
   (ae (xN (D:=xA K "ThrongError") (i:=6) (fun _ _=>(ai (aG (aC bf (qv 0) af) (ai (cF (wx (iJ T) hr.m passesT rfl (aa (qv 1) (aa (qv 2) (aa (qv 3) (aa (qv 4) ad))))))) (ai (cF (wx (pL T) hr.m passesT rfl (aa (qv 1) (aa (qv 2) (aa (qv 3) (aa (qv 4) ad)))))))))) (fun _=>(ai (ak (i:=5) cT.nd rfl lc (AG (n8 T) ((hr.h.mark _).mono (by first | decide | omega)) rfl (aa (qv 6) ad))))) rfl rfl rfl T.gu.1 T.gu.2 cT.nd rfl rfl)
   (ai (ao (qv 5))))),?_⟩
 rename_i w' t n d v;obtain ⟨N,ps,W,i,hi,hN,nw,k1,k2,k3,k4,hs,hr',q⟩:=h;walk_at "rd";refine ⟨by decide,fun p hp=>?_⟩;have s1:=ah hp (.lst []);have mk:=BE T hi;have hN1:=hN.same s1;have hs1:=hs.same s1;refine ite2 (fun _=>kl hN1 nw k1 k2 k3 k4 hs1 hr' fun H2 s2=>?_) fun _=>⟨N,ps,W,i,hN1,nw,k1,k2,k3,k4,hs1,hr',fun H2 s2=>?_⟩
 ·exact ⟨_,rfl,mk.th.caught,fun ea hea=>⟨clsS i,_,_,_,upd_same,mk,fun p3 H3 hp3 s3 e3=>q p3 H3 (s1.free (s2.free ((ah hea _).free hp3))) (s1.trans (s2.trans ((ah hea _).trans s3))) e3⟩⟩
 ·exact ⟨_,rfl,mk.th.caught,fun ea hea=>⟨clsS i,_,_,_,upd_same,mk,fun p3 H3 hp3 s3 e3=>q p3 H3 (s1.free (s2.free ((ah hea _).free hp3))) (s1.trans (s2.trans ((ah hea _).trans s3))) e3⟩⟩
theorem nH {X:Cx} {l:List Stmt} {t u:TS} (h:PSs X l t) (k:∀ D σ H,u D σ H->t D σ H):PSs X l u:=fun p s σ H D I q=>h p s σ H D I (k _ _ _ q)
noncomputable def oddL:List Nat:=[45,50,32,120,79,111,42,43,46,97,95]
theorem qE {l:List Nat} {W:Nat} (h:l.length≠W):textOf (tx l) (W:Int) [48,49]=false:=by
 unfold textOf;simp only [am];rw [show decide ((l.length:Int)=(W:Int))=false by simp; omega];rfl
theorem zR {l:List Nat} {W c:Nat} (hc:c ∈ l) (h:c≠48/\c≠49):textOf (tx l) (W:Int) [48,49]=false:=by
 unfold textOf;simp only [am];rw [Bool.and_eq_false_iff];right;rw [List.all_eq_false];exact ⟨c,hc,by simpa using h⟩
noncomputable def cU (K:Frag):Sp:=fun vs H Q _=>match vs with
 | [.ref a,.int k,.str l]=>∃ (ns:List Int) (k0:Nat),SqL K H a (ns.map V.int)/\k=(k0:Int)/\k0<=10000/\1<=l.cps.toList.length/\l.cps.toList.length<=99/\(∀ c ∈ l.cps.toList,c=48\/c=49) /\
   ∀ v H',Same H H'->Shown H' v->textOf v (l.cps.toList.length:Int) [48,49]=false->Q v H'
 | _=>False
def OddQ (D:Ends) (H:Hp) (l:List Nat):Prop:=∀ v H',Same H H'->Shown H' v->textOf v (l.length:Int) [48,49]=false->D.rt v H'
structure OddF (l:List Nat) (k0 r1 c:Nat):Prop where
 hk:k0<=10000
 l1:1<=l.length
 l9:l.length<=99
 bits:∀ c ∈ l,c=48\/c=49
 at_:r1 < l.length
 sign:c ∈ oddL
theorem wW {c:Nat} (h:c ∈ oddL):(c≠48/\c≠49)/\c < 16 ^ 8:=by
 unfold oddL at h;simp only [List.mem_cons,List.not_mem_nil,or_false] at h;omega
theorem dq {H:Hp} {l:List Nat} (h1:∀ c ∈ l,c < 16 ^ 8) (h2:l.length<=1000):Shown H (tx l):=by
 show (∀ c ∈ (st l).cps.toList,c < 16 ^ 8)/\(st l).cps.toList.length<=1000;rw [am];exact ⟨h1,h2⟩
theorem rF {l:List Nat} {r c:Nat} (hb:∀ c ∈ l,c=48\/c=49) (hc:(c≠48/\c≠49)/\c < 16 ^ 8) (hl:l.length<=99) (W:Nat) (H:Hp):Shown H (tx (l.take r++[c]++l.drop (r+1)))/\textOf (tx (l.take r++[c]++l.drop (r+1))) (W:Int) [48,49]=false:=by
 refine ⟨dq (fun d hd=>?_) ?_,zR (c:=c) (by simp) hc.1⟩
 ·simp only [List.mem_append,List.mem_singleton] at hd;rcases hd with (z | z) | z
  ·have:=hb d (List.mem_of_mem_take z); omega
  ·rw [z]; exact hc.2
  ·have:=hb d (List.mem_of_mem_drop z); omega
 ·rw [List.length_append,List.length_append,List.length_singleton,List.length_take,List.length_drop];omega
noncomputable def mOdd3 (K:Frag):TS:=fun D σ H=>∀ C:TS,(∀ (a sm:Addr) (ns:List Int) (k0 r1 c:Nat) (l:List Nat) (v4:V) (xs:List V),SqL K H a (ns.map V.int)->OddF l k0 r1 c->H sm=some (.lst xs)->xs.length=9->(∀ v ∈ xs,Shown H v/\textOf v (l.length:Int) [48,49]=false)->OddQ D H l->C D [some (.ref a),some (nV k0),some (tx l),some (nV r1),some v4,some (.ref sm)] H)->C D σ H
noncomputable def mOdd2 (K:Frag):TS:=fun D σ H=>∀ C:TS,(∀ (a:Addr) (ns:List Int) (k0 r1 c:Nat) (l:List Nat),SqL K H a (ns.map V.int)->OddF l k0 r1 c->OddQ D H l->C D [some (.ref a),some (nV k0),some (tx l),some (nV r1),some (tx [c]),none] H)->C D σ H
theorem Ap (T:Top K mg) {f:Addr} {cdv:Value} {A:Around} {outer:List Env} {s:Shared} {H₀:Hp} {E:XK} (hr:Room 1 (A.deeper (PyProof.Rows.envOfC "_law_odd_letter" (defScope aJ) s.heap.objs.size f cdv))):
  PSs (cxOf CX0 P w K mg base ["_law_script", "_law_k", "_law_letter", "_law_at", "_law_sign", "_law_some"] "_law_odd_letter" (defScope aJ) f cdv A outer s H₀ E).nox ((defBody aJ).drop 3) (mOdd3 K):=by
 refine nH (ai (ao (aw (ixE K rfl) (ar ap (qv 5) (@aS _ _ _ _ (@aa _ _ _ _ _ (ar ap (qs [48]) (qv 2)) (@aa _ _ _ _ _ (ar ap (ar ap (cz (slE K rfl) (qv 2) dG (cE (qv 3))) (qs [45])) (cz (slE K rfl) (qv 2) (cE (ar ap (qv 3) af)) dG)) (@ad _) (by rfl)) (by rfl)))) (au (al T) hr.m rfl (aa (qv 0) (aa (ar ap (qv 1) af) (aa af ad)))) (fun _ _=>rfl)))) fun D σ H h=>h _ fun a sm ns k0 r1 c l v4 xs hS F es hxl hx q=>?_
 have hk:=F.hk;have h1:=F.l1;have h2:=F.l9;have hat:=F.at_;have hlt:=List.length_take_le r1 l;have hld:(l.drop (r1+1)).length<=l.length:=by rw [List.length_drop]; omega
 have ht:((r1:Int)+1).toNat=r1+1:=by omega
 walk_at "rd";rw [Int.toNat_natCast,ht];refine ⟨by omega,by omega,by omega,by omega,by omega,by omega,by omega,by omega,by rw [List.length_append]; simp; omega,by decide,fun p hp=>?_⟩;have s1:=ah hp (.lst [tx (48::l),tx (l.take r1++[45]++l.drop (r1+1))]);have e1:upd H p (.lst [tx (48::l),tx (l.take r1++[45]++l.drop (r1+1))]) p=some (.lst [tx (48::l),tx (l.take r1++[45]++l.drop (r1+1))]):=upd_same;change ∃ xs zs,upd H p (.lst [tx (48::l),tx (l.take r1++[45]++l.drop (r1+1))]) sm=some (.lst xs)/\_;generalize upd H p (.lst [tx (48::l),tx (l.take r1++[45]++l.drop (r1+1))])=H1 at s1 e1 ⊢;refine ⟨xs,_,s1 _ _ es,e1,by rw [hxl]; show 9+2<=sizeLine; decide,fun p2 hp2=>?_⟩;have s2:=ah hp2 (.lst (xs++[tx (48::l),tx (l.take r1++[45]++l.drop (r1+1))]));have e2:upd H1 p2 (.lst (xs++[tx (48::l),tx (l.take r1++[45]++l.drop (r1+1))])) p2=some (.lst (xs++[tx (48::l),tx (l.take r1++[45]++l.drop (r1+1))])):=upd_same;generalize upd H1 p2 (.lst (xs++[tx (48::l),tx (l.take r1++[45]++l.drop (r1+1))]))=H2 at s2 e2 ⊢;have s12:=s1.trans s2;refine aM (s12.seq hS) (by omega) (by omega) (by decide) (by decide) fun r3 hr3=>?_
 have hr3':r3 < (xs++[tx (48::l),tx (l.take r1++[45]++l.drop (r1+1))]).length:=by rw [List.length_append,hxl]; simp; omega
 refine ⟨_,_,.inl (SqL.of e2),be (List.getElem?_eq_getElem hr3'),?_⟩;have hm:=List.getElem_mem hr3';generalize (xs++[tx (48::l),tx (l.take r1++[45]++l.drop (r1+1))])[r3]=v at hm ⊢;rcases List.mem_append.mp hm with z | z
 ·obtain ⟨y1,y2⟩:=hx v z;exact q v H2 s12 (y1.same s12) y2
 ·simp only [List.mem_cons,List.not_mem_nil,or_false] at z;rcases z with rfl | rfl
  ·exact q _ H2 s12 (dq (fun d hd=>by
    rcases List.mem_cons.mp hd with rfl | hd
    ·decide
    ·have:=F.bits d hd; omega) (by rw [List.length_cons]; omega)) (qE (by rw [List.length_cons]; omega))
  ·obtain ⟨y1,y2⟩:=rF (r:=r1) (c:=45) F.bits ⟨by decide,by decide⟩ h2 l.length H2;exact q _ H2 s12 y1 y2
theorem Ai (T:Top K mg) {f:Addr} {cdv:Value} {A:Around} {outer:List Env} {s:Shared} {H₀:Hp} {E:XK} (hr:Room 1 (A.deeper (PyProof.Rows.envOfC "_law_odd_letter" (defScope aJ) s.heap.objs.size f cdv))):
  PSs (cxOf CX0 P w K mg base ["_law_script", "_law_k", "_law_letter", "_law_at", "_law_sign", "_law_some"] "_law_odd_letter" (defScope aJ) f cdv A outer s H₀ E).nox ((defBody aJ).drop 2) (mOdd2 K):=by
 refine nH (ae (ak (i:=5) cp.nd rfl lc (@aS _ _ _ _ (@aa _ _ _ _ _ h8 (@aa _ _ _ _ _ af (@aa _ _ _ _ _ dm (@aa _ _ _ _ _ (qs []) (@aa _ _ _ _ _ (ar ap (qv 2) (qs [48])) (@aa _ _ _ _ _ (cz (slE K rfl) (qv 2) (cE af) dG) (@aa _ _ _ _ _ (ar ap (ar ap (cz (slE K rfl) (qv 2) dG (cE (qv 3))) (qv 4)) (cz (slE K rfl) (qv 2) (cE (ar ap (qv 3) af)) dG)) (@aa _ _ _ _ _ (@aS _ _ _ _ (@aa _ _ _ _ _ (qv 2) (@ad _) (by rfl))) (@aa _ _ _ _ _ (@aD _ _ _ _ _ (@aa _ _ _ _ _ (qs [48]) (@aa _ _ _ _ _ (qv 2) (@ad _) (by rfl)) (by rfl))) (@ad _) (by rfl)) (by rfl)) (by rfl)) (by rfl)) (by rfl)) (by rfl)) (by rfl)) (by rfl)) (by rfl))))
   (Ap T hr)) fun D σ H h=>h _ fun a ns k0 r1 c l hS F q=>?_
 have hk:=F.hk;have h1:=F.l1;have h2:=F.l9;have hat:=F.at_;have hlt:=List.length_take_le r1 l;have hld:(l.drop (r1+1)).length<=l.length:=by rw [List.length_drop]; omega
 have ht:((r1:Int)+1).toNat=r1+1:=by omega
 have hbl:∀ d ∈ l,d < 16 ^ 8:=fun d hd=>by have:=F.bits d hd; omega
 walk_at "rd";rw [Int.toNat_natCast,ht];refine ⟨by omega,by omega,by omega,by omega,by omega,by omega,by omega,by omega,by omega,by omega,by rw [List.length_append]; simp; omega,by decide,fun p hp=>⟨by decide,fun p1 hp1=>⟨by decide,fun p2 hp2=>?_⟩⟩⟩;have s1:=ah hp (.lst [tx l]);have e1:upd H p (.lst [tx l]) p=some (.lst [tx l]):=upd_same;generalize upd H p (.lst [tx l])=H1 at s1 e1 hp1 hp2 ⊢;have s2:=ah hp1 (.tup [V.str (st [48]),tx l]);have e2:upd H1 p1 (.tup [V.str (st [48]),tx l]) p1=some (.tup [V.str (st [48]),tx l]):=upd_same;generalize upd H1 p1 (.tup [V.str (st [48]),tx l])=H2 at s2 e2 hp2 ⊢;have s3:=ah hp2 (.lst [V.non,V.int 7,V.bl true,V.str (st []),V.str (st (l++[48])),V.str (st (l.drop (Int.toNat 1))),V.str (st (l.take r1++[c]++l.drop (r1+1))),V.ref p,V.ref p1]);have s13:=s1.trans (s2.trans s3);refine fun C hC=>hC a p2 ns k0 r1 c l _ _ (s13.seq hS) F upd_same rfl (fun v hv=>?_) fun v H' s' h1 h2=>q v H' (s13.trans s') h1 h2
 have few1:Few [l]:=⟨by simp,fun x hx=>by rw [List.mem_singleton.mp hx]; exact ⟨by omega,hbl⟩⟩;have few2:Few [[48],l]:=⟨by simp,fun x hx=>by
  rcases List.mem_cons.mp hx with rfl | hx
  ·exact ⟨by decide,by decide⟩
  ·rw [List.mem_singleton.mp hx]; exact ⟨by omega,hbl⟩⟩
 have ep:=(s2.trans s3) _ _ e1;have ep1:=s3 _ _ e2;simp only [List.mem_cons,List.not_mem_nil,or_false] at hv;rcases hv with rfl | rfl | rfl | rfl | rfl | rfl | rfl | rfl | rfl
 ·exact ⟨trivial,rfl⟩
 ·exact ⟨rfl,rfl⟩
 ·exact ⟨trivial,rfl⟩
 ·exact ⟨dq (fun d hd=>by simp at hd) (by simp),qE (l:=[]) (by simp; omega)⟩
 ·exact ⟨dq (fun d hd=>by
   rcases List.mem_append.mp hd with z | z
   ·exact hbl d z
   ·rw [List.mem_singleton.mp z]; decide) (by rw [List.length_append]; simp; omega),qE (by rw [List.length_append]; simp)⟩
 ·exact ⟨dq (fun d hd=>hbl d (List.mem_of_mem_drop hd)) (by rw [List.length_drop]; omega),qE (by rw [List.length_drop]; show l.length - 1≠l.length; omega)⟩
 ·exact rF F.bits (wW F.sign) h2 l.length _
 ·exact ⟨⟨[l],few1,.inl ep⟩,rfl⟩
 ·exact ⟨⟨[[48],l],few2,.inr ep1⟩,rfl⟩
theorem j0 (T:Top K mg):Callee P w K mg base 2 "_law_odd_letter" ["_law_script", "_law_k", "_law_letter"] (cU K):=by
 refine T.fJ.cal cp (by intro vs H Q E h; unfold cU at h; split at h <;> first | rfl | exact h.elim) (fun _ _ _ _ _ _ us hl=>match us,hl with | [_,_,_],_=>rfl) (fun f cdv A outer s H vs Q E hr h=>?_);unfold cU at h;split at h
 case h_2=>exact h.elim
 refine ⟨_,(ae (ak (i:=3) cp.nd rfl lc (au (al T) hr.m rfl (aa (qv 0) (aa (qv 1) (aa (aB (lenE K rfl) rfl T.b5 aW (aa (qv 2) ad)) ad)))))
   (ae (ak (i:=4) cp.nd rfl lc (aw (ixE K rfl) (qs [45,50,32,120,79,111,42,43,46,97,95]) (au (al T) hr.m rfl (aa (qv 0) (aa (ar ap (qv 1) af) (aa af ad)))) (fun _ _=>rfl)))
   (Ai T hr))),?_⟩
 rename_i a k z;obtain ⟨l,rfl⟩:∃ x,z=st x:=⟨_,(aF z).symm⟩;obtain ⟨ns,k0,hS,rfl,hk,h1,h2,hb,q⟩:=h;simp only [am] at h1 h2 hb q;walk_at "rd";refine ⟨by omega,aM hS (by omega) (by omega) (by omega) (by omega) fun r1 hr1=>?_⟩;walk_at "rd";refine aM hS (by omega) (by omega) (by decide) (by decide) fun r2 hr2=>?_
 obtain ⟨c,hc,ec⟩:=tH (l:=oddL) (i:=r2) (by show r2 < 11; omega);walk_at "rd";refine ⟨c,ec,?_⟩;exact fun C hC=>hC a ns k0 r1 c l hS ⟨hk,h1,h2,hb,by omega,hc⟩ q
theorem zt {ns:List Int} {ps:List Nat} {N:Net} {M:Nat} (nok:NetOk N) (few:NetFew M N) (hM:M<=3) (ov:∀ x ∈ N.2.1,x.2.1.length<=3/\∀ g ∈ x.2.1,∀ r ∈ g.2,OverL ps r.2.2) (hw:widthL N.1=wF ns) (tok:ToldOk (wF ns) ps):NetW ps (wF ns) N:=by
 have:=lu (hs:=N.2.1) (c:=3) fun x hx=>(ov x hx).1
 have:=few.few;exact ⟨nok,hw,fun x hx=>(ov x hx).2,by omega,tok.l5,tok.lt⟩
theorem qi {α β:Type} (f:α -> β) (p:α -> Bool):∀ l:List α,l.flatMap (fun n=>if p n=true then [f n] else [])=(l.filter p).map f
 | []=>rfl
 | x::l=>by
  rw [List.flatMap_cons,qi f p l,List.filter_cons];by_cases h:p x=true
  ·rw [if_pos h,if_pos h]; rfl
  ·rw [if_neg h,if_neg h]; rfl
theorem xE (x:List Nat) (hs:List (List Nat)):inV (tx x) (hs.map tx)=decide (x ∈ hs):=by
 unfold inV;rw [Bool.eq_iff_iff,List.any_eq_true,decide_eq_true_eq];constructor
 ·rintro ⟨v,hv,e⟩;obtain ⟨y,hy,rfl⟩:=List.mem_map.mp hv;have e2:st y=st x\/st x=st y:=by
   simp only [eqV,beq_iff_eq] at e
   first | exact .inl e | exact .inr e
  rcases e2 with z | z
  ·rw [<- dh.mp z]; exact hy
  ·rw [dh.mp z]; exact hy
 ·intro h;exact ⟨tx x,List.mem_map.mpr ⟨x,h,rfl⟩,by simp [eqV]⟩
theorem uf (hs:List (List Nat)):(hs.map tx).all flatV=true:=by
 rw [List.all_eq_true];intro v hv;obtain ⟨y,_,rfl⟩:=List.mem_map.mp hv;rfl
theorem x5 {pl ds:List (List Nat)} (nd:pl.Nodup) (h:ds.length+2<=pl.length):2<=(pl.filter fun n=>decide (n ∉ ds)).length:=by
 induction ds generalizing pl with
 | nil=>
  have e:pl.filter (fun n=>decide (n ∉ ([]:List (List Nat))))=pl:=List.filter_eq_self.mpr fun _ _=>by simp
  rw [e];simpa using h
 | cons d ds ih=>
  have e:pl.filter (fun n=>decide (n ∉ d::ds))=(pl.filter fun n=>decide (n≠d)).filter fun n=>decide (n ∉ ds):=by
   rw [List.filter_filter];congr 1;funext n;by_cases h1:n=d <;> by_cases h2:n ∈ ds <;> simp [h1,h2]
  rw [e];refine ih (nd.filter _) ?_;have e2:pl.filter (fun n=>decide (n≠d))=pl.erase d:=by
   rw [nd.erase_eq_filter];congr 1;funext n;by_cases h1:n=d <;> simp [h1]
  rw [e2,List.length_erase];simp only [List.length_cons] at h;split <;> omega
theorem oS:∀ {hs:List Named} {y:Named},(hs.map (·.1)).Nodup->y ∈ hs->((spotsOf hs).filter fun s=>decide (s.1=y.1)).map (·.2)=y.2.1.map (·.1)
 | [],_,_,h=>by simp at h
 | x::hs,y,nd,h=>by
  rw [List.map_cons,List.nodup_cons] at nd;have e:spotsOf (x::hs)=(x.2.1.map fun g=>(x.1,g.1))++spotsOf hs:=by unfold spotsOf; rw [List.flatMap_cons]
  rw [e,List.filter_append,List.map_append];have rest:∀ z:Named,z ∉ hs\/True->(∀ w ∈ hs,w.1≠z.1)->(spotsOf hs).filter (fun s=>decide (s.1=z.1))=[]:=fun z _ hz=>by
   rw [List.filter_eq_nil_iff];intro s hs' e;unfold spotsOf at hs';obtain ⟨w,hw,hm⟩:=List.mem_flatMap.mp hs';obtain ⟨g,_,rfl⟩:=List.mem_map.mp hm;exact hz w hw (by simpa using e)
  rcases List.mem_cons.mp h with rfl | hy
  ·rw [rest y (.inr trivial) fun w hw z=>nd.1 (List.mem_map.mpr ⟨w,hw,z⟩)];rw [List.filter_eq_self.mpr fun s hs'=>by obtain ⟨g,_,rfl⟩:=List.mem_map.mp hs'; simp,List.map_map];simp
  ·have ne:x.1≠y.1:=fun z=>nd.1 (List.mem_map.mpr ⟨y,hy,z.symm⟩)
   rw [List.filter_eq_nil_iff.mpr fun s hs'=>by obtain ⟨g,_,rfl⟩:=List.mem_map.mp hs'; simpa using ne];exact oS nd.2 hy
theorem uS {H:Hp} {q:Addr} {R:List Step × List V} (h:WalkAt H q R) (hn:R.1.length<=1000) (he:EndOk R.2):Th H 3 (.ref q) (.t [.l (R.1.map fun x=>.t ((stepV x).map D.f)),.t (R.2.map D.f)]):=by
 obtain ⟨p,a,us,e1,e2,e3,e4⟩:=h;have hf:=he.few;refine og e1 (by simp) (.cons (ux e2 (by rw [<- e3.length]; exact hn) (ck (fun x v z=>?_) e3)) (.cons (ye 1 (rp e4 he.flat (by omega))) .nil));obtain ⟨t,rfl,et⟩:=z;exact rp et rfl (by simp [stepV])
structure F41 (N:Net) (W:Nat) (w:Way) (l x4:List Nat) (fl:List (List Nat)) (y:Named) (g0:Gate):Prop where
 hwm:w ∈ spotsOf N.2.1
 hlW:l.length=W
 hW:W<=1000
 hlb:∀ c ∈ l,c=48\/c=49
 xc4:∀ c ∈ x4,c < 16 ^ 8
 hx4s:x4.length<=1000
 hx4h:houseOf N.2.1 x4=none
 c1:∀ c ∈ w.1,c < 16 ^ 8
 lw1:w.1.length<=1000
 c2:∀ c ∈ w.2,c < 16 ^ 8
 lw2:w.2.length<=1000
 eh0:houseOf N.2.1 w.1=some y.2
 eg0:gateOf y.2.1 w.2=some g0.2
 h2f:2<=fl.length
 hfl5:fl.length<=5
 hfm:∀ n ∈ fl,(∀ c ∈ n,c < 16 ^ 8)/\n.length<=1000/\gateOf y.2.1 n=none
noncomputable def mLaw11 (K:Frag):TS:=fun E0 σ H=>∀ C:TS,(∀ (a td n0 sq lq D D2:Addr) (N:Net) (ps:List Nat) (W:Nat) (w:Way) (l:List Nat) (vo:V) (x4:List Nat) (fl:List (List Nat)) (y:Named) (g0:Gate),
  NetAt H n0 N->NetW ps W N->F41 N W w l x4 fl y g0->Shown H vo->textOf vo (W:Int) [48,49]=false->H D2=some (.lst (fl.map tx))->(∀ H',E0.rt (.bl true) H') ->
  C E0 [some (.ref a),some (.ref td),some (.ref n0),some (.ref sq),some (tx w.1),some (tx w.2),some (.ref lq),some (tx l),some vo,some (tx x4),some (.ref D),some (.ref D2),none,none,none,none] H)->C E0 σ H
theorem yM (T:Top K mg) {f:Addr} {cdv:Value} {A:Around} {outer:List Env} {s:Shared} {H₀:Hp} {E:XK} (hr:Room 11 (A.deeper (PyProof.Rows.envOfC "law" (defScope j4) s.heap.objs.size f cdv))):
  PSs (cxOf CX0 P w K mg base ["_law_script", "_law_told_here", "_law_net_here", "_law_spots_here", "_law_house_here", "_law_door", "_law_letters_here", "_law_letter", "_law_odd", "_law_none", "_law_own", "_law_doors", "_law_handed", "_law_way", "_law_some", "_law_gate"] "law" (defScope j4) f cdv A outer s H₀ E).nox ((defBody j4).drop 11) (mLaw11 K):=by
 refine nH (ae (ak (i:=12) cI.nd rfl lc (au (qA T) hr.m rfl (aa (qv 2) ad)))
   (ae (aU PassesOwn.never rfl (iterE K rfl (aS (aa af (aa af (aa af ad))))) (aj (i:=13) cI.nd rfl lc) (ae (aU PassesOwn.never rfl (iterE K rfl (aS (aa (qv 8) (aa (qv 7) ad)))) (aj (i:=14) cI.nd rfl lc) (ae (aU PassesOwn.never rfl (iterE K rfl (aS (aa (aw (ixE K rfl) (qv 11) af (fun _ _=>rfl)) (aa (aw (ixE K rfl) (qv 11) af (fun _ _=>rfl)) (aa (qv 5) ad))))) (aj (i:=15) cI.nd rfl lc) (ai (aG (aC (neDE K rfl hr) (au (dR T) hr.m rfl (aa (qv 13) (aa (qv 12) (aa (qv 9) (aa (qv 15) (aa (qv 14) ad)))))) (au (c9 T) hr.m rfl (aa (qs [78,111,72,111,117,115,101]) ad))) (ai (ao dm)) aA)))
   (ai (aU PassesOwn.never rfl (iterE K rfl (qv 11)) (aj (i:=15) cI.nd rfl lc) (ai (aG (aC (neDE K rfl hr) (au (dR T) hr.m rfl (aa (qv 13) (aa (qv 12) (aa (qv 4) (aa (qv 15) (aa (qv 14) ad)))))) (au (c9 T) hr.m rfl (aa (qs [78,111,68,111,111,114]) ad))) (ai (ao dm)) aA))))))
   (ai (aG (aC (neDE K rfl hr) (au (dR T) hr.m rfl (aa (qv 13) (aa (qv 12) (aa (qv 4) (aa (qv 5) (aa (qv 8) ad)))))) (au (c9 T) hr.m rfl (aa (qs [77,105,115,102,105,116]) ad))) (ai (ao dm)) aA))))
   (ae (aG (mF (cG (au (j8 T) hr.m rfl (aa (au (iJ T).calm hr.m rfl (aa (qv 12) (aa (qv 4) (aa (qv 5) (aa (qv 7) ad))))) (aa (au (pS T) hr.m rfl (aa (qv 2) (aa (aD (aa (qv 4) (aa (qv 5) ad))) (aa (qv 7) ad)))) ad))))) (ai (ao dm)) aA)
   (ai (ao (au (j8 T) hr.m rfl (aa (qv 12) (aa (qv 2) ad)))))))) fun E1 σ HC h=>h _ fun a td n0 sq lq D D2 N ps W w l vo x4 fl y g0 hN nw f hsh htx eC q=>?_
 have hwm:=f.hwm;have hlW:=f.hlW;have hW:=f.hW;have hlb:=f.hlb;have xc4:=f.xc4;have hx4s:=f.hx4s;have hx4h:=f.hx4h;have c1:=f.c1;have c2:=f.c2;have eh0:=f.eh0;have eg0:=f.eg0;have h2f:=f.h2f;have hfl5:=f.hfl5;have hfm:=f.hfm;have nok:=nw.ok;have th3:=AQ hN nok;walk_at "rd";refine ⟨8,netD N,by decide,th3,fun c0 HD sD tcD=>?_⟩;have tcD':=ut 8 tcD;obtain ⟨cq,rfl,hC1⟩:=wU tcD';have s8D:Same HC HD:=sD;have hsh:=hsh.same s8D;have hshl:∀ {H:Hp},Shown H (tx l):=fun {H}=>dq (fun d hd=>by have:=hlb d hd; omega) (by omega)
 have eCD:=sD _ _ eC;refine ⟨by decide,fun pw hpw=>?_⟩;have sE:=ah hpw (.lst [V.int 0,V.int 1,V.int 0]);have eE:upd HD pw (.lst [V.int 0,V.int 1,V.int 0]) pw=some (.lst [V.int 0,V.int 1,V.int 0]):=upd_same;generalize upd HD pw (.lst [V.int 0,V.int 1,V.int 0])=HE at sE eE ⊢;have hshE:=hsh.same sE;have hC1E:=hC1.same sE;have eCE:=sE _ _ eCD;refine .inl ⟨⟨_,SqL.of eE⟩,?_⟩;refine bj (xs:=[V.int 0,V.int 1,V.int 0]) (fun i σ H'=>∃ u13 u14 u15:Option V,σ = [some (.ref a),some (.ref td),some (.ref n0),some (.ref sq),some (tx w.1),some (tx w.2),some (.ref lq),some (tx l),some vo,some (tx x4),some (.ref D),some (.ref D2),some (.ref cq),u13,u14,u15]/\Same HE H') ⟨none,none,none,rfl,Same.refl _⟩ (fun i σ H' _ ⟨_,_,_,_,z⟩=>SqL.of (z _ _ eE)) ?_ ?_
 ·rintro i kv σ HF hkv ⟨u13,u14,u15,rfl,sF⟩;obtain ⟨kw,rfl⟩:∃ kw:Int,kv=.int kw:=by
   have hm:=List.mem_of_getElem? hkv;simp only [List.mem_cons,List.not_mem_nil,or_false] at hm;rcases hm with rfl | rfl | rfl <;> exact ⟨_,rfl⟩
  walk_at "rd";refine ⟨by decide,fun p2 hp2=>?_⟩;have sG:=ah hp2 (.lst [vo,tx l]);have eG:upd HF p2 (.lst [vo,tx l]) p2=some (.lst [vo,tx l]):=upd_same;change ((∃ xs,SqL K (upd HF p2 (.lst [vo,tx l])) p2 xs)/\_)\/_;generalize upd HF p2 (.lst [vo,tx l])=HG at sG eG ⊢;have sEG:=sF.trans sG;refine .inl ⟨⟨_,SqL.of eG⟩,?_⟩;refine bj (xs:=[vo,tx l]) (fun i σ H'=>∃ u14 u15:Option V,σ = [some (.ref a),some (.ref td),some (.ref n0),some (.ref sq),some (tx w.1),some (tx w.2),some (.ref lq),some (tx l),some vo,some (tx x4),some (.ref D),some (.ref D2),some (.ref cq),some (.int kw),u14,u15]/\Same HG H') ⟨_,_,rfl,Same.refl _⟩ (fun i σ H' _ ⟨_,_,_,z⟩=>SqL.of (z _ _ eG)) ?_ ?_
  ·rintro i2 sv2 σ HI hsv2 ⟨v14,v15,rfl,sI⟩;have sEI:=sEG.trans sI;have hshS:∀ {H'},Same HI H'->Shown H' sv2:=fun {H'} s'=>by
    have hm:=List.mem_of_getElem? hsv2;simp only [List.mem_cons,List.not_mem_nil,or_false] at hm;rcases hm with rfl | rfl
    ·exact hshE.same (sEI.trans s')
    ·exact hshl
   walk_at "rd";obtain ⟨f0,f1,hf0,hf1⟩:∃ f0 f1,fl[0]? = some f0/\fl[1]? = some f1:=⟨fl[0]'(by omega),fl[1]'(by omega),List.getElem?_eq_getElem _,List.getElem?_eq_getElem _⟩;have eCI:=sEI _ _ eCE;refine ⟨_,tx f0,.inl (SqL.of eCI),be (j:=0) (by rw [List.getElem?_map,hf0]; rfl),_,tx f1,.inl (SqL.of eCI),be (j:=1) (by rw [List.getElem?_map,hf1]; rfl),by decide,fun p3 hp3=>?_⟩;have sJ:=ah hp3 (.lst [tx f0,tx f1,tx w.2]);have eJ:upd HI p3 (.lst [tx f0,tx f1,tx w.2]) p3=some (.lst ([f0,f1,w.2].map tx)):=upd_same;change ((∃ xs,SqL K (upd HI p3 (.lst [tx f0,tx f1,tx w.2])) p3 xs)/\_)\/_;generalize upd HI p3 (.lst [tx f0,tx f1,tx w.2])=HJ at sJ eJ ⊢;have sEJ:=sEI.trans sJ;refine .inl ⟨⟨_,SqL.of eJ⟩,?_⟩;refine eY tx [f0,f1,w.2] (fun i σ H'=>∃ u15:Option V,σ = [some (.ref a),some (.ref td),some (.ref n0),some (.ref sq),some (tx w.1),some (tx w.2),some (.ref lq),some (tx l),some vo,some (tx x4),some (.ref D),some (.ref D2),some (.ref cq),some (.int kw),some sv2,u15]/\Same HJ H') ⟨_,rfl,Same.refl _⟩ (fun i σ H' _ ⟨_,_,z⟩=>SqL.of (z _ _ eJ)) ?_ ?_
   ·rintro i3 gt σ HK hgt ⟨w15,rfl,sK⟩;have hg:(∀ c ∈ gt,c < 16 ^ 8)/\gt.length<=1000:=by
     have hm:=List.mem_of_getElem? hgt;simp only [List.mem_cons,List.not_mem_nil,or_false] at hm;rcases hm with rfl | rfl | rfl
     ·exact ⟨(hfm _ (List.mem_of_getElem? hf0)).1,(hfm _ (List.mem_of_getElem? hf0)).2.1⟩
     ·exact ⟨(hfm _ (List.mem_of_getElem? hf1)).1,(hfm _ (List.mem_of_getElem? hf1)).2.1⟩
     ·exact ⟨f.c2,f.lw2⟩
    walk_at "rd";refine ⟨N,ps,W,2,by decide,hC1E.same (sEJ.trans sK),nw,by simp only [am]; exact xc4,by simp only [am]; omega,by simp only [am]; exact hg.1,by simp only [am]; exact hg.2,hshS (sJ.trans sK),.inl ⟨rfl,by simp only [am]; exact hx4h⟩,fun m1 HL hm1 sL eL=>?_⟩;walk_at "rd";refine ⟨2,by decide,rfl,fun m2 HM hm2 sM eM=>?_⟩;walk_at "rd";refine ⟨1,_,_,by decide,cY (sM _ _ eL),cY eM,?_⟩;rw [if_neg (k8 (by decide))];walk_at "rd";exact ⟨_,rfl,sK.trans (sL.trans sM)⟩
   ·rintro σ HK ⟨w15,rfl,sK⟩;walk_at "rd";have sEK:=sEJ.trans sK;have eCK:=sEK _ _ eCE;refine .inl ⟨⟨_,SqL.of eCK⟩,?_⟩;refine eY tx fl (fun i σ H'=>∃ u15:Option V,σ = [some (.ref a),some (.ref td),some (.ref n0),some (.ref sq),some (tx w.1),some (tx w.2),some (.ref lq),some (tx l),some vo,some (tx x4),some (.ref D),some (.ref D2),some (.ref cq),some (.int kw),some sv2,u15]/\Same HK H') ⟨_,rfl,Same.refl _⟩ (fun i σ H' _ ⟨_,_,z⟩=>SqL.of (z _ _ eCK)) ?_ ?_
    ·rintro i3 gt σ HL hgt ⟨w15,rfl,sL⟩;obtain ⟨g1,g2,g3⟩:=hfm _ (List.mem_of_getElem? hgt);walk_at "rd";refine ⟨N,ps,W,1,by decide,hC1E.same (sEK.trans sL),nw,by simp only [am]; exact c1,by simp only [am]; exact f.lw1,by simp only [am]; exact g1,by simp only [am]; exact g2,hshS (sJ.trans (sK.trans sL)),.inr (.inl ⟨rfl,y.2,by simp only [am]; exact eh0,by simp only [am]; exact g3⟩),fun m1 HM hm1 sM eM=>?_⟩;walk_at "rd";refine ⟨1,by decide,rfl,fun m2 HN hm2 sN eN'=>?_⟩;walk_at "rd";refine ⟨1,_,_,by decide,cY (sN _ _ eM),cY eN',?_⟩;rw [if_neg (k8 (by decide))];walk_at "rd";exact ⟨_,rfl,sL.trans (sM.trans sN)⟩
    ·rintro σ HL ⟨w15,rfl,sL⟩;exact ⟨_,_,rfl,sI.trans (sJ.trans (sK.trans sL))⟩
  ·rintro σ HI ⟨v14,v15,rfl,sI⟩;walk_at "rd";have sEI:=sEG.trans sI;refine ⟨N,ps,W,0,by decide,hC1E.same sEI,nw,by simp only [am]; exact c1,by simp only [am]; exact f.lw1,by simp only [am]; exact c2,by simp only [am]; exact f.lw2,hshE.same sEI,.inr (.inr ⟨rfl,⟨y.2,g0.2,by simp only [am]; exact eh0,by simp only [am]; exact eg0⟩,htx⟩),fun m1 HM hm1 sM eM=>?_⟩;walk_at "rd";refine ⟨0,by decide,rfl,fun m2 HN hm2 sN eN'=>?_⟩;walk_at "rd";refine ⟨1,_,_,by decide,cY (sN _ _ eM),cY eN',?_⟩;rw [if_neg (k8 (by decide))];walk_at "rd";exact ⟨_,_,_,rfl,sEI.trans (sM.trans sN)⟩
 ·rintro σ HF ⟨u13,u14,u15,rfl,sF⟩;walk_at "rd";have gd:=yR nw hwm hlW hlb;refine ⟨N,ps,W,hC1E.same sF,nw,by simp only [am]; exact c1,by simp only [am]; exact f.lw1,by simp only [am]; exact c2,by simp only [am]; exact f.lw2,hshl,fun z=>(by simp only [am] at z; rw [show houseOf N.2.1 w.1=some y.2 from eh0] at z; cases z),fun h eh=>?_⟩;simp only [am] at eh ⊢;rw [show houseOf N.2.1 w.1=some y.2 from eh0] at eh;cases eh;refine ⟨fun z=>(by rw [show gateOf y.2.1 w.2=some g0.2 from eg0] at z; cases z),fun rs er=>⟨fun z=>(by rw [show textOf (.str (st l)) ((W:Nat):Int) [48,49]=true from oI hlW hlb] at z; cases z),fun l2 el2 hl2' hb2 q0 HG hq0 sG hG=>?_⟩⟩;have el2:l2=l:=(dh.mp (V.str.inj el2)).symm;subst el2;refine ⟨by decide,fun p4 hp4=>?_⟩;have sI:=ah hp4 (.tup [tx w.1,tx w.2]);have eI:upd HG p4 (.tup [tx w.1,tx w.2]) p4=some (.tup [tx w.1,tx w.2]):=upd_same;change eR K [.ref n0,.ref p4,.str (st l2)] (upd HG p4 (.tup [tx w.1,tx w.2])) _ _;generalize upd HG p4 (.tup [tx w.1,tx w.2])=HI at sI eI ⊢;have sDI:=sE.trans (sF.trans (sG.trans sI));refine ⟨N,ps,W,w,hN.same (sD.trans sDI),nw,eI,hwm,by simp only [am]; exact hlW,by simp only [am]; exact hlb,fun q2 HJ hq2 sJ hJ=>?_⟩;simp only [am] at hJ;refine ⟨3,_,by decide,c7 (sI.trans sJ) 3 (uS hG (by have:=gd.2; omega) gd.1),uS hJ (by have:=gd.2; omega) gd.1,fun HL sL=>?_⟩;walk_at "rd";have sDL:=sDI.trans (sJ.trans sL);exact ⟨8,netD N,by decide,c7 sDL 8 tcD',c7 (sD.trans sDL) 8 th3,fun HM _=>q HM⟩
noncomputable def lb (K:Frag):Sp:=fun vs H Q _=>match vs with
 | [.ref a]=>∃ ns:List Int,SqL K H a (ns.map V.int)/\ns.length<=63/\∀ H',Q (.bl true) H'
 | _=>False
theorem AF (T:Top K mg) {f:Addr} {fd:FuncData} (F:Fun K "law" "law" j4 f fd):FnOk P w K mg base CX0 12 f fd ["_law_script"] (lb K):=by
 refine F.ok cI (by intro vs H Q E h; unfold lb at h; split at h <;> first | rfl | exact h.elim) (fun cdv A outer s H vs Q E hr h=>?_);unfold lb at h;split at h
 case h_2=>exact h.elim
 refine ⟨_,(ae (ak (i:=1) cI.nd rfl lc (au (pR T) hr.m rfl (aa (qv 0) (aa (au (iT T) hr.m rfl (aa (qv 0) ad)) ad))))
   (ae (ak (i:=2) cI.nd rfl lc (au (rC T) hr.m rfl (aa (qv 0) (aa (qv 1) (aa af ad)))))
   (ae (ak (i:=3) cI.nd rfl lc (au (jA T) hr.m rfl (aa (aw (ixE K rfl) (qv 2) af (fun _ _=>rfl)) ad)))
   (ae (aG (aC (eqNilE K rfl (hu1 hr)) (qv 3) (aS ad)) (ai (ao dm)) aA)
   (ae (jS (aw (ixE K rfl) (qv 3) (au (al T) hr.m rfl (aa (qv 0) (aa af (aa (aB (lenE K rfl) rfl T.b5 aW (aa (qv 3) ad)) ad)))) (fun _ _=>rfl)) (seqE K rfl rfl (n:=2) (aq (aj (i:=4) cI.nd rfl lc) (aq (aj (i:=5) cI.nd rfl lc) aP))))
   (ae (ak (i:=6) cI.nd rfl lc (au (mf T) hr.m rfl (aa (qv 0) (aa (qv 1) (aa (au (fP T) hr.m rfl (aa (aw (ixE K rfl) (qv 2) af (fun _ _=>rfl)) ad)) ad)))))
   (ae (ak (i:=7) cI.nd rfl lc (aw (ixE K rfl) (qv 6) (au (al T) hr.m rfl (aa (qv 0) (aa af (aa (aB (lenE K rfl) rfl T.b5 aW (aa (qv 6) ad)) ad)))) (fun _ _=>rfl)))
   (ae (ak (i:=8) cI.nd rfl lc (au (j0 T) hr.m rfl (aa (qv 0) (aa af (aa (qv 7) ad)))))
   (ae (ak (i:=9) cI.nd rfl lc (aw (ixE K rfl) (au (cR T) hr.m rfl (aa (qv 0) (aa af (aa af ad)))) af (fun _ _=>rfl)))
   (ae (ak (i:=10) cI.nd rfl lc (bZ (nt:=1) (fi:=[4]) (N':=["_law_spot", "_law_house_here"]) rfl (cscope rfl (by decide +kernel)) (cnames (N:=["_law_script", "_law_told_here", "_law_net_here", "_law_spots_here", "_law_house_here", "_law_door", "_law_letters_here", "_law_letter", "_law_odd", "_law_none", "_law_own", "_law_doors", "_law_handed", "_law_way", "_law_some", "_law_gate"]) (sc:=defScope j4) rfl rfl (by decide +kernel)) (bw (by decide)) (iterE K rfl (qv 3)) (fun _ _ _ _ _=>(aj (i:=0) (by show (["_law_spot", "_law_house_here"]:List Str).Nodup; decide +kernel) rfl lc)) (fun _ _ _ _ _=>(qS (aC bf (aw (ixE K rfl) (qv 0) af (fun _ _=>rfl)) (qv 1)))) (fun _ _ _ _ _=>(aw (ixE K rfl) (qv 0) af (fun _ _=>rfl)))))
   (ae (g8 (i:=11) (nt:=1) (fi:=[10]) (N':=["_law_name", "_law_own"]) cI.nd rfl lc rfl (cscope rfl (by decide +kernel)) (cnames (N:=["_law_script", "_law_told_here", "_law_net_here", "_law_spots_here", "_law_house_here", "_law_door", "_law_letters_here", "_law_letter", "_law_odd", "_law_none", "_law_own", "_law_doors", "_law_handed", "_law_way", "_law_some", "_law_gate"]) (sc:=defScope j4) rfl rfl (by decide +kernel)) (bw (by decide)) (iterE K rfl (au (cR T) hr.m rfl (aa (qv 0) (aa af (aa af ad))))) (fun _ _ _ _ _=>(aj (i:=0) (by show (["_law_name", "_law_own"]:List Str).Nodup; decide +kernel) rfl lc)) (fun _ _ _ _ _=>(qS (aC (notinE K rfl) (qv 0) (qv 1)))) (fun _ _ _ _ _=>(qv 0)))
   (yM T hr)))))))))))),?_⟩
 rename_i a;obtain ⟨ns,hS,_,q⟩:=h;walk_at "rd";refine ⟨ns,hS,fun p H1 ls hp s1 hL ok hwf=>?_⟩;walk_at "rd";refine ⟨ns,ls,s1.seq hS,hL,ok,fun td H2 ps htd s2 e2 tok=>?_⟩;have s12:=s1.trans s2;rw [hwf] at tok;walk_at "rd";refine ⟨ns,ps,3,s12.seq hS,SqL.of e2,tok,rfl,by decide,by decide,fun n0 H3 N hn0 s3 hN nok few hnames ov hNw=>?_⟩;have nw:=zt nok few (by decide) ov hNw tok;have s13:=s12.trans s3;obtain ⟨pa,pb,pc,eN,hL3,hH3,hLn3⟩:=id hN;have h100:=nok.h100;walk_at "rd";refine ⟨_,_,.inr (SqT.of eN),rfl,N.2.1,hH3,by omega,fun x hx=>Nat.le_trans (nok.house x hx).g3 (by decide),fun sq H4 hsq s4 hWs=>?_⟩;have s14:=s13.trans s4;obtain ⟨sv,es,psv⟩:=id hWs;have hsl:=psv.length;have h9:=nw.spots;walk_at "rd";refine ⟨Nat.zero_le _,fun pe hpe=>?_⟩;have s5:=ah hpe (.lst []);have e5:upd H4 pe (.lst []) pe=some (.lst []):=upd_same;generalize upd H4 pe (.lst [])=H5 at s5 e5 ⊢;refine ⟨sv,SqL.of (s5 _ _ es),SqL.of e5,ite2 (fun g=>q _) fun g=>?_⟩;have hsv:0 < sv.length:=by
  cases sv with
  | nil=>exact absurd rfl g
  | cons=>simp
 have s15:=s14.trans s5;have s35:=s4.trans s5;walk_at "rd";refine ⟨_,.inl (SqL.of (s5 _ _ es)),aM (s15.seq hS) (by decide) (by decide) (by omega) (by omega) fun j hj=>?_⟩;have hjs:j < (spotsOf N.2.1).length:=by omega
 obtain ⟨v0,hv0,ts,rfl,ets⟩:=aE psv (List.getElem?_eq_getElem hjs);have hwm:=List.getElem_mem hjs;generalize (spotsOf N.2.1)[j]=w at ets hwm;refine ⟨_,_,.inl (SqL.of (s5 _ _ es)),be hv0,?_⟩;refine ⟨[_,_],.inr (SqT.of (s5 _ _ ets)),rfl,_,[_],rfl,_,[],rfl,rfl,?_⟩;walk_at "rd";refine ⟨_,_,.inr (SqT.of (s35 _ _ eN)),rfl,N.1,hL3.same s35,by have:=nok.lay.len; omega,fun H6 s6=>?_⟩;rw [hNw];have s16:=s15.trans s6;have w1:=ok.w1;have w2:=ok.w2;refine ⟨ns,ps,wF ns,s16.seq hS,SqL.of ((s3.trans (s35.trans s6)) _ _ e2),rfl,by omega,by have:=tok.l5; omega,tok.lt,fun lq H7 lt hlq s7 el hlt hl2=>?_⟩;have s37:=s35.trans (s6.trans s7);have s17:=s16.trans s7;have hln:lt.length<=32:=by
  rw [hl2];exact Nat.le_trans (Nat.pow_le_pow_right (by decide) tok.l5) (by decide)
 have hln1:1<=lt.length:=by
  rw [hl2];exact Nat.one_le_two_pow
 walk_at "rd";refine ⟨_,.inl (SqL.of el),aM (s17.seq hS) (by decide) (by decide) (by rw [List.length_map]; omega) (by rw [List.length_map]; omega) fun j2 hj2=>?_⟩;rw [List.length_map] at hj2;have hj2':j2 < lt.length:=by omega
 refine ⟨_,tx lt[j2],.inl (SqL.of el),be (by rw [List.getElem?_map,List.getElem?_eq_getElem hj2']; rfl),?_⟩;obtain ⟨hlW,hlb⟩:=hlt _ (List.getElem_mem hj2');generalize lt[j2]=l at hlW hlb ⊢;walk_at "rd";refine ⟨ns,352,s17.seq hS,rfl,by decide,by simp only [am]; omega,by simp only [am]; omega,by simp only [am]; exact hlb,fun vo H8 s8 hsh htx=>?_⟩;simp only [am] at htx;rw [hlW] at htx;have s18:=s17.trans s8;walk_at "rd";refine ⟨ns,18,5,s18.seq hS,rfl,by decide,rfl,by decide,fun pm H9 nm hpm s9 e9 Nm=>?_⟩;have s19:=s18.trans s9;have hnml:=Nm.len;have ex4:nm[4]? = some (nameF ns 18 4):=by rw [Nm.eq,List.getElem?_map,List.getElem?_range (by decide)]; rfl
 have hx4:nameF ns 18 4 ∈ nm:=List.mem_of_getElem? ex4;have hx4l:=Nm.low _ hx4;have hx4s:=Nm.short _ hx4;have hx4n:nameF ns 18 4 ∉ N.2.1.map (·.1):=fun z=>by
  rw [hnames] at z;obtain ⟨i,hi,e⟩:=List.mem_map.mp z;have hi:=List.mem_range.mp hi;have:=few.few;have:=xF (i:=i) (j:=4) (by omega) (by decide) e;omega
 refine ⟨_,tx (nameF ns 18 4),.inl (SqL.of e9),be (j:=4) (by rw [List.getElem?_map,ex4]; rfl),?_⟩;generalize nameF ns 18 4=x4 at hx4 hx4l hx4s hx4n ⊢;obtain ⟨z1,z2⟩:=cu psv;have e59:H9 sq=some (.lst sv):=(s5.trans (s6.trans (s7.trans (s8.trans s9)))) _ _ es;walk_at "rd";refine .inl ⟨⟨_,SqL.of e59⟩,fun D hD=>?_⟩;refine cc (item:=fun x:Way × V=>x.2) (xs:=(spotsOf N.2.1).zip sv) (h:=fun x=>if decide (x.1.1=w.1)=true then [tx x.1.2] else []) hD (by rw [z1]; exact SqL.of e59) (by rw [List.length_zip]; omega) (fun n=>by split <;> simp) ?_ ?_
 ·intro x HB out non hx sB ho hno;obtain ⟨t,ex,et⟩:=z2 x hx;have et9:=sB _ _ ((s5.trans (s6.trans (s7.trans (s8.trans s9)))) _ _ et);rw [ex];walk_at "rd";refine ⟨_,_,.inr (SqT.of et9),rfl,?_⟩;walk_at "rd";by_cases c:x.1.1=w.1
  ·rw [if_pos c];exact ⟨_,_,.inr (SqT.of et9),rfl,ho _ _ (by simp [c]) (Same.refl _)⟩
  ·rw [if_neg c];exact hno _ (by simp [c]) (Same.refl _)
 intro HA sA eA;obtain ⟨y,g0,hy,hg0,ey,eg,eh0,eg0⟩:=ir nok hwm;have eown:((spotsOf N.2.1).zip sv).flatMap (fun x=>if decide (x.1.1=w.1)=true then [tx x.1.2] else [])=(y.2.1.map (·.1)).map tx:=by
  rw [qi (fun x:Way × V=>tx x.1.2) (fun x=>decide (x.1.1=w.1)),<- oS nok.nd hy,ey]
  conv=>rhs; rw [<- dE (l:=spotsOf N.2.1) (m:=sv) hsl,List.filter_map,List.map_map,List.map_map]
  rfl
 rw [eown] at eA;have own3:=(ov y hy).1;have s1A:=s19.trans sA;refine ⟨ns,22,5,s1A.seq hS,rfl,by decide,rfl,by decide,fun pn HB pl hpn sB eB Np=>?_⟩;have hpl5:=Np.len;walk_at "rd";refine .inl ⟨⟨_,SqL.of eB⟩,fun D2 hD2=>?_⟩;have eAB:=sB _ _ eA;refine cc (item:=tx) (xs:=pl) (h:=fun n=>if decide (n ∉ y.2.1.map (·.1))=true then [tx n] else []) hD2 (SqL.of eB) (by omega) (fun n=>by split <;> simp) ?_ ?_
 ·intro x HC out non hx sC ho hno;walk_at "rd";refine ⟨_,.inl (SqL.of (sC _ _ eAB)),rfl,uf _,?_⟩;rw [xE];by_cases c:x ∈ y.2.1.map (·.1)
  ·rw [if_neg (by simp [c])];exact hno _ (by simp [c]) (Same.refl _)
  ·rw [if_pos (by simp [c])];exact ho _ _ (by simp [c]) (Same.refl _)
 intro HC sC eC;rw [qi tx (fun n=>decide (n ∉ y.2.1.map (·.1)))] at eC;have h2f:=x5 (ds:=y.2.1.map (·.1)) Np.nd (by rw [List.length_map]; omega);have hfl5:(pl.filter fun n=>decide (n ∉ y.2.1.map (·.1))).length<=5:=by rw [<- hpl5]; exact List.length_filter_le _ _
 have hfm:∀ n ∈ pl.filter (fun n=>decide (n ∉ y.2.1.map (·.1))),(∀ c ∈ n,c < 16 ^ 8)/\n.length<=1000/\gateOf y.2.1 n=none:=fun n hn=>by
  obtain ⟨a1,a2⟩:=List.mem_filter.mp hn;have b1:=Np.low _ a1;have b2:=Np.short _ a1;refine ⟨fun c hc=>by have:=b1 c hc; omega,by omega,?_⟩;have a2:=of_decide_eq_true a2;unfold gateOf;rw [List.find?_eq_none.mpr fun z hz=>?_]
  ·rfl
  ·simp only [decide_eq_true_eq];exact fun e=>a2 (List.mem_map.mpr ⟨z,hz,e⟩)
 generalize pl.filter (fun n=>decide (n ∉ y.2.1.map (·.1)))=fl at h2f hfl5 hfm eC;have lw1:=nok.low y hy;have lw2:=nok.door y hy g0 hg0;rw [ey] at lw1;rw [eg] at lw2;have xc4:∀ c ∈ x4,c < 16 ^ 8:=fun c hc=>by have:=hx4l c hc; omega
 have c1:∀ c ∈ w.1,c < 16 ^ 8:=fun c hc=>by have:=lw1.1 c hc; omega
 have c2:∀ c ∈ w.2,c < 16 ^ 8:=fun c hc=>by have:=lw2.1 c hc; omega
 have hx4h:houseOf N.2.1 x4=none:=by
  unfold houseOf;rw [List.find?_eq_none.mpr fun z hz=>?_]
  ·rfl
  ·simp only [decide_eq_true_eq];exact fun e=>hx4n (List.mem_map.mpr ⟨z,hz,e⟩)
 have s3C:Same H3 HC:=s37.trans (s8.trans (s9.trans (sA.trans (sB.trans sC))));exact fun C hC=>hC a td n0 sq lq D D2 N ps (wF ns) w l vo x4 fl y g0 (hN.same s3C) nw ⟨hwm,hlW,by omega,hlb,xc4,by omega,hx4h,c1,lw1.2,c2,lw2.2,eh0,eg0,h2f,hfl5,hfm⟩ (hsh.same (s9.trans (sA.trans (sB.trans sC)))) htx eC q
end
def DefI (K:Frag) (x:Str) (t:Stmt):Prop:=∃ (f:Addr) (od an:Option Addr) (sl:Array (Option Value)) (oc kV dc pm cd ct:Value),nsIn K mainGlobals x=some (some (.ref f))/\K.lookup f=some ⟨oc,od,.func (fnOf x x (defArgs t) (defBody t) (defScope t) .none kV dc pm an cd ct),sl⟩/\codeIn K cd x=true/\keepIn K (.ref f)=true
theorem DefI.of {K:Frag} {x:Str} {t:Stmt} {f:Addr} {od an:Option Addr} {sl:Array (Option Value)} {oc kV dc pm cd ct:Value} (a:nsIn K mainGlobals x=some (some (.ref f))) (l:K.lookup f=some ⟨oc,od,.func (fnOf x x (defArgs t) (defBody t) (defScope t) .none kV dc pm an cd ct),sl⟩) (c:codeIn K cd x=true) (k:keepIn K (.ref f)=true):DefI K x t:=⟨f,od,an,sl,oc,kV,dc,pm,cd,ct,a,l,c,k⟩
theorem DefI.fn {K:Frag} {h:Heap} {mg:Str->Option Value} {x:Str} {t:Stmt} (d:DefI K x t) (X:K.In h) (G:h.Ns mainGlobals mg):Fn K mg x t:=by
 obtain ⟨f,od,an,sl,oc,kV,dc,pm,cd,ct,a,l,c,k⟩:=d;exact ⟨_,_,Ba (st:=t) l c k,mg_of X G a⟩
def ExcI (K:Frag) (x:Str) (C:Addr):Prop:=nsIn K mainGlobals x=some (some (.ref C))/\PySem.W.excIn K C bmV "ValueError.__new__" = true/\PySem.W.typeIn K (.ref C)=some (.type "type")/\PySem.W.mroIn K C (.type "BaseException")=some true/\findIn K (.ref C) "__getattribute__" = some (some (.builtin "BaseException.__getattribute__"))/\findIn K (.ref C) "__getattr__" = some none/\findIn K (.ref C) "__class__" = some (some (.builtin "object.__class__"))/\PySem.W.mroIn K C (.type "object")=some true
theorem ExcI.xn {K:Frag} {h:Heap} {mg:Str->Option Value} {x:Str} {C:Addr} (e:ExcI K x C) (X:K.In h) (G:h.Ns mainGlobals mg) (sgt:PySem.W.specialIn K (.builtin "object.__class__") "__get__" = some (some (.builtin "getset_descriptor.__get__"))) (stk:PySem.W.takesIn K (.builtin "object.__class__")=some true):Xn K mg x:=
 BD X G e.1 e.2.1 e.2.2.1 e.2.2.2.1 e.2.2.2.2.1 e.2.2.2.2.2.1 e.2.2.2.2.2.2.1 e.2.2.2.2.2.2.2 sgt stk
def MI (K:Frag) (C D:Addr):Prop:=PySem.W.mroIn K C (.ref D)=some false/\C≠D
theorem MI.of {K:Frag} {C D:Addr} (m:PySem.W.mroIn K C (.ref D)=some false) (d:C≠D):MI K C D:=⟨m,d⟩
theorem MI.xm {K:Frag} {C D:Addr} {x y:Str} (e:MI K C D) (n:nsIn K mainGlobals x=some (some (.ref C))) (n':nsIn K mainGlobals y=some (some (.ref D))):Xm K x y false:=mG n n' e.1 fun _=>e.2
theorem all_mk {K:Frag} {h:Heap} {mg:Str->Option Value} (X:K.In h) (G:h.Ns mainGlobals mg)
  (a0:DefI K "is_letter" iK)
  (a1:DefI K "is_text_of" hV)
  (a2:DefI K "row_holds" iV)
  (a3:DefI K "row_within" gM)
  (a4:DefI K "row_written" dL)
  (a5:DefI K "layout_width" cZ)
  (a6:DefI K "field_span" ip)
  (a7:DefI K "field_part" gN)
  (a8:DefI K "rule_first" iw)
  (a9:DefI K "is_dropped" g9)
  (a10:DefI K "way_found" iY)
  (a11:DefI K "gate_rules" gY)
  (a12:DefI K "house_does" gX)
  (a13:DefI K "sent_by" lw)
  (a14:DefI K "check_spot" ie)
  (a15:DefI K "house_named" fK)
  (a16:DefI K "line_ends" i6)
  (a17:DefI K "net_walk" jW)
  (a18:DefI K "end_by" mY)
  (a19:DefI K "ring_end" im)
  (a20:DefI K "net_fared" iU)
  (a21:DefI K "fared_by" jQ)
  (a22:DefI K "_law_draw" iM)
  (a23:DefI K "_law_names" de)
  (a24:DefI K "_law_layout" dM)
  (a25:DefI K "_law_width" eF)
  (a26:DefI K "_law_span" iR)
  (a27:DefI K "_law_told" i8)
  (a28:DefI K "_law_over_at" dg)
  (a29:DefI K "_law_signs" iz)
  (a30:DefI K "_law_rule" i4)
  (a31:DefI K "_law_ways" fI)
  (a32:DefI K "_law_house" di)
  (a33:DefI K "_law_spots" d9)
  (a34:DefI K "_law_lines" gZ)
  (a35:DefI K "_law_net" io)
  (a36:DefI K "_law_letters" b8)
  (a37:DefI K "_law_lies" iQ)
  (a38:DefI K "_law_written" df)
  (a39:DefI K "_law_goes" iI)
  (a40:DefI K "_law_does" iO)
  (a41:DefI K "_law_house_of" d0)
  (a42:DefI K "_law_beyond" fQ)
  (a43:DefI K "_law_walk" fG)
  (a44:DefI K "_law_same" fA)
  (a45:DefI K "_law_copy" dQ)
  (a46:DefI K "_law_marks" gP)
  (a47:DefI K "_law_marks_due" cJ)
  (a48:DefI K "_law_odd_letter" aJ)
  (a49:DefI K "_law_refused" fm)
  (a50:DefI K "law" j4)
  (iB:nsIn K mainGlobals "isinstance" = some none)
  (yg:nsIn K mainGlobals "str" = some none)
  (yf:nsIn K mainGlobals "len" = some none)
  (yk:nsIn K mainGlobals "zip" = some none)
  (yp:nsIn K mainGlobals "sum" = some none)
  (jj:nsIn K mainGlobals "enumerate" = some none)
  (uA:nsIn K mainGlobals "dict" = some none)
  (uC:nsIn K mainGlobals "list" = some none)
  (yo:nsIn K mainGlobals "min" = some none)
  (qT:nsIn K mainGlobals "range" = some none)
  (nS:nsIn K mainGlobals "sorted" = some none)
  (yh:nsIn K mainGlobals "set" = some none)
  (yi:nsIn K mainGlobals "max" = some none)
  (yq:nsIn K mainGlobals "int" = some none)
  (qX:nsIn K mainGlobals "tuple" = some none)
  (yj:nsIn K mainGlobals "all" = some none)
  (uB:nsIn K mainGlobals "bool" = some none)
  (iC:nsIn K mainGlobals "ValueError" = some none)
  {jr:Addr} (eV:ExcI K "NoField" jr)
  {bu:Addr} (aX:ExcI K "NoDoor" bu)
  {aV:Addr} (aO:ExcI K "NoHouse" aV)
  {br:Addr} (aY:ExcI K "Misfit" br)
  {dO:Addr} (cC:ExcI K "ThrongError" dO)
  {js:Addr} (eT:ExcI K "BadWord" js)
  {kJ:Addr} (gJ:ExcI K "NoLine" kJ)
  {kD:Addr} (gC:ExcI K "NoRule" kD)
  {mm:Addr} (ju:ExcI K "NoWay" mm)
  {mq:Addr} (jt:ExcI K "Twice" mq)
  {kH:Addr} (gG:ExcI K "Unlike" kH)
  (sgt:PySem.W.specialIn K (.builtin "object.__class__") "__get__" = some (some (.builtin "getset_descriptor.__get__"))) (stk:PySem.W.takesIn K (.builtin "object.__class__")=some true)
  (gE:PySem.W.mroIn K bu (.type "ValueError")=some true)
  (aQ:PySem.W.mroIn K bu (.ref dO)=some true)
  (bL:MI K bu js)
  (bY:MI K bu br)
  (bS:PySem.W.mroIn K bu (.ref bu)=some true)
  (bH:MI K bu jr)
  (bI:MI K bu aV)
  (bX:MI K bu kJ)
  (bR:MI K bu kD)
  (ci:MI K bu mm)
  (cj:MI K bu mq)
  (bW:MI K bu kH)
  (eX:PySem.W.mroIn K aV (.type "ValueError")=some true)
  (aN:PySem.W.mroIn K aV (.ref dO)=some true)
  (bo:MI K aV js)
  (bG:MI K aV br)
  (bF:MI K aV bu)
  (bn:MI K aV jr)
  (bp:PySem.W.mroIn K aV (.ref aV)=some true)
  (bE:MI K aV kJ)
  (bM:MI K aV kD)
  (bO:MI K aV mm)
  (bT:MI K aV mq)
  (bJ:MI K aV kH)
  (gK:PySem.W.mroIn K br (.type "ValueError")=some true)
  (aR:PySem.W.mroIn K br (.ref dO)=some true)
  (bK:MI K br js)
  (bU:PySem.W.mroIn K br (.ref br)=some true)
  (bN:MI K br bu)
  (bD:MI K br jr)
  (bC:MI K br aV)
  (bQ:MI K br kJ)
  (bV:MI K br kD)
  (cg:MI K br mm)
  (cf:MI K br mq)
  (bP:MI K br kH)
  : Top K mg where
 lI:=a0.fn X G
 kM:=a1.fn X G
 lK:=a2.fn X G
 kA:=a3.fn X G
 jJ:=a4.fn X G
 jh:=a5.fn X G
 kN:=a6.fn X G
 kL:=a7.fn X G
 kG:=a8.fn X G
 kC:=a9.fn X G
 lR:=a10.fn X G
 kK:=a11.fn X G
 ky:=a12.fn X G
 pG:=a13.fn X G
 kP:=a14.fn X G
 jI:=a15.fn X G
 lP:=a16.fn X G
 nT:=a17.fn X G
 sS:=a18.fn X G
 nP:=a19.fn X G
 lO:=a20.fn X G
 nW:=a21.fn X G
 lJ:=a22.fn X G
 kE:=a23.fn X G
 jG:=a24.fn X G
 kO:=a25.fn X G
 lQ:=a26.fn X G
 lS:=a27.fn X G
 jg:=a28.fn X G
 kz:=a29.fn X G
 lH:=a30.fn X G
 lM:=a31.fn X G
 kR:=a32.fn X G
 kF:=a33.fn X G
 kx:=a34.fn X G
 nQ:=a35.fn X G
 je:=a36.fn X G
 lG:=a37.fn X G
 jf:=a38.fn X G
 lL:=a39.fn X G
 lN:=a40.fn X G
 iG:=a41.fn X G
 jH:=a42.fn X G
 lT:=a43.fn X G
 jb:=a44.fn X G
 ji:=a45.fn X G
 kQ:=a46.fn X G
 gH:=a47.fn X G
 fJ:=a48.fn X G
 jc:=a49.fn X G
 Af:=a50.fn X G
 az:=PySem.W.mg_none_of X G iB
 pH:=PySem.W.mg_none_of X G yg
 b5:=PySem.W.mg_none_of X G yf
 pI:=PySem.W.mg_none_of X G yk
 ym:=PySem.W.mg_none_of X G yp
 jd:=PySem.W.mg_none_of X G jj
 yl:=PySem.W.mg_none_of X G uA
 iA:=PySem.W.mg_none_of X G uC
 pF:=PySem.W.mg_none_of X G yo
 b7:=PySem.W.mg_none_of X G qT
 sT:=PySem.W.mg_none_of X G nS
 Ae:=PySem.W.mg_none_of X G yh
 Ad:=PySem.W.mg_none_of X G yi
 yn:=PySem.W.mg_none_of X G yq
 ku:=PySem.W.mg_none_of X G qX
 Ac:=PySem.W.mg_none_of X G yj
 nU:=PySem.W.mg_none_of X G uB
 kB:=PySem.W.mg_none_of X G iC
 gI:=eV.xn X G sgt stk
 gD:=aX.xn X G sgt stk
 eU:=aO.xn X G sgt stk
 gF:=aY.xn X G sgt stk
 gu:=cC.xn X G sgt stk
 lA:=eT.xn X G sgt stk
 nR:=gJ.xn X G sgt stk
 nN:=gC.xn X G sgt stk
 qU:=ju.xn X G sgt stk
 qV:=jt.xn X G sgt stk
 nO:=gG.xn X G sgt stk
 gE:=wE aX.1 gE
 aQ:=mG aX.1 cC.1 aQ (fun z=>nomatch z)
 bL:=bL.xm aX.1 eT.1
 bY:=bY.xm aX.1 aY.1
 bS:=mG aX.1 aX.1 bS (fun z=>nomatch z)
 bH:=bH.xm aX.1 eV.1
 bI:=bI.xm aX.1 aO.1
 bX:=bX.xm aX.1 gJ.1
 bR:=bR.xm aX.1 gC.1
 ci:=ci.xm aX.1 ju.1
 cj:=cj.xm aX.1 jt.1
 bW:=bW.xm aX.1 gG.1
 eX:=wE aO.1 eX
 aN:=mG aO.1 cC.1 aN (fun z=>nomatch z)
 bo:=bo.xm aO.1 eT.1
 bG:=bG.xm aO.1 aY.1
 bF:=bF.xm aO.1 aX.1
 bn:=bn.xm aO.1 eV.1
 bp:=mG aO.1 aO.1 bp (fun z=>nomatch z)
 bE:=bE.xm aO.1 gJ.1
 bM:=bM.xm aO.1 gC.1
 bO:=bO.xm aO.1 ju.1
 bT:=bT.xm aO.1 jt.1
 bJ:=bJ.xm aO.1 gG.1
 gK:=wE aY.1 gK
 aR:=mG aY.1 cC.1 aR (fun z=>nomatch z)
 bK:=bK.xm aY.1 eT.1
 bU:=mG aY.1 aY.1 bU (fun z=>nomatch z)
 bN:=bN.xm aY.1 aX.1
 bD:=bD.xm aY.1 eV.1
 bC:=bC.xm aY.1 aO.1
 bQ:=bQ.xm aY.1 gJ.1
 bV:=bV.xm aY.1 gC.1
 cg:=cg.xm aY.1 ju.1
 cf:=cf.xm aY.1 jt.1
 bP:=bP.xm aY.1 gG.1
theorem law_bind {P:Program} {w:World} {K:Frag} {mg:Str->Option Value} (T:Top K mg):∃ f fd,(∀ base:Heap,FnOk P w K mg base CX0 12 f fd ["_law_script"] (lb K))/\(∀ (s:Shared) (u:Value),BindsTo s fd ⟨[u],[]⟩ [("_law_script",u)])/\mg "law" = some (.ref f):=by
 obtain ⟨f,fd,F,m⟩:=T.Af;refine ⟨f,fd,fun base=>AF T F,?_,m⟩;obtain ⟨oc,od,kV,doc,pm,an,cdv,ct,osl,rfl,lk,hcd⟩:=F.ex;exact fun s u=>.of_eq rfl
theorem walk {l:PySem.W.OpenLaw} {q:Program} {loose:List Str} {XP:(Str->Option Value)->Heap->Prop} {α:Type} {Yf:Shared->α} {Ya:World->α} {d:DefRec} {K:Params->Frag} (hn:l.most=some 63) (hdf:d.params.defaults=[])
  (hY:∀ (w:World) (s:Shared),Yf s=Ya w->(K w.params).In s.heap/\0 < s.toks)
  (F:∀ (w:World) (mg:Str->Option Value) (fa:Addr) (h:Heap),(K w.params).In h->h.Ns mainGlobals mg->mg d.name=some (.ref fa) ->
   ∃ fd:FuncData,(∀ (s:Shared) (u:Value),BindsTo s fd ⟨[u],[]⟩ [("_law_script",u)])/\∀ base:Heap,(K w.params).In base->base.Ns mainGlobals mg->FnOk l.prog w (K w.params) mg base CX0 12 fa fd ["_law_script"] (lb (K w.params))):
  PySem.W.WalkX q loose XP Yf Ya l.row.toRowW d [] (fun f vs=>PySem.call f vs):=
 L2.walk_ofX (n:=63) (k:=12) (x := "_law_script") (CX:=fun _=>CX0) (sp:=fun w=>lb (K w.params)) hn (by decide) hdf ⟨rfl,by decide,by decide,rfl⟩ hY F (fun _ _ a ns hl _ hS=>⟨ns,hS,hl,fun _=>rfl⟩) fun _ _ _ _ _ z=>z
end Law
open PySem PySem.W PyProof.Rows
local macro_rules | `(tactic| walk_at "mi")=>`(tactic| (refine' Law.MI.of ?m ?d; (case m=>k_is); (case d=>decide)))
local macro_rules | `(tactic| walk_at "df")=>`(tactic| (refine' Law.DefI.of ?a ?l ?c ?k; (case a=>k_is); (case l=>k_is); (case c=>k_is); (case k=>k_is)))
local macro_rules | `(tactic| walk_at "ec")=>`(tactic| (refine' ⟨?n,?q,?t,?b,?g,?h,?a,?o⟩; (case n=>k_is); (case q=>k_exc); (case t=>k_is); (case b=>k_is); (case g=>k_is); (case h=>k_is); (case a=>k_is); (case o=>k_is)))
set_option maxRecDepth 100000 in
set_option maxHeartbeats 0 in
theorem PySem.Challenge.cw_throng_k41_no_walk_holds : PySem.Challenge.rw_throng_k41_no_walk.Holds := by
 w_on; o_law; z_head; (case hw=>w_witness2)
 k_fill
 refine Law.walk (l:=PySem.Challenge.rw_throng_k41_no_walk) rfl rfl (fun w s Y=>L2.z_pos Y (fun _=>rfl) (by decide)) ?F
 case F=>
  intro w mg fa h KX G hmg;have T:Law.Top (L2.KOf KX) mg:=by
   dsimp only [L2.KOf];refine' Law.all_mk KX G ?a0 ?a1 ?a2 ?a3 ?a4 ?a5 ?a6 ?a7 ?a8 ?a9 ?a10 ?a11 ?a12 ?a13 ?a14 ?a15 ?a16 ?a17 ?a18 ?a19 ?a20 ?a21 ?a22 ?a23 ?a24 ?a25 ?a26 ?a27 ?a28 ?a29 ?a30 ?a31 ?a32 ?a33 ?a34 ?a35 ?a36 ?a37 ?a38 ?a39 ?a40 ?a41 ?a42 ?a43 ?a44 ?a45 ?a46 ?a47 ?a48 ?a49 ?a50 ?iB ?yg ?yf ?yk ?yp ?jj ?uA ?uC ?yo ?qT ?nS ?yh ?yi ?yq ?qX ?yj ?uB ?iC ?eV ?aX ?aO ?aY ?cC ?eT ?gJ ?gC ?ju ?jt ?gG ?sgt ?stk ?gE ?aQ ?bL ?bY ?bS ?bH ?bI ?bX ?bR ?ci ?cj ?bW ?eX ?aN ?bo ?bG ?bF ?bn ?bp ?bE ?bM ?bO ?bT ?bJ ?gK ?aR ?bK ?bU ?bN ?bD ?bC ?bQ ?bV ?cg ?cf ?bP
   (case a0 | a1 | a2 | a3 | a4 | a5 | a6 | a7 | a8 | a9 | a10 | a11 | a12 | a13 | a14 | a15 | a16 | a17 | a18 | a19 | a20 | a21 | a22 | a23 | a24 | a25 | a26 | a27 | a28 | a29 | a30 | a31 | a32 | a33 | a34 | a35 | a36 | a37 | a38 | a39 | a40 | a41 | a42 | a43 | a44 | a45 | a46 | a47 | a48 | a49 | a50=>walk_at "df")
   (case iB | yg | yf | yk | yp | jj | uA | uC | yo | qT | nS | yh | yi | yq | qX | yj | uB | iC=>k_is)
   (case eV | aX | aO | aY | cC | eT | gJ | gC | ju | jt | gG=>walk_at "ec")
   (case sgt=>k_is); (case stk=>k_is)
   (case gE | aQ=>k_is)
   (case bL | bY=>walk_at "mi")
   (case bS=>k_is)
   (case bH | bI | bX | bR | ci | cj | bW=>walk_at "mi")
   (case eX | aN=>k_is)
   (case bo | bG | bF | bn=>walk_at "mi")
   (case bp=>k_is)
   (case bE | bM | bO | bT | bJ=>walk_at "mi")
   (case gK | aR=>k_is)
   (case bK=>walk_at "mi")
   (case bU=>k_is)
   (case bN | bD | bC | bQ | bV | cg | cf | bP=>walk_at "mi")
  obtain ⟨f,fd,F,b,m⟩:=Law.law_bind (P:=PySem.Challenge.pw_throng_k41_no_walk) (w:=w) T;have e0:=hmg.symm.trans m;cases e0;exact ⟨fd,b,fun base _ _=>F base⟩
#print axioms PySem.Challenge.cw_throng_k41_no_walk_holds
