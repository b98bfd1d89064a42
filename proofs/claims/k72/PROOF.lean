import PyProof.Rows.All
import Wide.All
import OpenK.AllK
import Wide.FinOn
import Lean
import PyProof.EqAt
import PyProof.EqKinds
import PyProof.TupleCall
import KE.KLam
import KE.KSortKey
import KE.KSorted
import PySem.Challenge.RW_throng_k72_nets_mixed
namespace PySem.W.Fast
def tw6352117887099146496:=0
def tw11478567490833086784:=0
def tw16965430661001703840:=0
def tw4414442738564365792:=0
def tw13695937337018917536:=0
def tw10543714896865884992:=0
def tw7684999410779973472:=0
def tw1729380065312958368:=0
def tw331199582179920800:=0
def tw14642429779416946624:=0
def tw7462838639678776353:=0
def tw13667901996934817089:=0
def tw16816750987018073441:=0
def tw1068172375344194017:=0
def tw11767023174056857121:=0
def tw12070114994302945889:=0
def tw12391361467727223585:=0
def tw14108396889197804481:=0
def tw8714798702064253026:=0
def tw12429368241651969154:=0
def tw5760787848379161794:=0
def tw17535593337650087138:=0
def tw16700818891032971586:=0
def tw6716173493620999554:=0
def tw17041300521661762946:=0
def tw8382142132878046050:=0
def tw1040514714717148098:=0
def tw661268663405771714:=0
def tw9342352256158027746:=0
def tw16742760489504507907:=0
def tw15909741012786716675:=0
def tw18385800881062849539:=0
def tw2748520668468766819:=0
def tw7706049647617548451:=0
def tw8285877584697097411:=0
def tw11229173812644750563:=0
def tw15843152584397781251:=0
def tw13744953568635151651:=0
def tw6251508017995508003:=0
def tw8446474217296578915:=0
def tw10499944511743751523:=0
def tw10132515669816527267:=0
def tw9525008798123132547:=0
def tw6650409035210929027:=0
def tw13354147323989811107:=0
def tw12409537733504868323:=0
def tw4667712333532722276:=0
def tw5192783483497208132:=0
def tw1806275210598385092:=0
def tw12232326716569920036:=0
def tw12022157093597473380:=0
def tw17966833729081879332:=0
def tw14942491482126620548:=0
def tw15630891490892919716:=0
def tw9166957335067483173:=0
def tw15636314479819167813:=0
def tw2571777412353039621:=0
def tw9503025660818421029:=0
def tw3731661871042799941:=0
def tw1391982207474087237:=0
def tw2918949813870531045:=0
def tw14321374320701341253:=0
def tw7933278196373459589:=0
def tw4044045500533522085:=0
def tw10667015943975858981:=0
def tw9076910097444106053:=0
def tw12553130398149396325:=0
def tw17091922030258316165:=0
def tw5314578071140450277:=0
def tw10065256890667467878:=0
def tw10284028195521782950:=0
def tw10210394728553663686:=0
def tw9645843908299345126:=0
def tw17309838328527551782:=0
def tw16561523506616823302:=0
def tw9670643002333939430:=0
def tw9053210688128168710:=0
def tw10168225036814097190:=0
def tw8639651589766882150:=0
def tw12938810455710137863:=0
def tw10679224596640509479:=0
def tw6223781949986202343:=0
def tw16351204555869863879:=0
def tw11468681417539754983:=0
def tw4836849874458303624:=0
def tw11983726201554838792:=0
def tw13046824043875376552:=0
def tw7476213004442965448:=0
def tw1732972745707099592:=0
def tw9932593694461199848:=0
def tw11086533806855981704:=0
def tw3152689304425831048:=0
def tw5198121059917732520:=0
def tw5251972618575764296:=0
def tw866619182154376168:=0
def tw352807566254144777:=0
def tw10468891426807002377:=0
def tw16665108078958677289:=0
def tw9878284320870859241:=0
def tw11057599254926009833:=0
def tw11919534932276247017:=0
def tw1457416439748615145:=0
def tw354895066317612266:=0
def tw15582604403215229194:=0
def tw14327638757246388682:=0
def tw9638328091502841290:=0
def tw2553173019227048522:=0
def tw4373572947992286826:=0
def tw17169940547421874315:=0
def tw18274694993784516011:=0
def tw6006963753291615691:=0
def tw8812383681472434859:=0
def tw3115065643744343755:=0
def tw15218072972063084267:=0
def tw2907531695936449291:=0
def tw17984675742932069580:=0
def tw7844749608351294828:=0
def tw7657927548954987916:=0
def tw46253240821915180:=0
def tw7370600824104865388:=0
def tw15841153423506642700:=0
def tw6661697836274485068:=0
def tw17977394303696547853:=0
def tw6681710138296664109:=0
def tw8679264364517323821:=0
def tw1507426341204829357:=0
def tw11058184016336296237:=0
def tw7666333392672768333:=0
def tw17596471120979700077:=0
def tw7387802453220768141:=0
def tw2302735100941991341:=0
def tw1701484341987334669:=0
def tw3244476258555803373:=0
def tw7333655235665903341:=0
def tw3044998346016587725:=0
def tw87840633572153422:=0
def tw4501278337237763502:=0
def tw1610377963153256942:=0
def tw10932829357238368078:=0
def tw14499525232874144686:=0
def tw714367496178672622:=0
def tw6272049357426252079:=0
def tw155752362440399311:=0
def tw16142998637654227439:=0
def tw10052710876085342031:=0
def tw4478416324382990191:=0
def tw13193794828672414768:=0
def tw17444697484202421296:=0
def tw13382200198184375440:=0
def tw1212977858490694224:=0
def tw15543987243986189521:=0
def tw1356169750145247569:=0
def tw10749124088342517105:=0
def tw13971079160102671793:=0
def tw1562782073597185457:=0
def tw12729633777936820721:=0
def tw17470086243615146513:=0
def tw13065229748980366033:=0
def tw12414886707748732817:=0
def tw15928495627384731633:=0
def tw3310804907393402898:=0
def tw9312994312549121106:=0
def tw1629671237077865938:=0
def tw6109618923795531378:=0
def tw8476899809337940722:=0
def tw4779050885948267250:=0
def tw13827353583903698738:=0
def tw2242322113333741426:=0
def tw8743516288442299250:=0
def tw17218382675537460178:=0
def tw6720538807653985331:=0
def tw4121420155412911315:=0
def tw12044330295807722707:=0
def tw525640750784501075:=0
def tw7097085975473286483:=0
def tw6986832107484301747:=0
def tw4614270667405978035:=0
def tw10230255111496052275:=0
def tw14268466690543916819:=0
def tw15290878925819766547:=0
def tw12454445651449669523:=0
def tw1617725200031366196:=0
def tw8714488048975875156:=0
def tw18410414169949333620:=0
def tw4157602094904103444:=0
def tw6580829743589571284:=0
def tw11307176256244437716:=0
def tw6380308907909589940:=0
def tw17926401712936136660:=0
def tw5910384968489524949:=0
def tw9822712517199683413:=0
def tw15065702683992768501:=0
def tw10982203744689110038:=0
def tw404973041903820918:=0
def tw8579904919443259830:=0
def tw14046033590832107030:=0
def tw17107113738551917110:=0
def tw13646329580803938966:=0
def tw15834453003330496214:=0
def tw7506064859214462007:=0
def tw5201616528169122967:=0
def tw18376159293379823191:=0
def tw10512792359441333943:=0
def tw8830860301356772183:=0
def tw3286699471489006744:=0
def tw6871829118733576408:=0
def tw10247509264509890776:=0
def tw8208457108923743448:=0
def tw3321713545004197176:=0
def tw14581295933348656568:=0
def tw1678199690905324120:=0
def tw8017336427184529048:=0
def tw2352109215010245689:=0
def tw10917053391391468633:=0
def tw5398479351983049945:=0
def tw13536725646243783897:=0
def tw14791715178314997017:=0
def tw5181058285918116185:=0
def tw706750735511951769:=0
def tw10436681338370382361:=0
def tw9443976559709789753:=0
def tw7719503937650941593:=0
def tw10089196492599053305:=0
def tw16322420051988170842:=0
def tw9707328710708933914:=0
def tw10377563640755921242:=0
def tw15895575058132736410:=0
def tw15364791093533573914:=0
def tw12638533259351321466:=0
def tw15733063259614929914:=0
def tw5531902538562079867:=0
def tw13749870203200877755:=0
def tw9232816273014442171:=0
def tw7638764807453278523:=0
def tw6684561205558690363:=0
def tw17303923463073365947:=0
def tw15879597932352769340:=0
def tw722486231827376540:=0
def tw15411598328868466172:=0
def tw9022623136281483164:=0
def tw1409263780746924317:=0
def tw4936325960813450589:=0
def tw10122793330926468925:=0
def tw12974455870967317341:=0
def tw7949941805841174365:=0
def tw9057511839951544253:=0
def tw15374604366782879902:=0
def tw11055753725905552670:=0
def tw9338295163724050910:=0
def tw3618722107934145086:=0
def tw7008431474834571006:=0
def tw17931077277071986462:=0
def tw6442176513080015678:=0
def tw3974318110323694687:=0
def tw15044295789917589663:=0
def tw2495210836450421951:=0
def tw13215884932293144063:=0
def tw9567787299683503615:=0
def tw358898196707228191:=0
def tw2850679087854983135:=0
def tw5593892462824175615:=0
def tw9884179117248331618:=0
end PySem.W.Fast
open PySem.W (Frag nsIn keepIn fnOf codeIn mg_of findIn)
set_option compiler.extract_closed false
set_option Elab.async false
set_option linter.all false
set_option maxRecDepth 100000
namespace L2
open PySem PySem.Spec PyProof.Rows
noncomputable abbrev Key:=Sum Int Str
noncomputable def keyIs:Key->Value->Bool
 | .inl k,v=>Value.isInt k v
 | .inr x,v=>Value.isStrOf x v
noncomputable def keyH (w:World):Key->Int
 | .inl k=>hashInt k
 | .inr x=>hashStr w x
theorem bt:∀ {k:Key} {v:Value},keyIs k v=true->(∃ i t,k=Sum.inl i/\v=Value.int i t)\/(∃ x t,k=Sum.inr x/\v=Value.str x t)
 | .inl i,v,h=>by
  obtain ⟨t,e⟩:=Value.isInt_shape (k:=i) (v:=v) h;exact .inl ⟨i,t,rfl,e⟩
 | .inr x,v,h=>by
  obtain ⟨t,e⟩:=Value.isStrOf_shape (x:=x) (v:=v) h;exact .inr ⟨x,t,rfl,e⟩
theorem sf (a b:Int):decide ((Sum.inl a:Key)=Sum.inl b)=(a == b):=by
 by_cases e:a=b
 ·subst e; simp
 ·have h:¬ (Sum.inl a:Key)=Sum.inl b:=fun q=>e (Sum.inl.inj q)
  rw [decide_eq_false h];exact (beq_eq_false_iff_ne.mpr e).symm
theorem sF (a b:Str):decide ((Sum.inr a:Key)=Sum.inr b)=decide (a=b):=by
 by_cases e:a=b
 ·subst e; simp
 ·have h:¬ (Sum.inr a:Key)=Sum.inr b:=fun q=>e (Sum.inr.inj q)
  rw [decide_eq_false h,decide_eq_false e]
theorem rG (a:Int) (b:Str):decide ((Sum.inl a:Key)=Sum.inr b)=false:=decide_eq_false (fun q=>nomatch q)
theorem rS (a:Str) (b:Int):decide ((Sum.inr a:Key)=Sum.inl b)=false:=decide_eq_false (fun q=>nomatch q)
noncomputable def mixKind (prog:Program) (w:World):PySem.KeyKind prog w Key where
 is:=keyIs
 hash:=keyH w
 inj:=fun v a b ha hb=>by
  rcases bt ha with ⟨i,t,rfl,rfl⟩ | ⟨x,t,rfl,rfl⟩
  ·rcases bt hb with ⟨j,u,rfl,e⟩ | ⟨y,u,rfl,e⟩
   ·injection e with e1 _; rw [e1]
   ·exact nomatch e
  ·rcases bt hb with ⟨j,u,rfl,e⟩ | ⟨y,u,rfl,e⟩
   ·exact nomatch e
   ·injection e with e1 _; rw [e1]
 byValue:=fun k v h=>by
  rcases bt h with ⟨i,t,rfl,rfl⟩ | ⟨x,t,rfl,rfl⟩ <;> rfl
 pyHash:=fun hv h=>by
  rcases bt hv with ⟨i,t,rfl,rfl⟩ | ⟨x,t,rfl,rfl⟩
  ·exact wpAny_pyHash_int h
  ·exact wpAny_pyHash_str h
 eqBool:=fun hu hv h=>by
  rcases bt hu with ⟨i,t,rfl,rfl⟩ | ⟨x,t,rfl,rfl⟩
  ·rcases bt hv with ⟨j,u,rfl,rfl⟩ | ⟨y,u,rfl,rfl⟩
   ·rw [sf] at h; exact wpAny_eqBool_int h
   ·rw [rG] at h; exact SeqAt.EqAt.int_str i t y u _ _ _ _ h
  ·rcases bt hv with ⟨j,u,rfl,rfl⟩ | ⟨y,u,rfl,rfl⟩
   ·rw [rS] at h; exact SeqAt.EqAt.str_int x t j u _ _ _ _ h
   ·rw [sF] at h; exact wpAny_eqBool_str h
 «strs»:=fun k x t v h=>by
  rcases bt h with ⟨i,u,rfl,e⟩ | ⟨y,u,rfl,e⟩
  ·exact nomatch e
  ·injection e with e1 _
   subst e1;cases v <;> rfl
inductive V where
 | non | bl (b:Bool) | int (i:Int) | str (x:Str) | byt (b:Array UInt8) | flt (b:UInt64) | ref (a:Addr) | ty (n:String)
 deriving DecidableEq
noncomputable def RelV:V->Value->Prop
 | .non,u=>u=Value.none
 | .bl b,u=>u=Value.bool b
 | .int i,u=>∃ t,u=Value.int i t
 | .str x,u=>∃ t,u=Value.str x t
 | .byt b,u=>∃ t,u=Value.bytes b t
 | .flt b,u=>∃ t,u=Value.float b t
 | .ref a,u=>u=Value.ref a
 | .ty n,u=>u=Value.type n
noncomputable abbrev Vals:List V->List Value->Prop:=Paired RelV
theorem Vals.length {xs:List V} {us:List Value} (r:Vals xs us):xs.length=us.length:=Paired.length r
theorem Vals.get:∀ {xs:List V} {us:List Value} {i:Nat} {x:V},Vals xs us->xs[i]? = some x->∃ u,us[i]? = some u/\RelV x u
 | _,_,_,_,.nil,e=>by simp at e
 | _,_,0,_,.cons r _,e=>by simp at e; subst e; exact ⟨_,rfl,r⟩
 | _,_,i+1,x,.cons _ t,e=>by
  obtain ⟨u,h1,h2⟩:=Vals.get (i:=i) (x:=x) t (by simpa using e);exact ⟨u,by simpa using h1,h2⟩
theorem Vals.set {x:V} {u:Value} (r:RelV x u):∀ {xs:List V} {us:List Value} (i:Nat),Vals xs us->Vals (xs.set i x) (us.set i u)
 | _,_,_,.nil=>.nil
 | _,_,0,.cons _ t=>.cons r t
 | _,_,i+1,.cons q t=>.cons q (Vals.set r i t)
theorem Vals.append:∀ {xs ys:List V} {us ws:List Value},Vals xs us->Vals ys ws->Vals (xs++ys) (us++ws)
 | _,_,_,_,.nil,s=>s
 | _,_,_,_,.cons r t,s=>.cons r (Vals.append t s)
theorem Vals.take:∀ {xs:List V} {us:List Value} (n:Nat),Vals xs us->Vals (xs.take n) (us.take n)
 | _,_,0,_=>.nil
 | _,_,_+1,.nil=>.nil
 | _,_,n+1,.cons r t=>.cons r (Vals.take n t)
theorem Vals.drop:∀ {xs:List V} {us:List Value} (n:Nat),Vals xs us->Vals (xs.drop n) (us.drop n)
 | _,_,0,r=>r
 | _,_,_+1,.nil=>.nil
 | _,_,n+1,.cons _ t=>Vals.drop n t
noncomputable def RelO:Option V->Option Value->Prop
 | some v,some u=>RelV v u
 | none,none=>True
 | _,_=>False
noncomputable def KV {κ:Type}:List (κ × V)->List (κ × Value)->Prop:=Paired fun (p:κ × V) (q:κ × Value)=>p.1=q.1/\RelV p.2 q.2
noncomputable def kV:Key->V
 | .inl i=>.int i
 | .inr x=>.str x
inductive HO where
 | lst (xs:List V)
 | tup (xs:List V)
 | dK (kvs:List (Key × V)) | dT (kvs:List (List Key × V))
 | set (S:Int->Bool) (n:Nat)
 | ins (C dx:Addr) (fs:List (Str × V))
 | own (x:Addr)
 | xd (fs:List (Str × V))
 | met (f x:Addr)
 | rng (lo hi:Int)
 | frz (o:Obj) (u:HO)
 | tbl (ps:Array Value)
 | ext (φ:Heap->Prop)
noncomputable abbrev Hp:=Addr->Option HO
noncomputable def upd (H:Hp) (a:Addr) (o:HO):Hp:=fun b=>if b=a then some o else H b
theorem upd_same {H:Hp} {a:Addr} {o:HO}:upd H a o a=some o:=by unfold upd; rw [if_pos rfl]
theorem au {H:Hp} {a b:Addr} {o:HO} (h:b≠a):upd H a o b=H b:=by unfold upd; rw [if_neg h]
theorem bc {H:Hp} {a b:Addr} {o:HO} (h:H a=some o) (h':H b=none):a≠b:=by
 intro e; subst e; rw [h] at h'; cases h'
noncomputable def lamQ:Str:=Str.ofString "longest_first.<locals>.<lambda>"
def TabOk (H:Hp) (h:Heap) (a:Addr) (ps:Array Value):Prop:=TriplesOk ps.toList/\∀ pos cv,codeAmong pos ps.toList=some cv->∃ c,cv=.ref c/\H c=some (.own a)/\h.CodeRec (.ref c) lamQ
section
variable (P:Program) (w:World)
noncomputable def ObjOk (H:Hp) (h:Heap) (a:Addr):HO->Prop
 | .lst xs=>xs.length<=sizeLine/\∃ (its:List Value) (n:Nat),Vals xs its/\h.get? a=some { cls:=.type "list",data:=.seq its.toArray n }
 | .tup xs=>xs.length<=sizeLine/\∃ its:List Value,Vals xs its/\IsTup h a its.toArray
 | .dK kvs=>kvs.length<=sizeLine/\(a == sysModules)=false/\∃ vs,KV kvs vs/\h.DictOf (mixKind P w) a vs
 | .dT kvs=>kvs.length<=sizeLine/\(a == sysModules)=false/\∃ xs:List (List Key × Addr × Value),
   Paired (fun (p:List Key × V) (q:List Key × Addr × Value)=>p.1=q.1/\H q.2.1=some (.tup (p.1.map kV))/\RelV p.2 q.2.2) kvs xs /\
   ∃ o es ep,h.get? a=some o/\o.ExactDict/\o.data=.dict es ep/\es.toList=xs.map (entryOfKey (tupleKind (mixKind P w)))/\(xs.map (·.1)).Nodup
 | .set S n=>h.SetOf (intKind P w) a S n
 | .ins C dx fs=>H dx=some (.own a)/\fs.length<=1000/\dx≠a/\h.get? a=some (PySem.W.instObj C dx) /\
   ∃ mA,h.Ns1 dx mA/\(∀ f,RelO (fs.lookup f) (mA f))/\PySem.Within mA (fs.map (·.1))
 | .own _=>∃ o,h.get? a=some o
 | .xd fs=>∃ mA,h.Ns1 a mA/\∀ f,RelO (fs.lookup f) (mA f)
 | .rng lo hi=>∃ t u v,h.get? a=some { cls:=.type "range",data:=.fields #[.int lo t,.int hi u,.int 1 v] }
 | .frz o u=>h.get? a=some o/\ObjOk H h a u
 | .tbl ps=>∃ more:Array Value,h.get? a=some { cls:=.none,data:=.fields (ps++more) }/\TabOk H h a (ps++more)
 | .met f x=>h.get? a=some (PySem.W.methodObj (.ref f) (.ref x))
 | .ext φ=>φ h/\(∃ o,h.get? a=some o)/\∀ h1 h2:Heap,φ h1->(∀ o,h1.get? a=some o->h2.get? a=some o)->φ h2
def HOk (H:Hp) (h:Heap):Prop:=∀ a o,H a=some o->ObjOk P w H h a o
end
section
variable {P:Program} {w:World} {H H':Hp} {h h':Heap} {a:Addr} {o:HO}
theorem ObjOk.lt (x:ObjOk P w H h a o):a < h.objs.size:=by
 cases o with
 | lst xs=>obtain ⟨_,_,_,_,e⟩:=x; exact Heap.lt_size e
 | tup xs=>obtain ⟨_,_,_,p⟩:=x; exact p.lt
 | dK kvs=>obtain ⟨_,_,_,_,o,_,_,e,_⟩:=x; exact Heap.lt_size e
 | dT kvs=>obtain ⟨_,_,_,_,o,_,_,e,_⟩:=x; exact Heap.lt_size e
 | set S n=>obtain ⟨o,_,_,_,e,_⟩:=x; exact Heap.lt_size e
 | ins C dx fs=>obtain ⟨_,_,_,e,_⟩:=x; exact Heap.lt_size e
 | own y=>obtain ⟨_,e⟩:=x; exact Heap.lt_size e
 | xd fs=>obtain ⟨_,⟨_,_,_,e,_⟩,_⟩:=x; exact Heap.lt_size e
 | rng lo hi=>obtain ⟨_,_,_,e⟩:=x; exact Heap.lt_size e
 | frz ob u=>obtain ⟨e,_⟩:=x; exact Heap.lt_size e
 | tbl ps=>obtain ⟨_,e,_⟩:=x; exact Heap.lt_size e
 | met f y=>exact Heap.lt_size (show h.get? a=some _ from x)
 | ext φ=>obtain ⟨_,⟨_,e⟩,_⟩:=x; exact Heap.lt_size e
theorem Paired.mapP {α β:Type} {F G:α -> β -> Prop}:∀ {l₁:List α} {l₂:List β},Paired F l₁ l₂ -> (∀ a b,F a b->G a b)->Paired G l₁ l₂
 | _,_,.nil,_=>.nil
 | _,_,.cons r t,f=>.cons (f _ _ r) (Paired.mapP t f)
theorem Paired.imp' {α β:Type} {F G:α -> β -> Prop} (f:∀ a b,F a b->G a b) {l₁:List α} {l₂:List β} (r:Paired F l₁ l₂):Paired G l₁ l₂:=Paired.mapP r f
theorem ObjOk.stay (x:ObjOk P w H h a o) (k:∀ b u,(b=a\/H b=some (.own a))->h.get? b=some u->h'.get? b=some u)
  (ho:∀ b,H b=some (.own a)->H' b=some (.own a)) (ht:∀ b xs,H b=some (.tup xs)->H' b=some (.tup xs)):ObjOk P w H' h' a o:=by
 induction o with
 | lst xs=>obtain ⟨z,its,n,r,e⟩:=x; exact ⟨z,its,n,r,k _ _ (.inl rfl) e⟩
 | tup xs=>obtain ⟨z,its,r,ob,e,c⟩:=x; exact ⟨z,its,r,ob,k _ _ (.inl rfl) e,c⟩
 | dK kvs=>obtain ⟨z,y,vs,r,ob,es,ep,e,c⟩:=x; exact ⟨z,y,vs,r,ob,es,ep,k _ _ (.inl rfl) e,c⟩
 | dT kvs=>
  obtain ⟨z,y,xs,r,ob,es,ep,e,c⟩:=x;exact ⟨z,y,xs,Paired.mapP r fun p q z=>⟨z.1,ht _ _ z.2.1,z.2.2⟩,ob,es,ep,k _ _ (.inl rfl) e,c⟩
 | set S n=>obtain ⟨ob,es,ep,t,e,c⟩:=x; exact ⟨ob,es,ep,t,k _ _ (.inl rfl) e,c⟩
 | ins C dx fs=>
  obtain ⟨d,z,ne,e,mA,⟨od,es,ep,e2,c⟩,r⟩:=x;exact ⟨ho _ d,z,ne,k _ _ (.inl rfl) e,mA,⟨od,es,ep,k _ _ (.inr d) e2,c⟩,r⟩
 | own y=>obtain ⟨ob,e⟩:=x; exact ⟨ob,k _ _ (.inl rfl) e⟩
 | xd fs=>obtain ⟨mA,⟨od,es,ep,e,c⟩,r⟩:=x; exact ⟨mA,⟨od,es,ep,k _ _ (.inl rfl) e,c⟩,r⟩
 | rng lo hi=>obtain ⟨t,u,v,e⟩:=x; exact ⟨t,u,v,k _ _ (.inl rfl) e⟩
 | frz ob u ih=>obtain ⟨e,q⟩:=x; exact ⟨k _ _ (.inl rfl) e,ih q⟩
 | tbl ps=>
  obtain ⟨more,e,t1,t2⟩:=x;refine ⟨more,k a _ (.inl rfl) e,t1,fun pos cv q=>?_⟩;obtain ⟨c,e1,e2,c2,o,vs,t,e3,e4,e5⟩:=t2 pos cv q;cases e3;exact ⟨c,e1,ho _ e2,c,o,vs,t,rfl,k _ _ (.inr e2) e4,e5⟩
 | met f y=>
  have e:h.get? a=some (PySem.W.methodObj (.ref f) (.ref y)):=x;show h'.get? a=some (PySem.W.methodObj (.ref f) (.ref y));exact k a _ (.inl rfl) e
 | ext φ=>obtain ⟨p,⟨o,e⟩,st⟩:=x; exact ⟨st _ _ p fun o q=>k _ _ (.inl rfl) q,⟨o,k _ _ (.inl rfl) e⟩,st⟩
theorem HOk.lt (x:HOk P w H h) (e:H a=some o):a < h.objs.size:=(x a o e).lt
theorem HOk.fresh (x:HOk P w H h) (e:h.objs.size<=a):H a=none:=by
 cases q:H a with
 | none=>rfl
 | some u=>exact absurd (Nat.lt_of_lt_of_le (x.lt q) e) (Nat.lt_irrefl _)
theorem HOk.kept (x:HOk P w H h) (k:∀ b u,h.get? b=some u->h'.get? b=some u):HOk P w H h':=fun a o e=>
 (x a o e).stay (fun b u _ q=>k b u q) (fun _ q=>q) fun _ _ q=>q
theorem HOk.laid (x:HOk P w H h) (k:∀ b u,h.get? b=some u->h'.get? b=some u) (hp:h.objs.size<=a) (new:ObjOk P w (upd H a o) h' a o):HOk P w (upd H a o) h':=fun b u e=>by
 have hn:=x.fresh hp;by_cases hb:b=a
 ·subst hb; rw [upd_same] at e; cases e; exact new
 ·rw [au hb] at e;exact (x b u e).stay (fun c v _ q=>k c v q) (fun c q=>by rw [au (bc q hn)]; exact q) fun c xs q=>by rw [au (bc q hn)]; exact q
end
def Rd (H:Hp) (a:Addr) (u:HO):Prop:=H a=some u\/∃ o,H a=some (.frz o u)
theorem Rd.of {H:Hp} {a:Addr} {u:HO} (h:H a=some u):Rd H a u:=.inl h
theorem Rd.ok {P:Program} {w:World} {H:Hp} {h:Heap} {a:Addr} {u:HO} (r:Rd H a u) (x:HOk P w H h):ObjOk P w H h a u:=by
 rcases r with r | ⟨o,r⟩
 ·exact x a u r
 ·obtain ⟨_,q⟩:=x a _ r;exact q
noncomputable def Mut:Option HO->Prop
 | some (.lst _)=>True
 | some (.dK _)=>True
 | some (.dT _)=>True
 | some (.set _ _)=>True
 | some (.ins _ _ _)=>True
 | some (.ext _)=>True
 | _=>False
section
variable {P:Program} {w:World} {H:Hp} {h h':Heap} {x e:Addr} {o':HO}
theorem HOk.write (ok:HOk P w H h) (mu:Mut (H x)) (he:e=x\/H e=some (.own x)) (k:∀ b u,b≠e->h.get? b=some u->h'.get? b=some u) (heo:∃ u,h'.get? e=some u)
  (new:ObjOk P w (upd H x o') h' x o'):HOk P w (upd H x o') h':=fun b u q=>by
 have nown:∀ c y,H c=some (.own y)->c≠x:=fun c y r z=>by subst z; rw [r] at mu; exact mu
 have ntup:∀ c xs,H c=some (.tup xs)->c≠x:=fun c xs r z=>by subst z; rw [r] at mu; exact mu
 by_cases hb:b=x
 ·subst hb; rw [upd_same] at q; cases q; exact new
 ·rw [au hb] at q;by_cases hbe:b=e
  ·have q':H b=some (.own x):=by
    rcases he with z | z
    ·exact absurd (hbe.trans z) hb
    ·rw [hbe]; exact z
   rw [q] at q'; cases q';obtain ⟨v,hv⟩:=heo;exact ⟨v,by rw [hbe]; exact hv⟩
  ·refine (ok b u q).stay (fun c v hc r=>k c v ?_ r) (fun c r=>by rw [au (nown c b r)]; exact r) fun c xs r=>by rw [au (ntup c xs r)]; exact r
   rcases hc with rfl | hc
   ·exact hbe
   ·rintro rfl;rcases he with z | z
    ·exact nown c b hc z
    ·rw [hc] at z; cases z; exact hb rfl
end
structure Un (fs ex:List Addr) (H H':Hp) (h h':Heap):Prop where
 keep:∀ b o,h.get? b=some o->H b=none->b ∉ fs->b ∉ ex->h'.get? b=some o
 slot:∀ b o,h.get? b=some o->H b=none->b ∈ fs->b ∉ ex->∃ sl,h'.get? b=some { o with slots:=sl }
 free:∀ b o,h.get? b=some o->H b=none->b ∉ ex->H' b=none
 there:∀ b o,h.get? b=some o->b ∉ ex->∃ o',h'.get? b=some o'
 tups:∀ b xs,H b=some (.tup xs)->H' b=some (.tup xs)
 frzs:∀ b o xs,H b=some (.frz o (.lst xs))->H' b=some (.frz o (.lst xs))
 tbls:∀ b ps,H b=some (.tbl ps)->∃ more,H' b=some (.tbl (ps++more))
section
variable {fs fs' ex ex':List Addr} {H H1 H2:Hp} {h h1 h2 h':Heap} {a x e:Addr} {o:HO}
theorem Un.any (u:Un fs ex H H1 h h1) {b:Addr} {ob:Obj} (q:h.get? b=some ob) (n:H b=none) (hx:b ∉ ex):∃ sl,h1.get? b=some { ob with slots:=sl }:=by
 by_cases hb:b ∈ fs
 ·exact u.slot b ob q n hb hx
 ·exact ⟨ob.slots,u.keep b ob q n hb hx⟩
theorem Un.trans (a:Un fs ex H H1 h h1) (b:Un fs ex H1 H2 h1 h2):Un fs ex H H2 h h2 where
 keep:=fun c ob q n hc hx=>b.keep c ob (a.keep c ob q n hc hx) (a.free c ob q n hx) hc hx
 slot:=fun c ob q n hc hx=>by
  obtain ⟨sl,e1⟩:=a.slot c ob q n hc hx;obtain ⟨sl',e2⟩:=b.slot c _ e1 (a.free c ob q n hx) hc hx;exact ⟨sl',e2⟩
 free:=fun c ob q n hx=>by
  obtain ⟨o',e1⟩:=a.there c ob q hx;exact b.free c o' e1 (a.free c ob q n hx) hx
 there:=fun c ob q hx=>by
  obtain ⟨o',e1⟩:=a.there c ob q hx;exact b.there c o' e1 hx
 tups:=fun c xs q=>b.tups c xs (a.tups c xs q)
 frzs:=fun c ob xs q=>b.frzs c ob xs (a.frzs c ob xs q)
 tbls:=fun c ps q=>by
  obtain ⟨m1,e1⟩:=a.tbls c ps q;obtain ⟨m2,e2⟩:=b.tbls c _ e1;exact ⟨m1++m2,by rw [e2,Array.append_assoc]⟩
theorem Un.kept (k:∀ b u,h.get? b=some u->h'.get? b=some u):Un fs ex H H h h':=
 ⟨fun b ob q _ _ _=>k b ob q,fun b ob q _ _ _=>⟨ob.slots,k b ob q⟩,fun _ _ _ n _=>n,fun b ob q _=>⟨ob,k b ob q⟩,fun _ _ q=>q,fun _ _ _ q=>q,fun _ ps q=>⟨#[],by rw [q]; simp⟩⟩
theorem Un.refl:Un fs ex H H h h:=Un.kept fun _ _ q=>q
theorem Un.laid (k:∀ b u,h.get? b=some u->h'.get? b=some u) (hp:h.objs.size<=a) (hn:H a=none):Un fs ex H (upd H a o) h h' where
 keep:=fun b u q _ _ _=>k b u q
 slot:=fun b u q _ _ _=>⟨u.slots,k b u q⟩
 free:=fun b u q n _=>by rw [au (Nat.ne_of_lt (Nat.lt_of_lt_of_le (Heap.lt_size q) hp))]; exact n
 there:=fun b u q _=>⟨u,k b u q⟩
 tups:=fun b xs q=>by rw [au (bc q hn)]; exact q
 frzs:=fun b u xs q=>by rw [au (bc q hn)]; exact q
 tbls:=fun b ps q=>⟨#[],by rw [au (bc q hn),q]; simp⟩
theorem Un.write (mu:Mut (H x)) (he:e=x\/H e=some (.own x)) (k:∀ b u,b≠e->h.get? b=some u->h'.get? b=some u) (heo:∃ u,h'.get? e=some u):Un fs ex H (upd H x o) h h':=by
 have hx:∀ b,H b=none->b≠x:=fun b n z=>by subst z; rw [n] at mu; exact mu
 have hb:∀ b,H b=none->b≠e:=fun b n z=>by
  subst z;rcases he with r | r
  ·exact hx b n r
  ·rw [n] at r; cases r
 have hm:∀ b u,H b=some u->¬ Mut (some u)->b≠x:=fun b u q nm z=>by subst z; rw [q] at mu; exact nm mu
 refine ⟨fun b u q n _ _=>k b u (hb b n) q,fun b u q n _ _=>⟨u.slots,k b u (hb b n) q⟩,fun b u q n _=>by rw [au (hx b n)]; exact n,fun b u q _=>?_,
  fun b xs q=>by rw [au (hm b _ q fun z=>z)]; exact q,fun b u xs q=>by rw [au (hm b _ q fun z=>z)]; exact q,fun b ps q=>⟨#[],by rw [au (hm b _ q fun z=>z),q]; simp⟩⟩
 by_cases hbe:b=e
 ·subst hbe; exact heo
 ·exact ⟨u,k b u hbe q⟩
theorem Un.mono (u:Un fs ex H H1 h h1) (hs:∀ b ∈ fs,b ∈ fs') (hx:∀ b ∈ ex,b ∈ ex'):Un fs' ex' H H1 h h1:=
 ⟨fun b ob q n hb he=>u.keep b ob q n (fun z=>hb (hs b z)) fun z=>he (hx b z),fun _ _ q n _ he=>u.any q n fun z=>he (hx _ z),fun b ob q n he=>u.free b ob q n fun z=>he (hx b z),fun b ob q he=>u.there b ob q fun z=>he (hx b z),u.tups,u.frzs,u.tbls⟩
end
noncomputable def trk (h:Heap) (H:Hp):List Addr:=(List.range h.objs.size).filter fun a=>(H a).isSome
noncomputable def hidT (h:Heap) (H:Hp):Heap:=PySem.W.hideAll h (trk h H)
theorem mv (h:Heap) (H:Hp):(hidT h H).objs.size=h.objs.size:=PySem.W.hideAll_size _ _
theorem oX {h:Heap} {H:Hp} {b:Addr} {o:Obj} (e:h.get? b=some o) (n:H b=none):(hidT h H).get? b=some o:=
 PySem.W.hideAll_get _ e fun hm=>by
  have q:(H b).isSome=true:=(List.mem_filter.mp hm).2;rw [n] at q; simp at q
theorem qV {h:Heap} {H:Hp} {b:Addr} {o:Obj} (e:(hidT h H).get? b=some o):h.get? b=some o/\H b=none:=by
 have e':h.get? b=some o:=PySem.W.of_hideAll (trk h H) e;refine ⟨e',?_⟩;cases q:H b with
 | none=>rfl
 | some x=>
  have hm:b ∈ trk h H:=List.mem_filter.mpr ⟨List.mem_range.mpr (Heap.lt_size e'),by simp [q]⟩;have z:(hidT h H).get? b=none:=PySem.W.hideAll_none (trk h H) hm;rw [z] at e; cases e
noncomputable def allNews (g h:Heap) (L:Addr):List (Addr × Obj):=(List.range h.objs.size).filterMap fun a=>if a=L\/(g.get? a).isSome=true then none else (h.get? a).map fun o=>(a,o)
noncomputable def rest (g h:Heap) (L d:Addr):List (Addr × Obj):=(allNews g h L).filter fun p=>decide (p.1≠d)
structure Mod (K:Frag) (mg:Str->Option Value) (base:Heap):Prop where
 kin:K.In base
 glob:base.Ns mainGlobals mg
 blt:∃ mb,base.Ns builtinsNs mb/\∀ x:Str,x ≠ "__name__" -> mb x=bootBuiltins x
 nolimit:base.NoLimit
structure Cx where
 prog:Program
 w:World
 K:Frag
 mg:Str->Option Value
 base:Heap
 A:Around
 N:List Str
 s₀:Shared
 H₀:Hp
 env:Env
 outer:List Env
 stack:List Env
 ex:List Addr
 fn:Str->Bool
 calm:Bool
 pn:List (Addr × Obj)
 xe:Value->Shared->Prop
noncomputable def frs (l:List Env):List Addr:=l.filterMap (·.frame)
noncomputable abbrev Cx.fs (X:Cx):List Addr:=frs X.outer
def Vis (sc:Scope) (x:Str):Prop:=sc.names.lookup x=some .local\/sc.names.lookup x=some .cell\/sc.names.lookup x=some .free
def Loc (sc:Scope) (x:Str):Prop:=sc.names.lookup x=some .local\/sc.names.lookup x=some .cell
def Look (env:Env) (h:Heap) (m:Str->Option Value) (x:Str) (u:Value):Prop:=
 (env.kindOf x=some .local/\m x=some u)\/((env.kindOf x=some .cell\/env.kindOf x=some .free)/\∃ c,env.cells.lookup x=some c/\h.IsCell c (some u))
structure Cx.Ok (X:Cx):Prop where
 mod:Mod X.K X.mg X.base
 kind:X.env.scope.kind=.function
 glob:X.env.globals=mainGlobals
 blt:X.env.builtins=builtinsNs
 above:X.s₀.heap.objs.size<=X.env.locals
 inj:∀ x y c,X.env.cells.lookup x=some c->X.env.cells.lookup y=some c->x=y
 has:∀ x,(X.env.kindOf x=some .cell\/X.env.kindOf x=some .free)->∃ c,X.env.cells.lookup x=some c
 cab:∀ x c,X.fn x=true->X.env.cells.lookup x=some c->X.s₀.heap.objs.size<=c
 hd:X.calm=true->X.A.handled=none
 frames:X.A.frames=some X.stack
 stk:X.stack=X.outer\/(X.stack=X.env::X.outer/\X.env.frame=some X.env.locals)
 exf:∀ b ∈ X.ex,b≠X.env.locals/\∀ x c,X.env.cells.lookup x=some c->c≠b
 bs:∀ b o,X.base.get? b=some o->X.s₀.heap.get? b=some o/\X.H₀ b=none
 bsz:X.base.objs.size<=X.s₀.heap.objs.size
 noex:∀ b o,X.base.get? b=some o->b ∉ X.ex
 exfs:∀ b ∈ X.ex,b ∉ X.fs
 funs:X.s₀.heap.FunFrames X.base X.outer
 frf:∀ b ∈ X.fs,X.H₀ b=none
structure Inv (X:Cx) (pins:List (Addr × Obj)) (σ:List (Option V)) (H:Hp) (s:Shared):Prop where
 ok:X.Ok
 os:s.os=X.s₀.os
 bare:AllBare s.gens
 base:Un X.fs X.ex X.H₀ H X.s₀.heap s.heap
 loc:∃ m,s.heap.Ns X.env.locals m/\∀ (i:Nat) (x:Str) (v:V),X.N[i]? = some x->σ[i]? = some (some v)->Vis X.env.scope x->∃ u,RelV v u/\Look X.env s.heap m x u
 cell:∀ x c,X.env.cells.lookup x=some c->∃ v,s.heap.IsCell c v
 free:H X.env.locals=none
 freeC:∀ x c,X.env.cells.lookup x=some c->H c=none
 pin:∀ p ∈ X.pn++pins,s.heap.get? p.1=some p.2/\H p.1=none/\p.1≠X.env.locals/\p.1 ∉ X.fs/\∀ v,p.2.data≠.cell v
 hok:HOk X.prog X.w H s.heap
 len:σ.length=X.N.length
 tk:0 < s.toks
section
variable {X:Cx} {pins:List (Addr × Obj)} {σ:List (Option V)} {H H':Hp} {s:Shared} {h':Heap}
theorem Cx.Ok.nofr (ok:X.Ok) {b:Addr} {o:Obj} (e:X.base.get? b=some o):b ∉ X.fs:=fun hb=>by
 have:=(ok.funs.mem hb).1;rw [e] at this; cases this
theorem Inv.bs (I:Inv X pins σ H s):∀ b o,X.base.get? b=some o->s.heap.get? b=some o/\H b=none:=fun b o e=>
 ⟨I.base.keep b o (I.ok.bs b o e).1 (I.ok.bs b o e).2 (I.ok.nofr e) (I.ok.noex b o e),I.base.free b o (I.ok.bs b o e).1 (I.ok.bs b o e).2 (I.ok.noex b o e)⟩
theorem Inv.bk (I:Inv X pins σ H s):∀ b o,X.base.get? b=some o->s.heap.get? b=some o:=fun b o e=>(I.bs b o e).1
theorem Inv.mod (I:Inv X pins σ H s):Mod X.K X.mg X.base:=I.ok.mod
theorem Inv.kIn (I:Inv X pins σ H s):X.K.In s.heap:=I.ok.mod.kin.keeps I.bk
theorem Inv.nolimit (I:Inv X pins σ H s):s.heap.NoLimit:=I.ok.mod.nolimit.keeps I.bk
theorem Inv.fr (I:Inv X pins σ H s):∃ m,Fr X.base X.env.locals s.heap m:=
 let ⟨m,hn,_⟩:=I.loc
 ⟨m,hn,I.bk,Nat.le_trans I.ok.bsz I.ok.above⟩
theorem Inv.lt (I:Inv X pins σ H s):X.env.locals < s.heap.objs.size:=let ⟨_,hn,_⟩:=I.loc; hn.lt
theorem Inv.sz (I:Inv X pins σ H s):X.s₀.heap.objs.size<=s.heap.objs.size:=Nat.le_trans I.ok.above (Nat.le_of_lt I.lt)
theorem Inv.nofs (I:Inv X pins σ H s) {a:Addr} (h:s.heap.objs.size<=a):a ∉ X.fs:=fun hb=>by
 obtain ⟨_,o,ho,_⟩:=I.ok.funs.mem hb;exact absurd (Nat.lt_of_lt_of_le (Heap.lt_size ho) (Nat.le_trans I.sz h)) (Nat.lt_irrefl _)
theorem Inv.cne (I:Inv X pins σ H s):∀ x c,X.env.cells.lookup x=some c->c≠X.env.locals:=fun x c e z=>by
 obtain ⟨v,o,ho,hd⟩:=I.cell x c e;obtain ⟨m,⟨o',es,ep,ho',hd',_⟩,_⟩:=I.loc;rw [z,ho'] at ho; cases ho; rw [hd'] at hd; cases hd
theorem Inv.funs (I:Inv X pins σ H s):s.heap.FunFrames X.base X.outer:=by
 have all:∀ (l:List Env),(∀ b ∈ frs l,b ∈ X.fs)->X.s₀.heap.FunFrames X.base l->s.heap.FunFrames X.base l:=by
  intro l
  induction l with
  | nil=>intro _ _; trivial
  | cons env r ih=>
   intro hs hl;obtain ⟨hk,⟨L,o,hf,hn,ho,hd⟩,hr⟩:=hl;have hL:L ∈ X.fs:=hs L (by unfold frs; rw [List.filterMap_cons,hf]; exact List.mem_cons_self);obtain ⟨sl,e⟩:=I.base.slot L o ho (I.ok.frf L hL) hL fun z=>I.ok.exfs L z hL
   exact ⟨hk,⟨L,_,hf,hn,e,hd⟩,ih (fun b hb=>hs b (by unfold frs; rw [List.filterMap_cons,hf]; exact List.mem_cons_of_mem _ hb)) hr⟩
 exact all X.outer (fun _ hb=>hb) I.ok.funs
theorem Inv.stack (I:Inv X pins σ H s):s.heap.FunFrames X.base X.stack:=by
 rcases I.ok.stk with e | ⟨e,hf⟩
 ·rw [e]; exact I.funs
 ·rw [e];obtain ⟨m,hn,_⟩:=I.loc;refine .cons (by rw [I.ok.kind]; decide) hf hn ?_ I.funs;exact Heap.get?_none_of_le (Nat.le_trans I.ok.bsz I.ok.above)
theorem Inv.stkSub (I:Inv X pins σ H s):∀ b ∈ frs X.stack,b ∈ X.env.locals::X.fs:=fun b hb=>by
 rcases I.ok.stk with e | ⟨e,hf⟩
 ·rw [e] at hb; exact List.mem_cons_of_mem _ hb
 ·rw [e] at hb;unfold frs at hb;rw [List.filterMap_cons,hf] at hb;exact hb
theorem Inv.stkFree (I:Inv X pins σ H s):∀ b ∈ frs X.stack,H b=none:=fun b hb=>by
 rcases List.mem_cons.mp (I.stkSub b hb) with e | hb
 ·rw [e]; exact I.free
 ·obtain ⟨_,o,ho,_⟩:=I.ok.funs.mem hb;exact I.base.free b o ho (I.ok.frf b hb) fun z=>I.ok.exfs b z hb
theorem Inv.step {g':Array GenState} {t':Nat} {d':Drawn} {ch:List Addr} (I:Inv X pins σ H s)
  (hch:∀ b ∈ ch,(b ∈ X.ex\/X.s₀.heap.objs.size<=b)/\b≠X.env.locals/\(∀ x c,X.env.cells.lookup x=some c->c≠b)/\∀ p ∈ X.pn++pins,p.1≠b)
  (keep:∀ b o,b≠X.env.locals->b ∉ X.fs->b ∉ ch->s.heap.get? b=some o->H b=none->h'.get? b=some o)
  (slot:∀ b o,b≠X.env.locals->b ∈ X.fs->b ∉ ch->s.heap.get? b=some o->H b=none->∃ sl,h'.get? b=some { o with slots:=sl }) (free:∀ b o,b ∉ ch->s.heap.get? b=some o->H b=none->H' b=none)
  (there:∀ b o,b ∉ ch->s.heap.get? b=some o->∃ o',h'.get? b=some o')
  (tups:∀ b xs,H b=some (.tup xs)->H' b=some (.tup xs)) (frzs:∀ b o xs,H b=some (.frz o (.lst xs))->H' b=some (.frz o (.lst xs))) (tbls:∀ b ps,H b=some (.tbl ps)->∃ more,H' b=some (.tbl (ps++more)))
  (ns:∀ m,s.heap.Ns X.env.locals m->h'.Ns X.env.locals m) (hok:HOk X.prog X.w H' h') (hg:AllBare g') (ht:0 < t':=by first | assumption | exact Nat.succ_pos _ | (apply Inv.tk; assumption) | omega):
  Inv X pins σ H' { s with heap:=h',gens:=g',drawn:=d',toks:=t' }:=by
 have neL:∀ b o,X.s₀.heap.get? b=some o->b≠X.env.locals:=fun b o e=>Nat.ne_of_lt (Nat.lt_of_lt_of_le (Heap.lt_size e) I.ok.above)
 have neC:∀ b o,X.s₀.heap.get? b=some o->b ∉ X.ex->b ∉ ch:=fun b o e hx hb=>by
  rcases (hch b hb).1 with z | z
  ·exact hx z
  ·exact absurd (Nat.lt_of_lt_of_le (Heap.lt_size e) z) (Nat.lt_irrefl _)
 have cellK:∀ x c,X.env.cells.lookup x=some c->∀ v,s.heap.IsCell c v->h'.IsCell c v:=fun x c e v ⟨o,ho,hd⟩=>by
  have nch:c ∉ ch:=fun z=>(hch c z).2.2.1 x c e rfl
  by_cases hc:c ∈ X.fs
  ·obtain ⟨sl,q⟩:=slot c o (I.cne x c e) hc nch ho (I.freeC x c e);exact ⟨_,q,hd⟩
  ·exact ⟨o,keep c o (I.cne x c e) hc nch ho (I.freeC x c e),hd⟩
 refine ⟨I.ok,I.os,hg,⟨fun b o e n hb hx=>?_,fun b o e n hb hx=>?_,fun b o e n hx=>?_,fun b o e hx=>?_,fun b xs e=>tups b xs (I.base.tups b xs e),fun b o xs e=>frzs b o xs (I.base.frzs b o xs e),fun b ps e=>?_⟩,?_,fun x c e=>?_,?_,fun x c e=>?_,fun p hp=>?_,hok,I.len,ht⟩
 ·exact keep b o (neL b o e) hb (neC b o e hx) (I.base.keep b o e n hb hx) (I.base.free b o e n hx)
 ·obtain ⟨sl,e1⟩:=I.base.slot b o e n hb hx;obtain ⟨sl',e2⟩:=slot b _ (neL b o e) hb (neC b o e hx) e1 (I.base.free b o e n hx);exact ⟨sl',e2⟩
 ·obtain ⟨o',e1⟩:=I.base.there b o e hx;exact free b o' (neC b o e hx) e1 (I.base.free b o e n hx)
 ·obtain ⟨o',e1⟩:=I.base.there b o e hx;exact there b o' (neC b o e hx) e1
 ·obtain ⟨m1,e1⟩:=I.base.tbls b ps e;obtain ⟨m2,e2⟩:=tbls b _ e1;exact ⟨m1++m2,by rw [e2,Array.append_assoc]⟩
 ·obtain ⟨m,hn,hl⟩:=I.loc;refine ⟨m,ns m hn,fun i x v e1 e2 e3=>?_⟩;obtain ⟨u,r,l⟩:=hl i x v e1 e2 e3;refine ⟨u,r,?_⟩;rcases l with l | ⟨k,c,e,z⟩
  ·exact .inl l
  ·exact .inr ⟨k,c,e,cellK x c e _ z⟩
 ·obtain ⟨v,z⟩:=I.cell x c e;exact ⟨v,cellK x c e v z⟩
 ·obtain ⟨m,⟨o,_,_,ho,_⟩,_⟩:=I.loc;exact free _ o (fun z=>(hch _ z).2.1 rfl) ho I.free
 ·obtain ⟨v,o,ho,hd⟩:=I.cell x c e;exact free c o (fun z=>(hch c z).2.2.1 x c e rfl) ho (I.freeC x c e)
 ·obtain ⟨e,n,ne,nf,d⟩:=I.pin p hp;have nch:p.1 ∉ ch:=fun z=>(hch p.1 z).2.2.2 p hp rfl
  exact ⟨keep p.1 p.2 ne nf nch e n,free p.1 p.2 nch e n,ne,nf,d⟩
theorem Inv.un {t':Nat} (I:Inv X pins σ H s) (u:Un X.fs [] H H' s.heap h') (hok:HOk X.prog X.w H' h') (ht:0 < t':=by first | assumption | exact Nat.succ_pos _ | (apply Inv.tk; assumption) | omega):Inv X pins σ H' { s with heap:=h',toks:=t' }:=by
 obtain ⟨m,⟨o,es,ep,ho,r⟩,_⟩:=id I.loc;obtain ⟨sl,hL⟩:=u.any ho I.free (by simp);exact I.step (g':=s.gens) (d':=s.drawn) (ch:=[]) (fun _ z=>nomatch z) (fun b o _ hb _ e n=>u.keep b o e n hb (by simp)) (fun b o _ hb _ e n=>u.slot b o e n hb (by simp)) (fun b o _ e n=>u.free b o e n (by simp)) (fun b o _ e=>u.there b o e (by simp)) u.tups u.frzs u.tbls (fun m' hm=>by
  obtain ⟨o',es',ep',ho',r'⟩:=hm;rw [ho] at ho'; cases ho';exact ⟨_,es',ep',hL,r'⟩) hok I.bare ht
theorem Inv.call {g':Array GenState} {t':Nat} {d':Drawn} {ch:List Addr} (I:Inv X pins σ H s) (u:Un (frs X.stack) ch H H' s.heap h') (hok:HOk X.prog X.w H' h') (hg:AllBare g')
  (hch:∀ b ∈ ch,(b ∈ X.ex\/X.s₀.heap.objs.size<=b)/\b≠X.env.locals/\(∀ x c,X.env.cells.lookup x=some c->c≠b)/\∀ p ∈ X.pn++pins,p.1≠b) (ht:0 < t':=by first | assumption | exact Nat.succ_pos _ | (apply Inv.tk; assumption) | omega):
  Inv X pins σ H' { s with heap:=h',gens:=g',drawn:=d',toks:=t' }:=by
 obtain ⟨m,⟨o,es,ep,ho,r⟩,_⟩:=id I.loc;obtain ⟨sl,hL⟩:=u.any ho I.free fun z=>(hch _ z).2.1 rfl
 exact I.step (ch:=ch) hch (fun b o hL hb hc e n=>u.keep b o e n (fun z=>(List.mem_cons.mp (I.stkSub b z)).elim hL hb) hc) (fun b o _ _ hc e n=>u.any e n hc) (fun b o hc e n=>u.free b o e n hc) (fun b o hc e=>u.there b o e hc) u.tups u.frzs u.tbls (fun m' hm=>by
  obtain ⟨o',es',ep',ho',r'⟩:=hm;rw [ho] at ho'; cases ho';exact ⟨_,es',ep',hL,r'⟩) hok hg ht
theorem Inv.turned {t':Nat} {it:Addr} (I:Inv X pins σ H s) (k:∀ b o,b≠it->s.heap.get? b=some o->h'.get? b=some o) (hn:H it=none) (hL:it≠X.env.locals)
  (h1:it ∈ X.ex\/X.s₀.heap.objs.size<=it) (h2:∀ x c,X.env.cells.lookup x=some c->c≠it) (h3:∀ p ∈ X.pn++pins,p.1≠it) (ht:0 < t':=by first | assumption | exact Nat.succ_pos _ | (apply Inv.tk; assumption) | omega):Inv X pins σ H { s with heap:=h',toks:=t' }:=by
 have nit:∀ b u,H b=some u->b≠it:=fun b u e z=>by rw [z,hn] at e; cases e
 refine I.step (g':=s.gens) (d':=s.drawn) (ch:=[it]) (fun b hb=>?_) (fun b o _ _ hc e _=>k b o (fun z=>hc (by simp [z])) e) (fun b o _ _ hc e _=>⟨o.slots,k b o (fun z=>hc (by simp [z])) e⟩) (fun _ _ _ _ n=>n)
  (fun b o hc e=>⟨o,k b o (fun z=>hc (by simp [z])) e⟩) (fun _ _ e=>e) (fun _ _ _ e=>e) (fun b ps e=>⟨#[],by rw [e]; simp⟩) (fun m hm=>?_) (fun b u e=>?_) I.bare
 ·have e:b=it:=by simpa using hb
  subst e;exact ⟨h1,hL,h2,h3⟩
 ·obtain ⟨o,es,ep,ho,r⟩:=hm;exact ⟨o,es,ep,k _ o (Ne.symm hL) ho,r⟩
 ·refine (I.hok b u e).stay (fun c v hc q=>k c v ?_ q) (fun _ q=>q) fun _ _ q=>q
  rcases hc with z | z
  ·rw [z]; exact nit b u e
  ·exact nit c _ z
theorem Inv.tok (I:Inv X pins σ H s) (t:Nat) (ht:0 < t:=by first | assumption | exact Nat.succ_pos _ | (apply Inv.tk; assumption) | omega):Inv X pins σ H { s with toks:=t }:=I.un (h':=s.heap) (t':=t) Un.refl I.hok ht
theorem Inv.kept {t':Nat} (I:Inv X pins σ H s) (k:∀ b u,s.heap.get? b=some u->h'.get? b=some u) (ht:0 < t':=by first | assumption | exact Nat.succ_pos _ | (apply Inv.tk; assumption) | omega):Inv X pins σ H { s with heap:=h',toks:=t' }:=I.un (Un.kept k) (I.hok.kept k) ht
theorem Inv.laid {a:Addr} {o:HO} {t':Nat} (I:Inv X pins σ H s) (k:∀ b u,s.heap.get? b=some u->h'.get? b=some u) (hp:s.heap.objs.size<=a) (new:ObjOk X.prog X.w (upd H a o) h' a o) (ht:0 < t':=by first | assumption | exact Nat.succ_pos _ | (apply Inv.tk; assumption) | omega):
  Inv X pins σ (upd H a o) { s with heap:=h',toks:=t' }:=I.un (Un.laid k hp (I.hok.fresh hp)) (I.hok.laid k hp new) ht
theorem Inv.write {x e:Addr} {o:HO} {t':Nat} (I:Inv X pins σ H s) (mu:Mut (H x)) (he:e=x\/H e=some (.own x)) (k:∀ b u,b≠e->s.heap.get? b=some u->h'.get? b=some u) (heo:∃ u,h'.get? e=some u)
  (new:ObjOk X.prog X.w (upd H x o) h' x o) (ht:0 < t':=by first | assumption | exact Nat.succ_pos _ | (apply Inv.tk; assumption) | omega):Inv X pins σ (upd H x o) { s with heap:=h',toks:=t' }:=I.un (Un.write mu he k heo) (I.hok.write mu he k heo new) ht
theorem Inv.weak {σ':List (Option V)} (I:Inv X pins σ H s) (hl:σ'.length=σ.length) (w:∀ (i:Nat) v,σ'[i]? = some (some v)->σ[i]? = some (some v)):Inv X pins σ' H s:=
 ⟨I.ok,I.os,I.bare,I.base,let ⟨m,hn,hl'⟩:=I.loc; ⟨m,hn,fun i x v e1 e2 e3=>hl' i x v e1 (w i v e2) e3⟩,I.cell,I.free,I.freeC,I.pin,I.hok,hl.trans I.len,I.tk⟩
theorem Inv.pins_of {pins':List (Addr × Obj)} (I:Inv X pins σ H s) (h:∀ p ∈ pins',s.heap.get? p.1=some p.2/\H p.1=none/\p.1≠X.env.locals/\p.1 ∉ X.fs/\∀ v,p.2.data≠.cell v):Inv X pins' σ H s:=
 ⟨I.ok,I.os,I.bare,I.base,I.loc,I.cell,I.free,I.freeC,fun p hp=>(List.mem_append.mp hp).elim (fun z=>I.pin p (List.mem_append_left _ z)) (h p),I.hok,I.len,I.tk⟩
theorem iS {N:List Str} (hN:N.Nodup) {i j:Nat} {x:Str} (a:N[i]? = some x) (b:N[j]? = some x):i=j:=by
 obtain ⟨h1,e1⟩:=List.getElem?_eq_some_iff.mp a;obtain ⟨h2,e2⟩:=List.getElem?_eq_some_iff.mp b;exact (List.getElem_inj hN).mp (e1.trans e2.symm)
theorem jH {M:Model} {A:Around} {E:Value->Shared->Prop} {i:Nat} {x:Str} {v:V} {u:Value} {Q:Unit->Shared->Prop} (I:Inv X pins σ H s) (hN:X.N.Nodup) (hi:X.N[i]? = some x) (hx:Loc X.env.scope x) (r:RelV v u)
  (h:∀ s',Inv X pins (σ.set i (some v)) H s'->(∃ a,Heap.SameBut a s.heap s'.heap/\(a=X.env.locals\/X.env.cells.lookup x=some a))->Q () s') (hf:X.fn x=true\/X.env.scope.names.lookup x=some .local:=by first | exact .inl rfl | exact .inr rfl | assumption):wpAny M A (storeName X.env x u) Q E s:=by
 obtain ⟨m,hn,hl⟩:=id I.loc;have hcls:(X.env.scope.kind == .class || (X.env.scope.kind == .module && X.env.locals != X.env.globals))=false:=by rw [I.ok.kind]; rfl
 have hiσ:i < σ.length:=by rw [I.len]; exact (List.getElem?_eq_some_iff.mp hi).1
 have cne:=I.cne;have tracked:∀ {a:Addr} {h':Heap},(∃ o,s.heap.get? a=some o/\H a=none)->Heap.SameBut a s.heap h'->HOk X.prog X.w H h':=fun {a h'} ha hs b ob e=>by
  obtain ⟨_,_,hfree⟩:=ha;refine (I.hok b ob e).stay (fun c w' hc q=>(hs.2 c ?_).trans q) (fun _ q=>q) fun _ _ q=>q
  rintro rfl;rcases hc with rfl | hc
  ·rw [hfree] at e; cases e
  ·rw [hfree] at hc; cases hc
 rcases hx with hk | hk
 ·refine wpAny_storeName_local hk hn (fun h' hn' hs=>?_) hcls;obtain ⟨oL,_,_,hoL,_⟩:=id hn;refine h _ ⟨I.ok,I.os,I.bare,⟨fun b o e n hb hx=>?_,fun b o e n hb hx=>?_,I.base.free,fun b o e hx=>?_,I.base.tups,I.base.frzs,I.base.tbls⟩,⟨_,hn',fun j y v' e1 e2 e3=>?_⟩,fun y c e=>?_,I.free,I.freeC,fun p hp=>?_,tracked ⟨oL,hoL,I.free⟩ hs,by simpa using I.len,(by first | exact Nat.succ_pos _ | exact I.tk)⟩ ⟨_,hs,.inl rfl⟩
  ·exact (hs.2 b (Nat.ne_of_lt (Nat.lt_of_lt_of_le (Heap.lt_size e) I.ok.above))).trans (I.base.keep b o e n hb hx)
  ·obtain ⟨sl,e1⟩:=I.base.slot b o e n hb hx;exact ⟨sl,(hs.2 b (Nat.ne_of_lt (Nat.lt_of_lt_of_le (Heap.lt_size e) I.ok.above))).trans e1⟩
  ·obtain ⟨o',e1⟩:=I.base.there b o e hx;exact ⟨o',(hs.2 b (Nat.ne_of_lt (Nat.lt_of_lt_of_le (Heap.lt_size e) I.ok.above))).trans e1⟩
  ·by_cases hj:j=i
   ·subst hj;rw [hi] at e1; cases e1;rw [List.getElem?_set_self hiσ] at e2;cases e2;exact ⟨u,r,.inl ⟨hk,by simp⟩⟩
   ·rw [List.getElem?_set_ne (Ne.symm hj)] at e2;obtain ⟨u',r',q⟩:=hl j y v' e1 e2 e3;refine ⟨u',r',?_⟩;rcases q with ⟨k,e⟩ | ⟨k,c,e,z⟩
    ·refine .inl ⟨k,?_⟩;have:y≠x:=fun e=>hj (iS hN e1 (e ▸ hi))
     simp [this,e]
    ·exact .inr ⟨k,c,e,z.sameBut hs (cne y c e)⟩
  ·obtain ⟨w',z⟩:=I.cell y c e;exact ⟨w',z.sameBut hs (cne y c e)⟩
  ·obtain ⟨e,n,ne,nf,d⟩:=I.pin p hp;exact ⟨(hs.2 p.1 ne).trans e,n,ne,nf,d⟩
 ·have hfn:X.fn x=true:=by
   rcases hf with z | z
   ·exact z
   ·rw [z] at hk; cases hk
  obtain ⟨c,hc⟩:=I.ok.has x (.inl hk);obtain ⟨w',z⟩:=I.cell x c hc;refine wpAny_storeName_cell I.ok.kind hk hc z (fun h' hc' hs=>?_);obtain ⟨oc,hoc,hocd⟩:=id z;refine h { s with heap:=h' } ⟨I.ok,I.os,I.bare,⟨fun b o e n hb hx=>?_,fun b o e n hb hx=>?_,I.base.free,fun b o e hx=>?_,I.base.tups,I.base.frzs,I.base.tbls⟩,⟨m,hn.sameBut hs (Ne.symm (cne x c hc)),fun j y v' e1 e2 e3=>?_⟩,fun y c' e=>?_,I.free,I.freeC,fun p hp=>?_,tracked ⟨oc,hoc,I.freeC x c hc⟩ hs,by simpa using I.len,I.tk⟩ ⟨c,hs,.inr hc⟩
  ·exact (hs.2 b (Nat.ne_of_lt (Nat.lt_of_lt_of_le (Heap.lt_size e) (I.ok.cab x c hfn hc)))).trans (I.base.keep b o e n hb hx)
  ·obtain ⟨sl,e1⟩:=I.base.slot b o e n hb hx;exact ⟨sl,(hs.2 b (Nat.ne_of_lt (Nat.lt_of_lt_of_le (Heap.lt_size e) (I.ok.cab x c hfn hc)))).trans e1⟩
  ·obtain ⟨o',e1⟩:=I.base.there b o e hx;exact ⟨o',(hs.2 b (Nat.ne_of_lt (Nat.lt_of_lt_of_le (Heap.lt_size e) (I.ok.cab x c hfn hc)))).trans e1⟩
  ·by_cases hj:j=i
   ·subst hj;rw [hi] at e1; cases e1;rw [List.getElem?_set_self hiσ] at e2;cases e2;exact ⟨u,r,.inr ⟨.inl hk,c,hc,hc'⟩⟩
   ·rw [List.getElem?_set_ne (Ne.symm hj)] at e2;obtain ⟨u',r',q⟩:=hl j y v' e1 e2 e3;refine ⟨u',r',?_⟩;rcases q with q | ⟨k,c',e,z'⟩
    ·exact .inl q
    ·refine .inr ⟨k,c',e,z'.sameBut hs ?_⟩;rintro rfl;exact hj (iS hN e1 (I.ok.inj _ _ _ e hc ▸ hi))
  ·by_cases hcc:c'=c
   ·subst hcc; exact ⟨_,hc'⟩
   ·obtain ⟨w2,z2⟩:=I.cell y c' e;exact ⟨w2,z2.sameBut hs hcc⟩
  ·obtain ⟨e,n,ne,nf,d⟩:=I.pin p hp;refine ⟨(hs.2 p.1 ?_).trans e,n,ne,nf,d⟩;intro q;rw [q,hoc] at e;have q':oc=p.2:=Option.some.inj e;exact d w' (by rw [<- q']; exact hocd)
theorem iU {M:Model} {A:Around} {E:Value->Shared->Prop} {i:Nat} {x:Str} {v:V} {u:Value} {Q:Unit->Shared->Prop} (I:Inv X pins σ H s) (hN:X.N.Nodup) (hi:X.N[i]? = some x) (hx:Loc X.env.scope x) (r:RelV v u)
  (h:∀ s',Inv X pins (σ.set i (some v)) H s'->Q () s') (hf:X.fn x=true\/X.env.scope.names.lookup x=some .local:=by first | exact .inl rfl | exact .inr rfl | assumption):wpAny M A (storeName X.env x u) Q E s:=
 jH I hN hi hx r (fun s' I' _=>h s' I') hf
theorem Inv.call' {s':Shared} {ch:List Addr} (I:Inv X pins σ H s) (ho:s'.os=s.os) (u:Un (frs X.stack) ch H H' s.heap s'.heap) (hok:HOk X.prog X.w H' s'.heap) (hg:AllBare s'.gens)
  (hch:∀ b ∈ ch,(b ∈ X.ex\/X.s₀.heap.objs.size<=b)/\b≠X.env.locals/\(∀ x c,X.env.cells.lookup x=some c->c≠b)/\∀ p ∈ X.pn++pins,p.1≠b) (ht:0 < s'.toks:=by first | assumption | exact Nat.succ_pos _ | (apply Inv.tk; assumption) | omega):Inv X pins σ H' s':=by
 obtain ⟨h',g',d',t',o'⟩:=s';have e:o'=s.os:=ho;subst e;exact I.call (g':=g') (t':=t') (d':=d') u hok hg hch ht
end
noncomputable abbrev XK:=Value->Option Addr->Hp->Prop
noncomputable abbrev St:=List (Option V)
noncomputable abbrev VK:=V->Hp->Prop
noncomputable abbrev TE:=St->Hp->VK->Prop
noncomputable abbrev TT:=St->Hp->(Bool->Hp->Prop)->Prop
noncomputable abbrev TA:=St->Hp->(List V->Hp->Prop)->Prop
structure Ends where
 nx:St->Hp->Prop
 rt:VK
 bk:St->Hp->Prop:=fun _ _=>False
 ct:St->Hp->Prop:=fun _ _=>False
noncomputable abbrev TS:=Ends->St->Hp->Prop
def EP (X:Cx) (pins:List (Addr × Obj)) (σ:St) (Q:VK) (u:Value) (s':Shared):Prop:=∃ v H',Inv X pins σ H' s'/\RelV v u/\Q v H'
def TP (X:Cx) (pins:List (Addr × Obj)) (σ:St) (Q:Bool->Hp->Prop) (b:Bool) (s':Shared):Prop:=∃ H',Inv X pins σ H' s'/\Q b H'
def AP (X:Cx) (pins:List (Addr × Obj)) (σ:St) (Q:List V->Hp->Prop) (us:List Value) (s':Shared):Prop:=∃ vs H',Inv X pins σ H' s'/\Vals vs us/\Q vs H'
def SP (X:Cx) (pins:List (Addr × Obj)) (D:Ends) (f:Flow) (s':Shared):Prop:=
 match f with
 | .next=>∃ σ' H',Inv X pins σ' H' s'/\D.nx σ' H'
 | .brk=>∃ σ' H',Inv X pins σ' H' s'/\D.bk σ' H'
 | .cont=>∃ σ' H',Inv X pins σ' H' s'/\D.ct σ' H'
 | .ret u=>∃ v σ' H',Inv X pins σ' H' s'/\RelV v u/\D.rt v H'
def PE (X:Cx) (e:Expr) (t:TE):Prop:=
 ∀ (pins:List (Addr × Obj)) (s:Shared) (σ:St) (H:Hp) (Q:VK),Inv X pins σ H s->t σ H Q->wpAny (model X.prog X.w) X.A (eval e X.env) (EP X pins σ Q) X.xe s
def PT (X:Cx) (e:Expr) (t:TT):Prop:=
 ∀ (pins:List (Addr × Obj)) (s:Shared) (σ:St) (H:Hp) (Q:Bool->Hp->Prop),Inv X pins σ H s->t σ H Q->wpAny (model X.prog X.w) X.A (isTrue e X.env (eval e X.env)) (TP X pins σ Q) X.xe s
def PW (X:Cx) (e:Expr) (t:TT):Prop:=
 ∀ (whole:Sem Value) (pins:List (Addr × Obj)) (s:Shared) (σ:St) (H:Hp) (Q:Bool->Hp->Prop),Inv X pins σ H s->t σ H Q->wpAny (model X.prog X.w) X.A (isTrue e X.env whole) (TP X pins σ Q) X.xe s
theorem PW.pt {X:Cx} {e:Expr} {t:TT} (h:PW X e t):PT X e t:=h _
def PA (X:Cx) (es:List Expr) (t:TA):Prop:=
 ∀ (pos:Pos) (pins:List (Addr × Obj)) (s:Shared) (σ:St) (H:Hp) (Q:List V->Hp->Prop),Inv X pins σ H s->t σ H Q->wpAny (model X.prog X.w) X.A (spliced (backTo pos (starEach es X.env))) (AP X pins σ Q) X.xe s
def PS (X:Cx) (st:Stmt) (t:TS):Prop:=
 ∀ (pins:List (Addr × Obj)) (s:Shared) (σ:St) (H:Hp) (D:Ends),Inv X pins σ H s->t D σ H->wpAny (model X.prog X.w) X.A (exec st X.env) (SP X pins D) X.xe s
def PSs (X:Cx) (st:List Stmt) (t:TS):Prop:=
 ∀ (pins:List (Addr × Obj)) (s:Shared) (σ:St) (H:Hp) (D:Ends),Inv X pins σ H s->t D σ H->wpAny (model X.prog X.w) X.A (execs st X.env) (SP X pins D) X.xe s
theorem thn {α:Type} {t:Sem α} {Q Q':α -> Shared->Prop} {M:Model} {A:Around} {E:Value->Shared->Prop} {s:Shared} (h:wpAny M A t Q E s) (hQ:∀ a s,Q a s->Q' a s):wpAny M A t Q' E s:=wpAny_mono h hQ fun _ _ x=>x
theorem tokQ {α:Type} {t:Sem α} {Q:α -> Shared->Prop} {M:Model} {A:Around} {E:Value->Shared->Prop} {s:Shared} (h0:0 < s.toks) (h:wpAny M A t (fun a s'=>0 < s'.toks->Q a s') E s):wpAny M A t Q E s:=
 wpAny_mono (wpAny_toks_of (n:=1) h0 h) (fun _ _ z=>z.2 z.1) fun _ _ z=>z.2
section
variable {X:Cx}
noncomputable def tVar (i:Nat):TE:=fun σ H Q=>∃ v,σ[i]? = some (some v)/\Q v H
noncomputable def tC (v:V):TE:=fun _ H Q=>Q v H
theorem oF {i:Nat} {x:Str} {pos:Pos} (hN:X.N[i]? = some x) (hv:Vis X.env.scope x) (hd:(x == ("__debug__" : Str))=false:=by decide) (hcd:(x == ("__classdict__" : Str))=false:=by decide):PE X (.Name x pos) (tVar i):=by
 intro pins s σ H Q I h;obtain ⟨v,e,h⟩:=h;obtain ⟨m,hn,hl⟩:=I.loc;obtain ⟨u,r,l⟩:=hl i x v hN e hv;have fin:EP X pins σ Q u s:=⟨v,H,I,r,h⟩;rcases l with ⟨hk,hm⟩ | ⟨hk,c,hc,hcell⟩
 ·exact wpAny_Name (wpAny_loadName_local I.ok.kind hk hn hm fin) hd
 ·rcases hk with hk | hk
  ·exact wpAny_Name (wpAny_loadName_cell I.ok.kind hk hc hcell fin) hd
  ·exact wpAny_Name (wpAny_loadName_free I.ok.kind hk hc hcell fin hcd) hd
theorem ac {i j pos}:PE X (.Constant (.int i) j pos) (tC (.int i)):=fun _ _ _ H _ I h=>wpAny_Constant_int ⟨.int i,H,I.tok _,⟨_,rfl⟩,h⟩
theorem eU {b j pos}:PE X (.Constant (.bool b) j pos) (tC (.bl b)):=fun _ _ _ H _ I h=>Constant_bool ⟨.bl b,H,I,rfl,h⟩
theorem sy {j pos}:PE X (.Constant .none j pos) (tC .non):=fun _ _ _ H _ I h=>Constant_none ⟨.non,H,I,rfl,h⟩
theorem nC {x j pos}:PE X (.Constant (.str x) j pos) (tC (.str x)):=fun _ _ _ H _ I h=>Calls.Constant_str ⟨.str x,H,I.tok _,⟨_,rfl⟩,h⟩
def Gl (X:Cx) (x:Str):Prop:=X.env.kindOf x=some .globalImplicit
theorem gE {E:Value->Shared->Prop} {pins:List (Addr × Obj)} {s:Shared} {σ:St} {H:Hp} {x:Str} {u:Value} {pos:Pos} {Q:Value->Shared->Prop} (I:Inv X pins σ H s) (hg:Gl X x) (hm:X.mg x=some u) (h:Q u s)
  (hd:(x == ("__debug__" : Str))=false:=by decide):wpAny (model X.prog X.w) X.A (eval (.Name x pos) X.env) Q E s:=
 Calls.Name_function_global I.ok.kind hg (Calls.loadGlobal_global (by rw [I.ok.glob]; exact I.mod.glob.keeps I.bk) hm h) hd
theorem fW {E:Value->Shared->Prop} {pins:List (Addr × Obj)} {s:Shared} {σ:St} {H:Hp} {x:Str} {u:Value} {pos:Pos} {Q:Value->Shared->Prop} (I:Inv X pins σ H s) (hg:Gl X x) (hm:X.mg x=none) (hv:bootBuiltins x=some u) (h:Q u s)
  (hn:x ≠ "__name__" := by decide) (hd:(x == ("__debug__" : Str))=false:=by decide):wpAny (model X.prog X.w) X.A (eval (.Name x pos) X.env) Q E s:=by
 obtain ⟨mb,h1,h2⟩:=I.mod.blt;exact Calls.Name_function_global I.ok.kind hg (Calls.loadGlobal_builtin (by rw [I.ok.glob]; exact I.mod.glob.keeps I.bk) hm (by rw [I.ok.blt]; exact h1.keeps I.bk) ((h2 x hn).trans hv) h) hd
theorem qp {x:Str} {v:V} {u:Value} {pos:Pos} (hg:Gl X x) (hm:X.mg x=some u) (r:RelV v u) (hd:(x == ("__debug__" : Str))=false:=by decide):PE X (.Name x pos) (tC v):=
 fun _ _ _ H _ I h=>gE I hg hm ⟨v,H,I,r,h⟩ hd
theorem qH {x:Str} {v:V} {u:Value} {pos:Pos} (hg:Gl X x) (hm:X.mg x=none) (hv:bootBuiltins x=some u) (r:RelV v u) (hn:x ≠ "__name__" := by decide) (hd:(x == ("__debug__" : Str))=false:=by decide):PE X (.Name x pos) (tC v):=
 fun _ _ _ H _ I h=>fW I hg hm hv ⟨v,H,I,r,h⟩ hn hd
variable {a b:Expr} {ta tb:TE} {pos:Pos}
noncomputable def tB (t:TE):TT:=fun σ H Q=>t σ H fun x H1=>∃ c,x=.bl c/\Q c H1
theorem rq {e:Expr} {t:TE} (h:PE X e t) (he:∀ whole,isTrue e X.env whole=(do let v <- whole; standAt e.pos; holding [v] (truthy v)):=by intro _; rfl):PT X e (tB t):=by
 intro pins s σ H Q I hw;refine isTrue_plain (thn (h pins s σ H _ I hw) fun v s1 ⟨x,H1,I1,r1,q1⟩=>?_) (he _);obtain ⟨d,rfl,q⟩:=q1;cases r1;exact wpAny_truthy_bool ⟨H1,I1,q⟩
variable {tA tB':TT} {rest:List Expr}
noncomputable def tAnd (t u:TT):TT:=fun σ H Q=>t σ H fun c H1=>if c=true then u σ H1 Q else Q false H1
noncomputable def tOr (t u:TT):TT:=fun σ H Q=>t σ H fun c H1=>if c=true then Q true H1 else u σ H1 Q
noncomputable def tNot (t:TT):TT:=fun σ H Q=>t σ H fun c H1=>Q (!c) H1
theorem qg (ha:PT X a tA):PW X (.BoolOp .And [a] pos) tA:=by
 intro wh pins s σ H Q I h;refine isTrue_and (thn (ha pins s σ H Q I h) fun c s1 e=>?_);cases c with
 | true=>exact isTrue_and_nil e
 | false=>exact e
theorem j9 (ha:PT X a tA):PW X (.BoolOp .Or [a] pos) tA:=by
 intro wh pins s σ H Q I h;refine isTrue_or (thn (ha pins s σ H Q I h) fun c s1 e=>?_);cases c with
 | false=>exact isTrue_or_nil e
 | true=>exact e
theorem sS (ha:PT X a tA) (hb:PW X (.BoolOp .And (b::rest) pos) tB'):PW X (.BoolOp .And (a::b::rest) pos) (tAnd tA tB'):=by
 intro wh pins s σ H Q I h;refine isTrue_and (thn (ha pins s σ H _ I h) fun c s1 ⟨H1,I1,q1⟩=>?_);cases c with
 | true=>exact hb wh pins s1 σ H1 Q I1 q1
 | false=>exact ⟨H1,I1,q1⟩
theorem me (ha:PT X a tA) (hb:PW X (.BoolOp .Or (b::rest) pos) tB'):PW X (.BoolOp .Or (a::b::rest) pos) (tOr tA tB'):=by
 intro wh pins s σ H Q I h;refine isTrue_or (thn (ha pins s σ H _ I h) fun c s1 ⟨H1,I1,q1⟩=>?_);cases c with
 | true=>exact ⟨H1,I1,q1⟩
 | false=>exact hb wh pins s1 σ H1 Q I1 q1
theorem pe (ha:PT X a tA):PT X (.UnaryOp .Not a pos) (tNot tA):=by
 intro pins s σ H Q I h;exact isTrue_not (ha pins s σ H (fun c H1=>Q (!c) H1) I h)
noncomputable def tIf (t:TT) (ta tb:TE):TE:=fun σ H Q=>t σ H fun c H1=>if c=true then ta σ H1 Q else tb σ H1 Q
theorem kP {c:Expr} (hc:PT X c tA) (ha:PE X a ta) (hb:PE X b tb):PE X (.IfExp c a b pos) (tIf tA ta tb):=by
 intro pins s σ H Q I h;refine wpAny_IfExp (thn (hc pins s σ H _ I h) fun d s1 ⟨H1,I1,q1⟩=>?_);cases d with
 | true=>exact ha pins s1 σ H1 Q I1 q1
 | false=>exact hb pins s1 σ H1 Q I1 q1
end
def SqL (K:Frag) (H:Hp) (a:Addr) (xs:List V):Prop:=
 Rd H a (.lst xs) \/
  ∃ (o:Obj) (its:Array Value) (n:Nat),K.lookup a=some o/\o.cls=.type "list" /\ o.dict=none/\o.data=.seq its n/\its.size<=sizeLine/\Vals xs its.toList
def SqT (K:Frag) (H:Hp) (a:Addr) (xs:List V):Prop:=
 Rd H a (.tup xs) \/
  ∃ (o:Obj) (its:Array Value) (n:Nat),K.lookup a=some o/\o.cls=.type "tuple" /\ o.data=.seq its n/\its.size<=sizeLine/\Vals xs its.toList
noncomputable def absV:Value->Option V
 | .none=>some .non
 | .bool b=>some (.bl b)
 | .int i _=>some (.int i)
 | .str x _=>some (.str x)
 | .bytes b _=>some (.byt b)
 | .float b _=>some (.flt b)
 | .ref a=>some (.ref a)
 | .type n=>some (.ty n)
 | _=>none
theorem RelV.abs {x:V} {u:Value} (r:RelV x u):absV u=some x:=by
 cases x with
 | non=>cases r; rfl
 | bl _=>cases r; rfl
 | int _=>obtain ⟨t,rfl⟩:=r; rfl
 | str _=>obtain ⟨t,rfl⟩:=r; rfl
 | byt _=>obtain ⟨t,rfl⟩:=r; rfl
 | flt _=>obtain ⟨t,rfl⟩:=r; rfl
 | ref _=>cases r; rfl
 | ty _=>cases r; rfl
theorem RelV.inj {x y:V} {u:Value} (r:RelV x u) (q:RelV y u):x=y:=Option.some.inj (r.abs.symm.trans q.abs)
theorem Vals.inj:∀ {xs ys:List V} {us:List Value},Vals xs us->Vals ys us->xs=ys
 | _,_,_,.nil,.nil=>rfl
 | _,_,_,.cons r t,.cons r' t'=>by rw [r.inj r',Vals.inj t t']
section
variable {X:Cx} {pins:List (Addr × Obj)} {σ:St} {H:Hp} {s:Shared} {a:Addr} {xs ys:List V}
theorem SqL.of {K:Frag} (h:H a=some (.lst xs)):SqL K H a xs:=.inl (.inl h)
theorem SqT.of {K:Frag} (h:H a=some (.tup xs)):SqT K H a xs:=.inl (.inl h)
theorem Inv.list (I:Inv X pins σ H s) (h:SqL X.K H a xs):∃ its:List Value,Vals xs its/\PlainL s.heap a its.toArray/\xs.length<=sizeLine:=by
 rcases h with h | ⟨o,its,n,hk,hc,hd,hs,hz,r⟩
 ·obtain ⟨z,its,n,r,e⟩:=h.ok I.hok;exact ⟨its,r,⟨_,n,e,rfl,rfl,rfl⟩,z⟩
 ·refine ⟨its.toList,r,⟨o,n,I.kIn a o hk,hc,hd,by simpa using hs⟩,?_⟩;have e:=r.length;simp only [Array.length_toList] at e;omega
theorem Inv.tuple (I:Inv X pins σ H s) (h:SqT X.K H a xs):∃ its:List Value,Vals xs its/\IsTup s.heap a its.toArray/\xs.length<=sizeLine:=by
 rcases h with h | ⟨o,its,n,hk,hc,hs,hz,r⟩
 ·obtain ⟨z,its,r,p⟩:=h.ok I.hok;exact ⟨its,r,p,z⟩
 ·refine ⟨its.toList,r,⟨o,I.kIn a o hk,hc,n,by simpa using hs⟩,?_⟩;have e:=r.length;simp only [Array.length_toList] at e;omega
theorem Inv.list_inj (I:Inv X pins σ H s) (h:SqL X.K H a xs) (h':SqL X.K H a ys):xs=ys:=by
 obtain ⟨its,r,⟨o,n,e,_,_,d⟩,_⟩:=I.list h;obtain ⟨its',r',⟨o',n',e',_,_,d'⟩,_⟩:=I.list h';rw [e] at e'; cases e';rw [d] at d';injection d' with d1 _
 have:its=its':=by simpa using congrArg Array.toList d1
 subst this;exact r.inj r'
theorem Inv.tuple_inj (I:Inv X pins σ H s) (h:SqT X.K H a xs) (h':SqT X.K H a ys):xs=ys:=by
 obtain ⟨its,r,⟨o,e,_,n,d⟩,_⟩:=I.tuple h;obtain ⟨its',r',⟨o',e',_,n',d'⟩,_⟩:=I.tuple h';rw [e] at e'; cases e';rw [d] at d';injection d' with d1 _
 have:its=its':=by simpa using congrArg Array.toList d1
 subst this;exact r.inj r'
end
noncomputable abbrev Cx.wish (X:Cx) (E:Value->Shared->Prop):Cx:={ X with xe:=E }
noncomputable abbrev Cx.nox (X:Cx):Cx:=X.wish fun _ _=>False
theorem Cx.Ok.wish {X:Cx} (ok:X.Ok) (E:Value->Shared->Prop):(X.wish E).Ok:=
 ⟨ok.mod,ok.kind,ok.glob,ok.blt,ok.above,ok.inj,ok.has,ok.cab,ok.hd,ok.frames,ok.stk,ok.exf,ok.bs,ok.bsz,ok.noex,ok.exfs,ok.funs,ok.frf⟩
theorem Cx.Ok.unwish {X:Cx} {E:Value->Shared->Prop} (ok:(X.wish E).Ok):X.Ok:=
 ⟨ok.mod,ok.kind,ok.glob,ok.blt,ok.above,ok.inj,ok.has,ok.cab,ok.hd,ok.frames,ok.stk,ok.exf,ok.bs,ok.bsz,ok.noex,ok.exfs,ok.funs,ok.frf⟩
section
variable {X:Cx} {pins:List (Addr × Obj)} {σ:St} {H:Hp} {s:Shared} {E:Value->Shared->Prop}
theorem Inv.wish (I:Inv X pins σ H s) (E:Value->Shared->Prop):Inv (X.wish E) pins σ H s:=⟨I.ok.wish E,I.os,I.bare,I.base,I.loc,I.cell,I.free,I.freeC,I.pin,I.hok,I.len,I.tk⟩
theorem Inv.unwish (I:Inv (X.wish E) pins σ H s):Inv X pins σ H s:=⟨I.ok.unwish,I.os,I.bare,I.base,I.loc,I.cell,I.free,I.freeC,I.pin,I.hok,I.len,I.tk⟩
theorem SP.unwish {D:Ends} {f:Flow} {s':Shared} (h:SP (X.wish E) pins D f s'):SP X pins D f s':=by
 cases f with
 | next=>obtain ⟨σ',H',I,q⟩:=h; exact ⟨σ',H',I.unwish,q⟩
 | brk=>obtain ⟨σ',H',I,q⟩:=h; exact ⟨σ',H',I.unwish,q⟩
 | cont=>obtain ⟨σ',H',I,q⟩:=h; exact ⟨σ',H',I.unwish,q⟩
 | ret u=>obtain ⟨v,σ',H',I,r,q⟩:=h; exact ⟨v,σ',H',I.unwish,r,q⟩
theorem PE.nox {e:Expr} {t:TE} (h:PE X.nox e t):PE X e t:=fun pins s σ H Q I hw=>
 wpAny_mono (h pins s σ H Q (I.wish _) hw) (fun _ _ ⟨v,H',I',r,q⟩=>⟨v,H',I'.unwish,r,q⟩) fun _ _ z=>False.elim z
theorem PT.nox {e:Expr} {t:TT} (h:PT X.nox e t):PT X e t:=fun pins s σ H Q I hw=>
 wpAny_mono (h pins s σ H Q (I.wish _) hw) (fun _ _ ⟨H',I',q⟩=>⟨H',I'.unwish,q⟩) fun _ _ z=>False.elim z
theorem PSs.nox {st:List Stmt} {t:TS} (h:PSs X.nox st t):PSs X st t:=fun pins s σ H D I hw=>
 wpAny_mono (h pins s σ H D (I.wish _) hw) (fun _ _ q=>q.unwish) fun _ _ z=>False.elim z
end
section
variable {X:Cx} {st:Stmt} {rest:List Stmt} {t u:TS} {e:Expr} {te:TE} {pos:Pos}
noncomputable def tNext:TS:=fun D σ H=>D.nx σ H
noncomputable def tSeq (t u:TS):TS:=fun D σ H=>t { D with nx:=u D } σ H
theorem aZ:PSs X [] tNext:=fun _ _ σ H _ I h=>wpAny_execs_nil ⟨σ,H,I,h⟩
theorem af (h1:PS X st t) (h2:PSs X rest u):PSs X (st::rest) (tSeq t u):=by
 intro pins s σ H D I h;refine wpAny_execs_cons (thn (h1 pins s σ H { D with nx:=u D } I h) fun f s1 q=>?_);cases f with
 | next=>
  obtain ⟨σ',H',I',q⟩:=q;exact h2 pins s1 σ' H' D I' q
 | ret v=>exact q
 | brk=>exact q
 | cont=>exact q
theorem ak (h1:PS X st t):PSs X [st] t:=by
 intro pins s σ H D I h;refine wpAny_execs_cons (thn (h1 pins s σ H D I h) fun f s1 q=>?_);cases f with
 | next=>exact wpAny_execs_nil q
 | ret v=>exact q
 | brk=>exact q
 | cont=>exact q
theorem Inv.quiet {pins:List (Addr × Obj)} {σ:St} {H:Hp} {s:Shared} (I:Inv X pins σ H s):interactive X.env=false:=by simp [interactive,I.ok.kind]
noncomputable def tDrop (te:TE):TS:=fun D σ H=>te σ H fun _ H1=>D.nx σ H1
theorem aO (he:PE X e te) (hs:swapsWith e none pos.line X.env=pure false:=by rfl):PS X (.Expr e pos) (tDrop te):=by
 intro pins s σ H D I h;exact wpAny_Expr_any (thn (he pins s σ H _ I h) fun v s1 ⟨x,H1,I1,r1,q1⟩=>⟨σ,H1,I1,q1⟩) I.quiet hs
noncomputable def tRet (te:TE):TS:=fun D σ H=>te σ H D.rt
theorem aF (he:PE X e te):PS X (.Return (some e) pos) (tRet te):=by
 intro pins s σ H D I h;exact wpAny_Return_some (thn (he pins s σ H _ I h) fun v s1 ⟨x,H1,I1,r1,q1⟩=>⟨x,σ,H1,I1,r1,q1⟩)
noncomputable def tIfS (c:TT) (t u:TS):TS:=fun D σ H=>c σ H fun b H1=>if b=true then t D σ H1 else u D σ H1
theorem b9 {c:Expr} {a b:List Stmt} {tc:TT} (hc:PT X c tc) (ha:PSs X a t) (hb:PSs X b u):PS X (.If c a b pos) (tIfS tc t u):=by
 intro pins s σ H D I h;refine wpAny_If (thn (hc pins s σ H _ I h) fun d s1 ⟨H1,I1,q1⟩=>?_);cases d with
 | true=>exact ha pins s1 σ H1 D I1 q1
 | false=>exact hb pins s1 σ H1 D I1 q1
end
noncomputable abbrev TG:=V->St->Hp->(St->Hp->Prop)->Prop
noncomputable abbrev TGs:=List V->St->Hp->(St->Hp->Prop)->Prop
def PG (X:Cx) (target:Expr) (t:TG):Prop:=
 ∀ (pins:List (Addr × Obj)) (s:Shared) (σ:St) (H:Hp) (v:V) (u:Value) (Q:St->Hp->Prop),Inv X pins σ H s->RelV v u->t v σ H Q ->
  wpAny (model X.prog X.w) X.A (assign target X.env u) (fun _ s'=>∃ σ' H',Inv X pins σ' H' s'/\Q σ' H') X.xe s
def PGs (X:Cx) (ts:List Expr) (t:TGs):Prop:=
 ∀ (pins:List (Addr × Obj)) (s:Shared) (σ:St) (H:Hp) (vs:List V) (us:List Value) (Q:St->Hp->Prop),Inv X pins σ H s->Vals vs us->t vs σ H Q ->
  wpAny (model X.prog X.w) X.A (assignInOrder ((assignEach ts X.env).map (·.2)) us) (fun _ s'=>∃ σ' H',Inv X pins σ' H' s'/\Q σ' H') X.xe s
section
variable {X:Cx} {pos:Pos}
noncomputable def gName (i:Nat):TG:=fun v σ H Q=>Q (σ.set i (some v)) H
theorem ao {i:Nat} {x:Str} (hN:X.N.Nodup) (hi:X.N[i]? = some x) (hx:Loc X.env.scope x) (hf:X.fn x=true\/X.env.scope.names.lookup x=some .local:=by first | exact .inl rfl | exact .inr rfl | assumption):PG X (.Name x pos) (gName i):=by
 intro pins s σ H v u Q I r h;exact wpAny_assign_Name (iU I hN hi hx r (fun s' I'=>⟨_,H,I',h⟩) hf)
noncomputable def gNil:TGs:=fun vs σ H Q=>vs=[]/\Q σ H
noncomputable def gCons (t:TG) (u:TGs):TGs:=fun vs σ H Q=>∃ v r,vs=v::r/\t v σ H fun σ' H'=>u r σ' H' Q
theorem bM:PGs X [] gNil:=by
 intro pins s σ H vs us Q I r h;obtain ⟨e,h⟩:=h;subst e;cases r;exact assignInOrder_nil ⟨σ,H,I,h⟩
theorem az {e:Expr} {es:List Expr} {t:TG} {u:TGs} (h1:PG X e t) (h2:PGs X es u)
  (hs:(assignEach (e::es) X.env).map (·.2)=assign e X.env::(assignEach es X.env).map (·.2):=by rfl):PGs X (e::es) (gCons t u):=by
 intro pins s σ H vs us Q I r h;obtain ⟨v,vr,e1,h⟩:=h;subst e1;cases r with
 | cons r rr=>
  rw [hs];refine assignInOrder_cons (thn (h1 pins s σ H _ _ _ I r h) fun _ s1 ⟨σ1,H1,I1,q1⟩=>?_);exact h2 pins s1 σ1 H1 _ _ Q I1 rr q1
noncomputable def gTup (K:Frag) (n:Nat) (t:TGs):TG:=fun v σ H Q=>∃ a xs,v=.ref a/\SqT K H a xs/\xs.length=n/\t xs σ H Q
theorem oY {es:List Expr} {k:Nat} {t:TGs} {n:Nat} (hc:X.calm=true) (h:PGs X es t)
  (hn:(assignEach es X.env).length=n:=by rfl) (hst:(assignEach es X.env).findIdx? (·.1)=none:=by rfl):PG X (.Tuple es k pos) (gTup X.K n t):=by
 intro pins s σ H v u Q I r hw;obtain ⟨a,xs,e1,hq,hl,hw⟩:=hw;subst e1;cases r;obtain ⟨its,rv,ht,hz⟩:=I.tuple hq;refine assign_Tuple_tuple (I.ok.hd hc) ht (by simp [hn,<- hl,rv.length]) hst fun h' hx=>?_
 have I1:Inv X pins σ H { s with heap:=h' }:=I.kept (t':=s.toks) fun b o e=>hx b o (Nat.ne_of_lt (Heap.lt_size e)) e
 exact h pins _ σ H xs _ Q I1 (by simpa using rv) hw
noncomputable def tAsg (te:TE) (g:TG):TS:=fun D σ H=>te σ H fun x H1=>g x σ H1 D.nx
theorem j8 {tg e:Expr} {te:TE} {g:TG} (he:PE X e te) (hg:PG X tg g) (hs:swapsWithSole [tg] e pos.line X.env=pure false:=by rfl) (hw:swappedStores [tg] e X.env=pure none:=by rfl)
  (h1:(assignEach [tg] X.env).map (·.2)=[assign tg X.env]:=by rfl):PS X (.Assign [tg] e pos) (tAsg te g):=by
 intro pins s σ H D I h;refine wpAny_Assign_stores (thn (he pins s σ H _ I h) fun v s1 ⟨x,H1,I1,r1,q1⟩=>?_) hs hw;rw [h1];exact thn (hg pins s1 σ H1 x v _ I1 r1 q1) fun _ s2 q=>q
theorem ar {i:Nat} {x:Str} {e:Expr} {te:TE} {pos':Pos} (hN:X.N.Nodup) (hi:X.N[i]? = some x) (hx:Loc X.env.scope x) (he:PE X e te) (hs:swapsWith e (some (.Name x pos')) pos.line X.env=pure false:=by rfl) (hf:X.fn x=true\/X.env.scope.names.lookup x=some .local:=by first | exact .inl rfl | exact .inr rfl | assumption):
  PS X (.Assign [.Name x pos'] e pos) (tAsg te (gName i)):=by
 intro pins s σ H D I h;refine wpAny_Assign_Name (thn (he pins s σ H _ I h) fun v s1 ⟨y,H1,I1,r1,q1⟩=>?_) hs;exact iU I1 hN hi hx r1 (fun s2 I2=>⟨_,H1,I2,q1⟩) hf
end
section
variable {X:Cx} {pos:Pos}
end
structure It where
 go:Nat->Hp->Prop
 yld:Nat->Hp->V->Hp->Prop
 stop:Nat->Hp->Prop
def FpOk (X:Cx) (pins:List (Addr × Obj)) (H:Hp) (b:Addr):Prop:=
 H b=none/\b≠X.env.locals/\b ∉ X.fs/\(b ∈ X.ex\/X.s₀.heap.objs.size<=b)/\(∀ x c,X.env.cells.lookup x=some c->c≠b)/\∀ p ∈ X.pn++pins,p.1≠b
theorem Inv.fpOk {X:Cx} {pins:List (Addr × Obj)} {σ:St} {H H':Hp} {s:Shared} {b:Addr} (I:Inv X pins σ H s) (hb:s.heap.objs.size<=b) (hn:H' b=none):FpOk X pins H' b:=by
 refine ⟨hn,Nat.ne_of_gt (Nat.lt_of_lt_of_le I.lt hb),I.nofs hb,.inr (Nat.le_trans I.sz hb),fun x c e z=>?_,fun p hp z=>?_⟩
 ·obtain ⟨v,q⟩:=I.cell x c e;exact absurd (Nat.lt_of_lt_of_le q.lt (by rw [z]; exact hb)) (Nat.lt_irrefl _)
 ·exact absurd (Nat.lt_of_lt_of_le (Heap.lt_size (I.pin p hp).1) (by rw [z]; exact hb)) (Nat.lt_irrefl _)
structure Turn (P:Program) (w:World) (K:Frag) (tg:Expr) (J:It) (fp:List Addr) (it:Addr) (tn:Nat->Heap->Prop):Prop where
 mem:it ∈ fp
 obj:∀ i h,tn i h->∀ b ∈ fp,∃ o,h.get? b=some o/\∀ v,o.data≠.cell v
 keep:∀ i h h',tn i h->(∀ b ∈ fp,∀ o,h.get? b=some o->h'.get? b=some o)->tn i h'
 item:∀ (X:Cx),X.prog=P->X.w=w->X.K=K->X.calm=true->∀ (i:Nat) (pins:List (Addr × Obj)) (s:Shared) (σ:St) (H:Hp) (E:Value->Shared->Prop),Inv X pins σ H s->(∀ b ∈ fp,FpOk X pins H b)->tn i s.heap->J.go i H ->
  wpAny (model P w) X.A (pyNext (.ref it)) (fun r s1=>∃ u,r=some u /\
   wpAny (model P w) X.A (letOwnedTupleGo tg (.ref it) u) (fun _ s2=>∃ x H',Inv X pins σ H' s2/\RelV x u/\J.yld i H x H'/\tn (i+1) s2.heap/\∀ b ∈ fp,H' b=none) E s1) E s
 done:∀ (X:Cx),X.prog=P->X.w=w->X.K=K->X.calm=true->∀ (i:Nat) (pins:List (Addr × Obj)) (s:Shared) (σ:St) (H:Hp) (E:Value->Shared->Prop),Inv X pins σ H s->(∀ b ∈ fp,FpOk X pins H b)->tn i s.heap->J.stop i H ->
  wpAny (model P w) X.A (pyNext (.ref it)) (fun r s1=>r=none/\Inv X pins σ H s1) E s
 self:∀ (A:Around) (i:Nat) (s:Shared) (Q:Value->Shared->Prop) (E:Value->Shared->Prop),tn i s.heap->Q (.ref it) s->wpAny (model P w) A (pyIter (.ref it)) Q E s
noncomputable abbrev TI:=St->Hp->(It->Hp->Prop)->Prop
def PIE (X:Cx) (pins:List (Addr × Obj)) (σ:St) (tg:Expr) (R:It->Hp->Prop) (itv:Value) (s2:Shared):Prop:=
 ∃ (it:Addr) (fp:List Addr) (tn:Nat->Heap->Prop) (J:It) (H':Hp),itv=.ref it/\Inv X pins σ H' s2/\Turn X.prog X.w X.K tg J fp it tn/\tn 0 s2.heap/\(∀ b ∈ fp,FpOk X pins H' b)/\R J H'
def PI (X:Cx) (tg iter:Expr) (wi:TI):Prop:=
 ∀ (pins:List (Addr × Obj)) (s:Shared) (σ:St) (H:Hp) (R:It->Hp->Prop),Inv X pins σ H s->wi σ H R ->
  wpAny (model X.prog X.w) X.A (eval iter X.env) (fun v s1=>wpAny (model X.prog X.w) X.A (pyIter v) (PIE X pins σ tg R) X.xe s1) X.xe s
theorem md {M:Model} {A:Around} {E:Value->Shared->Prop} {s:Shared} {tg:Expr} {it:Addr} {u:Value} {o:Obj} {n:String} {vs:Array Value} {Q:Unit->Shared->Prop} (ho:s.heap.get? it=some o) (hc:o.cls=.type n) (hd:o.data=.fields vs)
  (hn:["enumerate", "zip", "dict_itemiterator", "dict_reverseitemiterator", "odict_iterator", "itertools.zip_longest", "itertools.pairwise"].contains n=false) (hQ:Q () s):wpAny M A (letOwnedTupleGo tg (.ref it) u) Q E s:=by
 unfold letOwnedTupleGo;cases tg <;> first
  | exact wpAny_pure hQ
  | (cases u <;> first
    | exact wpAny_pure hQ
    | (refine wpAny_bind (wpAny_load ho ?_); rw [hc,hd]; show wpAny M A (if (["enumerate", "zip", "dict_itemiterator", "dict_reverseitemiterator", "odict_iterator", "itertools.zip_longest", "itertools.pairwise"].contains n && vs[0]? == some (rawInt _))=true then _ else _) Q E s; rw [if_neg (by intro h; rw [hn,Bool.false_and] at h; cases h)]; exact wpAny_pure hQ))
noncomputable def Itl (K:Frag) (a:Addr):It:=
 ⟨fun i H=>∃ xs x,SqL K H a xs/\xs[i]? = some x,fun i H x H'=>H'=H/\∀ xs,SqL K H a xs->xs[i]? = some x,fun i H=>∃ xs,SqL K H a xs/\xs.length<=i⟩
noncomputable def Itt (K:Frag) (a:Addr):It:=
 ⟨fun i H=>∃ xs x,SqT K H a xs/\xs[i]? = some x,fun i H x H'=>H'=H/\∀ xs,SqT K H a xs->xs[i]? = some x,fun i H=>∃ xs,SqT K H a xs/\xs.length<=i⟩
noncomputable def Itr (lo:Int) (n:Nat):It:=⟨fun i _=>i < n,fun i H x H'=>H'=H/\x=.int (lo+i),fun i _=>n<=i⟩
theorem mC {P:Program} {w:World} {K:Frag} {tg:Expr} (a it:Addr):Turn P w K tg (Itl K a) [it] it (fun i h=>h.IsListIter it a i) where
 mem:=by simp
 obj:=fun i h st b hb=>by
  have e:b=it:=by simpa using hb
  subst e;obtain ⟨o,e,c,d⟩:=st;exact ⟨o,e,fun v z=>by rw [d] at z; cases z⟩
 keep:=fun i h h' st k=>st.at fun o e=>k it (by simp) o e
 item:=by
  intro X hP hw hK hc i pins s σ H E I hf st hg;subst hP hw hK;obtain ⟨xs,x,hq,hx⟩:=hg;obtain ⟨its,rv,p,hz⟩:=I.list hq;obtain ⟨u,hu,ru⟩:=rv.get hx;obtain ⟨f0,f1,f2,f3,f4,f5⟩:=hf it (by simp);refine wpAny_pyNext_list_item st p.isList (x:=u) (by simpa using hu) fun h' st' sb=>?_
  have I1:Inv X pins σ H { s with heap:=h' }:=I.turned (t':=s.toks) (fun b o hb e=>(sb.2 b hb).trans e) f0 f1 f3 f4 f5;obtain ⟨o,e,c,d⟩:=id st';exact ⟨u,rfl,md (s:={ s with heap:=h' }) e c d (by decide) ⟨x,H,I1,ru,⟨rfl,fun ys hy=>by rw [I.list_inj hy hq]; exact hx⟩,st',fun b hb=>(hf b hb).1⟩⟩
 done:=by
  intro X hP hw hK hc i pins s σ H E I hf st hg;subst hP hw hK;obtain ⟨xs,hq,hx⟩:=hg;obtain ⟨its,rv,p,hz⟩:=I.list hq;obtain ⟨f0,f1,f2,f3,f4,f5⟩:=hf it (by simp);have hl:=rv.length;exact wpAny_pyNext_list_end (I.ok.hd hc) st p.isList (by simp; omega) fun h' eb=>⟨rfl,I.turned (t':=s.toks) (fun b o hb e=>eb b o hb e) f0 f1 f3 f4 f5⟩
 self:=fun _ _ _ _ _ st h=>wpAny_pyIter_listiter st h
theorem ln {P:Program} {w:World} {K:Frag} {tg:Expr} (a it:Addr):Turn P w K tg (Itt K a) [it] it (fun i h=>h.IsTupleIter it a i) where
 mem:=by simp
 obj:=fun i h st b hb=>by
  have e:b=it:=by simpa using hb
  subst e;obtain ⟨o,e,c,d⟩:=st;exact ⟨o,e,fun v z=>by rw [d] at z; cases z⟩
 keep:=fun i h h' st k=>st.at fun o e=>k it (by simp) o e
 item:=by
  intro X hP hw hK hc i pins s σ H E I hf st hg;subst hP hw hK;obtain ⟨xs,x,hq,hx⟩:=hg;obtain ⟨its,rv,p,hz⟩:=I.tuple hq;obtain ⟨u,hu,ru⟩:=rv.get hx;obtain ⟨f0,f1,f2,f3,f4,f5⟩:=hf it (by simp);refine wpAny_pyNext_tuple_item st (show s.heap.IsTuple a its.toArray from p) (x:=u) (by simpa using hu) fun h' st' sb=>?_
  have I1:Inv X pins σ H { s with heap:=h' }:=I.turned (t':=s.toks) (fun b o hb e=>(sb.2 b hb).trans e) f0 f1 f3 f4 f5;obtain ⟨o,e,c,d⟩:=id st';exact ⟨u,rfl,md (s:={ s with heap:=h' }) e c d (by decide) ⟨x,H,I1,ru,⟨rfl,fun ys hy=>by rw [I.tuple_inj hy hq]; exact hx⟩,st',fun b hb=>(hf b hb).1⟩⟩
 done:=by
  intro X hP hw hK hc i pins s σ H E I hf st hg;subst hP hw hK;obtain ⟨xs,hq,hx⟩:=hg;obtain ⟨its,rv,p,hz⟩:=I.tuple hq;obtain ⟨f0,f1,f2,f3,f4,f5⟩:=hf it (by simp);have hl:=rv.length;exact wpAny_pyNext_tuple_end (I.ok.hd hc) st (show s.heap.IsTuple a its.toArray from p) (by simp; omega) fun h' eb=>⟨rfl,I.turned (t':=s.toks) (fun b o hb e=>eb b o hb e) f0 f1 f3 f4 f5⟩
 self:=fun _ _ _ _ _ st h=>wpAny_pyIter_tupleiter st h
theorem lM {P:Program} {w:World} {K:Frag} {tg:Expr} (it:Addr) (lo:Int) (n:Nat):Turn P w K tg (Itr lo n) [it] it (fun i h=>IsRangeIter h it (lo+(i:Nat)*1) ((n:Int) - (i:Nat)) 1) where
 mem:=by simp
 obj:=fun i h st b hb=>by
  have e:b=it:=by simpa using hb
  subst e;exact ⟨_,st,fun v z=>by
   have z':Data.fields _=Data.cell v:=z;cases z'⟩
 keep:=fun i h h' st k=>k it (by simp) _ st
 item:=by
  intro X hP hw hK hc i pins s σ H E I hf st hg;subst hP hw hK;obtain ⟨f0,f1,f2,f3,f4,f5⟩:=hf it (by simp);have W:=Walks.range (prog:=X.prog) (w:=X.w) (I.ok.hd hc) it lo 1 n;refine tokQ I.tk (W.item i s _ _ hg st fun v h' tk hv st' kk (htk:0 < tk)=>?_);obtain ⟨t,rfl⟩:=hv;have I1:Inv X pins σ H { s with heap:=h',toks:=tk }:=I.turned (fun b o hb e=>kk b o (by simpa using hb) e) f0 f1 f3 f4 f5;refine ⟨_,rfl,md (s:={ s with heap:=h',toks:=tk }) (n := "range_iterator") st' rfl rfl (by decide) ⟨.int (lo+i),H,I1,⟨t,?_⟩,⟨rfl,rfl⟩,st',fun b hb=>(hf b hb).1⟩⟩;rw [Int.mul_one]
 done:=by
  intro X hP hw hK hc i pins s σ H E I hf st hg;subst hP hw hK;obtain ⟨f0,f1,f2,f3,f4,f5⟩:=hf it (by simp);exact wpAny_pyNext_range_end (I.ok.hd hc) st (by have:n<=i:=hg; omega) fun h' eb=>⟨rfl,I.turned (t':=s.toks) (fun b o hb e=>eb b o hb e) f0 f1 f3 f4 f5⟩
 self:=fun _ _ _ _ _ st h=>wpAny_pyIter_rangeiter st h
section
variable {X:Cx} {tg:Expr}
theorem nQ {pins:List (Addr × Obj)} {σ:St} {H:Hp} {s:Shared} {R:It->Hp->Prop} {E:Value->Shared->Prop} {lo hi:Int} {t u v:Tok} {tk:Nat} (I:Inv X pins σ H s) (h1:-(2 ^ 62)<=lo) (h2:lo < 2 ^ 62) (h3:-(2 ^ 62)<=hi) (h4:hi < 2 ^ 62)
  (q:R (Itr lo (hi - lo).toNat) H) (htk:0 < tk:=by first | assumption | exact Nat.succ_pos _ | (apply Inv.tk; assumption) | omega):wpAny (model X.prog X.w) X.A (pyIter (.ref s.heap.objs.size)) (PIE X pins σ tg R) E { s with heap:=s.heap.push { cls:=.type "range",data:=.fields #[.int lo t,.int hi u,.int 1 v] },toks:=tk }:=by
 refine wpAny_pyIter_range (IsRange.new ..) (small_one h1 h2 h3 h4) ?_;have I1:Inv X pins σ H { s with heap:=s.heap.push { cls:=.type "range",data:=.fields #[.int lo t,.int hi u,.int 1 v] },toks:=tk }:=I.kept fun b o e=>Heap.get?_push_of_some _ e
 refine ⟨(s.heap.push { cls:=.type "range",data:=.fields #[.int lo t,.int hi u,.int 1 v] }).objs.size,[(s.heap.push { cls:=.type "range",data:=.fields #[.int lo t,.int hi u,.int 1 v] }).objs.size],_,_,H,rfl,
  I1.kept (t':=tk) fun b o e=>Heap.get?_push_of_some _ e,lM _ lo (hi - lo).toNat,?_,fun b hb=>?_,q⟩
 ·have e1:lo+((0:Nat):Int)*1=lo:=by simp
  have e2:(((hi - lo).toNat:Nat):Int) - ((0:Nat):Int)=Builtin.Range.rangeSize lo hi 1:=by rw [rangeSize_one]; split <;> omega
  show IsRangeIter _ _ (lo+((0:Nat):Int)*1) ((((hi - lo).toNat:Nat):Int) - ((0:Nat):Int)) 1;rw [e1,e2];exact Heap.get?_push_size _ rfl
 ·have e:b=(s.heap.push { cls:=.type "range",data:=.fields #[.int lo t,.int hi u,.int 1 v] }).objs.size:=by simpa using hb
  subst e;exact I1.fpOk (Nat.le_refl _) (I1.hok.fresh (Nat.le_refl _))
noncomputable def iRng1 (ta:TA):TI:=fun σ H R=>ta σ H fun vs H1=>∃ j:Int,vs=[.int j] /\ -(2 ^ 62)<=j/\j < 2 ^ 62/\R (Itr 0 j.toNat) H1
theorem nk {a:Expr} {ta:TA} {p pos:Pos} (hg:Gl X "range") (hm:X.mg "range" = none) (ha:PA X [a] ta) (hs:starEach [a] X.env=[(false,eval a X.env)]:=by rfl):PI X tg (.Call (.Name "range" p) [a] [] pos) (iRng1 ta):=by
 intro pins s σ H R I h;refine Call_ (fW I hg hm boot_range (PyProof.Rows.callWith_type1 (thn (ha pos pins s σ H _ I h) fun us s1 ⟨vs,H1,I1,r1,q1⟩=>?_) hs rfl));obtain ⟨j,e,q1,q2,q⟩:=q1;subst e;cases r1 with
 | cons r rr=>
  cases rr;obtain ⟨t,rfl⟩:=r;exact call_range_1 (nQ I1 (by omega) (by omega) q1 q2 (by simpa using q))
noncomputable def tFor (wi:TI) (g:TG) (tb:TS):TS:=fun D σ H=>wi σ H fun J H1=>∃ W:Nat->Nat->St->Hp->Prop,(∃ m,W 0 m σ H1)/\∀ i m σ H,W i m σ H ->
 (J.stop i H/\D.nx σ H)\/(J.go i H/\∃ N:St->Hp->Prop,(∀ σ' H',N σ' H'->∃ m',m' < m/\W (i+1) m' σ' H')/\∀ x H',J.yld i H x H'->g x σ H' fun σ2 H2=>tb { D with nx:=N,ct:=N,bk:=D.nx } σ2 H2)
noncomputable def pinsAt (fp:List Addr) (h:Heap):List (Addr × Obj):=fp.filterMap fun b=>(h.get? b).map fun o=>(b,o)
theorem cC {fp:List Addr} {h:Heap} {b:Addr} {o:Obj} (hb:b ∈ fp) (e:h.get? b=some o):(b,o) ∈ pinsAt fp h:=List.mem_filterMap.mpr ⟨b,hb,by rw [e]; rfl⟩
theorem no {fp:List Addr} {h:Heap} {p:Addr × Obj} (hp:p ∈ pinsAt fp h):p.1 ∈ fp/\h.get? p.1=some p.2:=by
 obtain ⟨b,hb,e⟩:=List.mem_filterMap.mp hp;cases q:h.get? b with
 | none=>rw [q] at e; cases e
 | some o=>
  rw [q] at e;have e':(b,o)=p:=Option.some.inj e;subst e';exact ⟨hb,q⟩
theorem Inv.pinned {pins:List (Addr × Obj)} {σ:St} {H:Hp} {s:Shared} {fp:List Addr} (I:Inv X pins σ H s) (hf:∀ b ∈ fp,FpOk X pins H b) (ho:∀ b ∈ fp,∃ o,s.heap.get? b=some o/\∀ v,o.data≠.cell v):Inv X (pins++pinsAt fp s.heap) σ H s:=
 I.pins_of fun p hp=>(List.mem_append.mp hp).elim (fun z=>I.pin p (List.mem_append_right _ z)) fun z=>by
  obtain ⟨hb,e⟩:=no z;obtain ⟨f0,f1,f2,_⟩:=hf p.1 hb;obtain ⟨o,e',d⟩:=ho p.1 hb;rw [e] at e'; cases e';exact ⟨e,f0,f1,f2,d⟩
theorem Inv.unpinned {pins pl:List (Addr × Obj)} {σ:St} {H:Hp} {s:Shared} (I:Inv X (pins++pl) σ H s):Inv X pins σ H s:=I.pins_of fun p hp=>I.pin p (List.mem_append_right _ (List.mem_append_left _ hp))
theorem rC {iter:Expr} {body:List Stmt} {wi:TI} {g:TG} {tb:TS} {pos:Pos} (hp:PassesOwn (model X.prog X.w) X.A X.env X.xe) (hc:X.calm=true) (hi:PI X tg iter wi) (hg:PG X tg g) (hb:PSs X body tb)
  (hs:∀ x,foldedSetIterable iter X.env x=pure x:=by intro _; rfl):PS X (.For tg iter body [] pos) (tFor wi g tb):=by
 intro pins s σ H D I h;refine wpAny_For (thn (hi pins s σ H _ I h) fun v s1 h1=>thn h1 fun itv s2 h2=>?_) hs;obtain ⟨it,fp,tn,J,H2,e,I2,T,st2,f2,W,⟨m0,w0⟩,turn⟩:=h2;subst e;have stat:∀ {H':Hp},(∀ b ∈ fp,H' b=none)->∀ b ∈ fp,FpOk X pins H' b:=fun hn b hb=>⟨hn b hb,(f2 b hb).2⟩
 refine codeAny_forLoop_any (fun n s'=>∃ i σ' H',Inv X pins σ' H' s'/\tn i s'.heap/\(∀ b ∈ fp,H' b=none)/\W i n σ' H') ?_ m0 ⟨0,σ,H2,I2,st2,fun b hb=>(f2 b hb).1,w0⟩;rintro n s3 ⟨i,σ3,H3,I3,st3,fr3,w3⟩;rcases turn i n σ3 H3 w3 with ⟨stop,qn⟩ | ⟨go,N,hN,step⟩
 ·refine wpAny_passesOwn hp (thn (T.done X rfl rfl rfl hc i pins s3 σ3 H3 X.xe I3 (stat fr3) st3 stop) fun r s4 ⟨hr,I4⟩=>?_);subst hr;exact wpAny_execs_nil ⟨σ3,H3,I4,qn⟩
 ·refine wpAny_passesOwn hp (thn (T.item X rfl rfl rfl hc i pins s3 σ3 H3 X.xe I3 (stat fr3) st3 go) fun r s4 ⟨u,hr,h4⟩=>?_);subst hr;refine wpAny_passesOwn hp (thn h4 fun _ s5 ⟨x,H5,I5,r5,y5,st5,fr5⟩=>?_);have I5':=I5.pinned (stat fr5) (T.obj _ _ st5);refine wpAny_passesOwn hp (thn (hg _ s5 σ3 H5 x u _ I5' r5 (step x H5 y5)) fun _ s6 ⟨σ6,H6,I6,q6⟩=>?_);refine wpAny_passesOwn hp (thn (hb _ s6 σ6 H6 _ I6 q6) fun f s7 q7=>?_);have again:∀ {σ7:St} {H7:Hp},Inv X (pins++pinsAt fp s5.heap) σ7 H7 s7->N σ7 H7->∃ m,m < n/\∃ i σ' H',Inv X pins σ' H' s7/\tn i s7.heap/\(∀ b ∈ fp,H' b=none)/\W i m σ' H':=fun {σ7 H7} I7 n7=>by
   obtain ⟨m',hm,w7⟩:=hN σ7 H7 n7;refine ⟨m',hm,i+1,σ7,H7,I7.unpinned,T.keep _ _ _ st5 fun b hb o e=>(I7.pin (b,o) (List.mem_append_right _ (List.mem_append_right _ (cC hb e)))).1,fun b hb=>?_,w7⟩;obtain ⟨o,e,d⟩:=T.obj _ _ st5 b hb;exact (I7.pin (b,o) (List.mem_append_right _ (List.mem_append_right _ (cC hb e)))).2.1
  cases f with
  | next=>obtain ⟨σ7,H7,I7,n7⟩:=q7; exact again I7 n7
  | cont=>obtain ⟨σ7,H7,I7,n7⟩:=q7; exact again I7 n7
  | brk=>obtain ⟨σ7,H7,I7,q7⟩:=q7; exact ⟨σ7,H7,I7.unpinned,q7⟩
  | ret v=>obtain ⟨x7,σ7,H7,I7,r7,q7⟩:=q7; exact ⟨x7,σ7,H7,I7.unpinned,r7,q7⟩
end
theorem nG {K:Frag} {a:Addr} {xs:List V} {g:TG} {tb:TS} {D:Ends} {σ:St} {H:Hp} (Pv:Nat->St->Hp->Prop) (h0:Pv 0 σ H) (hl:∀ i σ H,i<=xs.length->Pv i σ H->SqL K H a xs)
  (hs:∀ i x σ H,xs[i]? = some x->Pv i σ H->g x σ H fun σ2 H2=>tb { D with nx:=Pv (i+1),ct:=Pv (i+1),bk:=D.nx } σ2 H2) (hd:∀ σ H,Pv xs.length σ H->D.nx σ H):
  ∃ W:Nat->Nat->St->Hp->Prop,(∃ m,W 0 m σ H)/\∀ i m σ H,W i m σ H ->
   ((Itl K a).stop i H/\D.nx σ H)\/((Itl K a).go i H/\∃ N:St->Hp->Prop,(∀ σ' H',N σ' H'->∃ m',m' < m/\W (i+1) m' σ' H')/\∀ x H',(Itl K a).yld i H x H'->g x σ H' fun σ2 H2=>tb { D with nx:=N,ct:=N,bk:=D.nx } σ2 H2):=by
 refine ⟨fun i m σ H=>m=xs.length - i/\i<=xs.length/\Pv i σ H,⟨xs.length,by simp,Nat.zero_le _,h0⟩,?_⟩;rintro i m σ H ⟨rfl,hi,p⟩;have q:=hl i σ H hi p;by_cases hlt:i < xs.length
 ·refine .inr ⟨⟨xs,xs[i],q,by simp [hlt]⟩,Pv (i+1),fun σ' H' p'=>⟨xs.length - (i+1),by omega,rfl,hlt,p'⟩,fun x H' y=>?_⟩;obtain ⟨e,y⟩:=y;subst e;exact hs i x σ _ (y xs q) p
 ·have e:i=xs.length:=by omega
  subst e;exact .inl ⟨⟨xs,q,Nat.le_refl _⟩,hd σ H p⟩
theorem mV {lo:Int} {n:Nat} {g:TG} {tb:TS} {D:Ends} {σ:St} {H:Hp} (Pv:Nat->St->Hp->Prop) (h0:Pv 0 σ H)
  (hs:∀ i σ H,i < n->Pv i σ H->g (.int (lo+i)) σ H fun σ2 H2=>tb { D with nx:=Pv (i+1),ct:=Pv (i+1),bk:=D.nx } σ2 H2) (hd:∀ σ H,Pv n σ H->D.nx σ H):
  ∃ W:Nat->Nat->St->Hp->Prop,(∃ m,W 0 m σ H)/\∀ i m σ H,W i m σ H ->
   ((Itr lo n).stop i H/\D.nx σ H)\/((Itr lo n).go i H/\∃ N:St->Hp->Prop,(∀ σ' H',N σ' H'->∃ m',m' < m/\W (i+1) m' σ' H')/\∀ x H',(Itr lo n).yld i H x H'->g x σ H' fun σ2 H2=>tb { D with nx:=N,ct:=N,bk:=D.nx } σ2 H2):=by
 refine ⟨fun i m σ H=>m=n - i/\i<=n/\Pv i σ H,⟨n,by simp,Nat.zero_le _,h0⟩,?_⟩;rintro i m σ H ⟨rfl,hi,p⟩;by_cases hlt:i < n
 ·refine .inr ⟨hlt,Pv (i+1),fun σ' H' p'=>⟨n - (i+1),by omega,rfl,hlt,p'⟩,fun x H' y=>?_⟩;obtain ⟨e,y⟩:=y;subst e y;exact hs i σ _ hlt p
 ·have e:i=n:=by omega
  subst e;exact .inl ⟨Nat.le_refl _,hd σ H p⟩
noncomputable abbrev R2:=V->V->Hp->VK->Prop
def OpR (X:Cx) (f:Value->Value->Sem Value) (r:R2):Prop:=
 ∀ (pins:List (Addr × Obj)) (s:Shared) (σ:St) (H:Hp) (x y:V) (v u:Value) (Q:VK),Inv X pins σ H s->RelV x v->RelV y u->r x y H Q ->
  wpAny (model X.prog X.w) X.A (f v u) (EP X pins σ Q) X.xe s
def UnR (X:Cx) (f:Value->Sem Value) (r:V->Hp->VK->Prop):Prop:=
 ∀ (pins:List (Addr × Obj)) (s:Shared) (σ:St) (H:Hp) (x:V) (v:Value) (Q:VK),Inv X pins σ H s->RelV x v->r x H Q ->
  wpAny (model X.prog X.w) X.A (f v) (EP X pins σ Q) X.xe s
def CallR (X:Cx) (f:Value) (r:List V->Hp->VK->Prop):Prop:=
 ∀ (pins:List (Addr × Obj)) (s:Shared) (σ:St) (H:Hp) (xs:List V) (us:List Value) (Q:VK),Inv X pins σ H s->Vals xs us->r xs H Q ->
  wpAny (model X.prog X.w) X.A (call f us) (EP X pins σ Q) X.xe s
noncomputable def tOp (r:R2) (ta tb:TE):TE:=fun σ H Q=>ta σ H fun x H1=>tb σ H1 fun y H2=>r x y H2 Q
noncomputable def tUn (r:V->Hp->VK->Prop) (ta:TE):TE:=fun σ H Q=>ta σ H fun x H1=>r x H1 Q
noncomputable def rI (C:Int->Int->Prop) (g:Int->Int->V):R2:=fun x y H Q=>∃ i j,x=.int i/\y=.int j/\C i j/\Q (g i j) H
noncomputable def rI0 (g:Int->Int->V):R2:=fun x y H Q=>∃ i j,x=.int i/\y=.int j/\Q (g i j) H
noncomputable def rU (g:Int->V):V->Hp->VK->Prop:=fun x H Q=>∃ i,x=.int i/\Q (g i) H
section
variable {X:Cx} {a b c:Expr} {ta tb tc:TE} {pos:Pos}
theorem binT (ha:PE X a ta) (hb:PE X b tb) {pins:List (Addr × Obj)} {s:Shared} {σ:St} {H:Hp} {R:V->V->Hp->Prop} (I:Inv X pins σ H s)
  (h:ta σ H fun x H1=>tb σ H1 fun y H2=>R x y H2) {Q:Value->Shared->Prop} {f:Value->Value->Sem Value}
  (hf:∀ v u s2 x y H2,Inv X pins σ H2 s2->RelV x v->RelV y u->R x y H2->wpAny (model X.prog X.w) X.A (f v u) Q X.xe s2):
  wpAny (model X.prog X.w) X.A (eval a X.env) (fun v s₁=>wpAny (model X.prog X.w) X.A (eval b X.env) (fun u s₂=>wpAny (model X.prog X.w) X.A (f v u) Q X.xe s₂) X.xe s₁) X.xe s:=by
 refine thn (ha pins s σ H _ I h) fun v s1 ⟨x,H1,I1,r1,q1⟩=>?_
 refine thn (hb pins s1 σ H1 _ I1 q1) fun u s2 ⟨y,H2,I2,r2,q2⟩=>?_
 exact hf v u s2 x y H2 I2 r1 r2 q2
theorem ai {op:Operator} {r:R2} (ho:OpR X (binaryOp op) r) (ha:PE X a ta) (hb:PE X b tb):PE X (.BinOp a op b pos) (tOp r ta tb):=by
 intro pins s σ H Q I h;exact wpAny_BinOp (binT ha hb I h fun v u s2 x y H2 I2 rx ry q=>ho pins s2 σ H2 x y v u Q I2 rx ry q)
theorem tF {op:UnaryOp} {r:V->Hp->VK->Prop} (ho:UnR X (unaryOp op) r) (ha:PE X a ta):PE X (.UnaryOp op a pos) (tUn r ta):=by
 intro pins s σ H Q I h;exact UnaryOp_ (thn (ha pins s σ H _ I h) fun v s1 ⟨x,H1,I1,r1,q1⟩=>ho pins s1 σ H1 x v Q I1 r1 q1)
theorem opI {f:Value->Value->Sem Value} {C:Int->Int->Prop} {g:Int->Int->Int}
  (rule:∀ (i j:Int) (t u:Tok) (s:Shared) (Q:Value->Shared->Prop) (E:Value->Shared->Prop),C i j->Q (.int (g i j) s.toks) { s with toks:=s.toks+1 }->wpAny (model X.prog X.w) X.A (f (.int i t) (.int j u)) Q E s):
  OpR X f (rI C fun i j=>.int (g i j)):=by
 intro pins s σ H x y v u Q I rx ry h;obtain ⟨i,j,rfl,rfl,hc,q⟩:=h;obtain ⟨t,rfl⟩:=rx;obtain ⟨t',rfl⟩:=ry;exact rule i j t t' s _ _ hc ⟨.int (g i j),H,I.tok _,⟨_,rfl⟩,q⟩
theorem opI0 {f:Value->Value->Sem Value} {g:Int->Int->Int}
  (rule:∀ (i j:Int) (t u:Tok) (s:Shared) (Q:Value->Shared->Prop) (E:Value->Shared->Prop),Q (.int (g i j) s.toks) { s with toks:=s.toks+1 }->wpAny (model X.prog X.w) X.A (f (.int i t) (.int j u)) Q E s):
  OpR X f (rI0 fun i j=>.int (g i j)):=by
 intro pins s σ H x y v u Q I rx ry h;obtain ⟨i,j,rfl,rfl,q⟩:=h;obtain ⟨t,rfl⟩:=rx;obtain ⟨t',rfl⟩:=ry;exact rule i j t t' s _ _ ⟨.int (g i j),H,I.tok _,⟨_,rfl⟩,q⟩
theorem opB0 {f:Value->Value->Sem Value} {g:Int->Int->Bool}
  (rule:∀ (i j:Int) (t u:Tok) (s:Shared) (Q:Value->Shared->Prop) (E:Value->Shared->Prop),Q (.bool (g i j)) s->wpAny (model X.prog X.w) X.A (f (.int i t) (.int j u)) Q E s):
  OpR X f (rI0 fun i j=>.bl (g i j)):=by
 intro pins s σ H x y v u Q I rx ry h;obtain ⟨i,j,rfl,rfl,q⟩:=h;obtain ⟨t,rfl⟩:=rx;obtain ⟨t',rfl⟩:=ry;exact rule i j t t' s _ _ ⟨.bl (g i j),H,I,rfl,q⟩
def CDiv (i j:Int):Prop:=0 < j/\j < 1073741824
def CPow (i j:Int):Prop:=0<=j/\j<=1000000/\i.natAbs < 2 ^ 64
def CMul (i j:Int):Prop:=(-(2 ^ 64) < i/\i < 2 ^ 64)\/(-(2 ^ 64) < j/\j < 2 ^ 64)
theorem CMul.ok {i j:Int} (h:CMul i j):IntMulOk i j:=by
 rcases h with ⟨h1,h2⟩ | ⟨h1,h2⟩
 ·exact .of_left (intBits_le_64 h1 h2)
 ·exact .of_right (intBits_le_64 h1 h2)
theorem rz:OpR X (binaryOp .Add) (rI0 fun i j=>.int (i+j)):=opI0 fun _ _ _ _ _ _ _ q=>add_int q
theorem rY:OpR X (binaryOp .Sub) (rI0 fun i j=>.int (i - j)):=opI0 fun _ _ _ _ _ _ _ q=>sub_int q
theorem rP:OpR X (binaryOp .Mult) (rI CMul fun i j=>.int (i*j)):=opI fun _ _ _ _ _ _ _ hc q=>mul_int q hc.ok
theorem qt:OpR X (binaryOp .FloorDiv) (rI CDiv fun i j=>.int (i / j)):=opI fun i j _ _ _ _ _ hc q=>by
 have h1:(0:Int) < j:=hc.1;have h2:j < 1073741824:=hc.2;exact floordiv_int (by omega) (by rw [Int.fdiv_eq_ediv_of_nonneg i (by omega)]; exact q) (.inl (PyProof.noPylong_small (by omega)))
theorem sM:OpR X (binaryOp .Mod) (rI (fun _ j=>0 < j) fun i j=>.int (i % j)):=opI fun i j _ _ _ _ _ hc q=>by
 have h1:(0:Int) < j:=hc;exact mod_int' (by omega) (by rw [Int.fmod_eq_emod_of_nonneg i (by omega)]; exact q)
theorem unI {f:Value->Sem Value} {g:Int->Int}
  (rule:∀ (i:Int) (t:Tok) (s:Shared) (Q:Value->Shared->Prop) (E:Value->Shared->Prop),Q (.int (g i) s.toks) { s with toks:=s.toks+1 }->wpAny (model X.prog X.w) X.A (f (.int i t)) Q E s):
  UnR X f (rU fun i=>.int (g i)):=by
 intro pins s σ H x v Q I rx h;obtain ⟨i,rfl,q⟩:=h;obtain ⟨t,rfl⟩:=rx;exact rule i t s _ _ ⟨.int (g i),H,I.tok _,⟨_,rfl⟩,q⟩
theorem sj:UnR X (unaryOp .USub) (rU fun i=>.int (-i)):=unI fun _ _ _ _ _ q=>neg_int q
end
noncomputable def scal:V->V->Bool
 | .non,.non=>true | .non,.int _=>true | .int _,.non=>true | .non,.bl _=>true | .bl _,.non=>true | .non,.str _=>true | .str _,.non=>true
 | .int _,.int _=>true | .bl _,.bl _=>true | .str _,.str _=>true | .byt _,.byt _=>true
 | .int _,.str _=>true | .str _,.int _=>true | .bl _,.str _=>true | .str _,.bl _=>true
 | _,_=>false
noncomputable def rEq:R2:=fun x y H Q=>scal x y=true/\Q (.bl (decide (x=y))) H
noncomputable def rNe:R2:=fun x y H Q=>scal x y=true/\Q (.bl (!decide (x=y))) H
theorem lW {i j:Int}:decide (V.int i=V.int j)=(i == j):=by
 rw [Bool.eq_iff_iff];simp
theorem oJ {i j:Bool}:decide (V.bl i=V.bl j)=(i == j):=by
 rw [Bool.eq_iff_iff];simp
theorem lU {i j:Str}:decide (V.str i=V.str j)=(i == j):=by
 rw [Bool.eq_iff_iff];simp
theorem mm {i j:Array UInt8}:decide (V.byt i=V.byt j)=(i.toList == j.toList):=by
 rw [Bool.eq_iff_iff];cases i;cases j;simp
section
variable {X:Cx} {a b c:Expr} {ta tb tc:TE} {pos:Pos}
theorem aH {pins:List (Addr × Obj)} {σ:St} {H:Hp} {s:Shared} {Q:VK} {k k':Bool} (I:Inv X pins σ H s) (q:Q (.bl k) H) (e:k=k'):EP X pins σ Q (.bool k') s:=by
 subst e;exact ⟨.bl k,H,I,rfl,q⟩
theorem tQ:OpR X (compareOp .Eq) rEq:=by
 intro pins s σ H x y v u Q I rx ry h;obtain ⟨hs,q⟩:=h;cases x with
 | non=>
  cases rx;cases y with
  | non=>cases ry; exact PySem.EqNone.eq_none_none (aH I q (by simp))
  | bl j=>cases ry; exact PySem.EqNone.eq_none_bool (aH I q (by simp))
  | int j=>obtain ⟨t',rfl⟩:=ry; exact PySem.EqNone.eq_none_int (aH I q (by simp))
  | str j=>obtain ⟨t',rfl⟩:=ry; exact PySem.EqNone.eq_none_str (aH I q (by simp))
  | _=>exact absurd (show false=true from hs) Bool.false_ne_true
 | bl i=>
  cases rx;cases y with
  | non=>cases ry; exact PySem.EqNone.eq_bool_none (aH I q (by simp))
  | bl j=>cases ry; exact eq_bool (aH I q oJ)
  | str j=>obtain ⟨t',rfl⟩:=ry; exact PySem.EqMixed.eq_bool_str (aH I q (by simp))
  | _=>exact absurd (show false=true from hs) Bool.false_ne_true
 | int i=>
  obtain ⟨t,rfl⟩:=rx;cases y with
  | non=>cases ry; exact PySem.EqNone.eq_int_none (aH I q (by simp))
  | int j=>obtain ⟨t',rfl⟩:=ry; exact eq_int (aH I q lW)
  | str j=>obtain ⟨t',rfl⟩:=ry; exact PySem.EqMixed.eq_int_str (aH I q (by simp))
  | _=>exact absurd (show false=true from hs) Bool.false_ne_true
 | str i=>
  obtain ⟨t,rfl⟩:=rx;cases y with
  | non=>cases ry; exact PySem.EqNone.eq_str_none (aH I q (by simp))
  | bl j=>cases ry; exact PySem.EqMixed.eq_str_bool (aH I q (by simp))
  | int j=>obtain ⟨t',rfl⟩:=ry; exact PySem.EqMixed.eq_str_int (aH I q (by simp))
  | str j=>obtain ⟨t',rfl⟩:=ry; exact eq_str (aH I q lU)
  | _=>exact absurd (show false=true from hs) Bool.false_ne_true
 | byt i=>
  obtain ⟨t,rfl⟩:=rx;cases y with
  | byt j=>obtain ⟨t',rfl⟩:=ry; exact PySem.W.eq_bytes (aH I q mm)
  | _=>exact absurd (show false=true from hs) Bool.false_ne_true
 | _=>cases y <;> exact absurd (show false=true from hs) Bool.false_ne_true
theorem tN:OpR X (compareOp .NotEq) rNe:=by
 intro pins s σ H x y v u Q I rx ry h;obtain ⟨hs,q⟩:=h;cases x with
 | non=>
  cases rx;cases y with
  | non=>cases ry; exact PySem.EqNone.ne_none_none (aH I q (by simp))
  | bl j=>cases ry; exact PySem.EqNone.ne_none_bool (aH I q (by simp))
  | int j=>obtain ⟨t',rfl⟩:=ry; exact PySem.EqNone.ne_none_int (aH I q (by simp))
  | str j=>obtain ⟨t',rfl⟩:=ry; exact PySem.EqNone.ne_none_str (aH I q (by simp))
  | _=>exact absurd (show false=true from hs) Bool.false_ne_true
 | bl i=>
  cases rx;cases y with
  | non=>cases ry; exact PySem.EqNone.ne_bool_none (aH I q (by simp))
  | bl j=>cases ry; exact ne_bool (aH I q (congrArg not oJ))
  | str j=>obtain ⟨t',rfl⟩:=ry; exact PySem.EqMixed.ne_bool_str (aH I q (by simp))
  | _=>exact absurd (show false=true from hs) Bool.false_ne_true
 | int i=>
  obtain ⟨t,rfl⟩:=rx;cases y with
  | non=>cases ry; exact PySem.EqNone.ne_int_none (aH I q (by simp))
  | int j=>obtain ⟨t',rfl⟩:=ry; exact ne_int (aH I q (congrArg not lW))
  | str j=>obtain ⟨t',rfl⟩:=ry; exact PySem.EqMixed.ne_int_str (aH I q (by simp))
  | _=>exact absurd (show false=true from hs) Bool.false_ne_true
 | str i=>
  obtain ⟨t,rfl⟩:=rx;cases y with
  | non=>cases ry; exact PySem.EqNone.ne_str_none (aH I q (by simp))
  | bl j=>cases ry; exact PySem.EqMixed.ne_str_bool (aH I q (by simp))
  | int j=>obtain ⟨t',rfl⟩:=ry; exact PySem.EqMixed.ne_str_int (aH I q (by simp))
  | str j=>obtain ⟨t',rfl⟩:=ry; exact ne_str (aH I q (congrArg not lU))
  | _=>exact absurd (show false=true from hs) Bool.false_ne_true
 | byt i=>
  obtain ⟨t,rfl⟩:=rx;cases y with
  | byt j=>obtain ⟨t',rfl⟩:=ry; exact PySem.W.ne_bytes (aH I q (congrArg not mm))
  | _=>exact absurd (show false=true from hs) Bool.false_ne_true
 | _=>cases y <;> exact absurd (show false=true from hs) Bool.false_ne_true
theorem tG:OpR X (compareOp .Lt) (rI0 fun i j=>.bl (decide (i < j))):=opB0 fun _ _ _ _ _ _ _ q=>lt_int q
theorem tS:OpR X (compareOp .Gt) (rI0 fun i j=>.bl (decide (j < i))):=opB0 fun _ _ _ _ _ _ _ q=>gt_int q
theorem nz:OpR X (compareOp .In) (fun x y H Q=>∃ i j,x=.str i/\y=.str j/\Q (.bl (!(Builtin.Str.occurrences j i 0 j.length 1).isEmpty)) H):=by
 intro pins s σ H x y v u Q I rx ry h;obtain ⟨i,j,rfl,rfl,q⟩:=h;obtain ⟨t,rfl⟩:=rx;obtain ⟨t',rfl⟩:=ry;exact in_str (aH I q rfl)
theorem jS:OpR X (compareOp .NotIn) (fun x y H Q=>∃ i j,x=.str i/\y=.str j/\Q (.bl (!(!(Builtin.Str.occurrences j i 0 j.length 1).isEmpty))) H):=by
 intro pins s σ H x y v u Q I rx ry h;obtain ⟨i,j,rfl,rfl,q⟩:=h;obtain ⟨t,rfl⟩:=rx;obtain ⟨t',rfl⟩:=ry;exact notIn_str (aH I q rfl)
theorem OpR.or {f:Value->Value->Sem Value} {r r':R2} (h:OpR X f r) (h':OpR X f r'):OpR X f (fun x y H Q=>r x y H Q\/r' x y H Q):=by
 intro pins s σ H x y v u Q I rx ry q;rcases q with q | q
 ·exact h pins s σ H x y v u Q I rx ry q
 ·exact h' pins s σ H x y v u Q I rx ry q
theorem nomark (b:Expr) {op:CmpOp} (h:op≠.In:=by decide) (h2:op≠.NotIn:=by decide):behindInMarks op b=false:=by
 have e1:(op == CmpOp.In)=false:=by cases op <;> first | rfl | exact absurd rfl h
 have e2:(op == CmpOp.NotIn)=false:=by cases op <;> first | rfl | exact absurd rfl h2
 cases b <;> simp [behindInMarks,e1,e2]
theorem qW {op:CmpOp} {r:R2} (ho:OpR X (compareOp op) r) (ha:PE X a ta) (hb:PE X b tb) (hm:behindInMarks op b=false):PE X (.Compare a [op] [b] pos) (tOp r ta tb):=by
 intro pins s σ H Q I h;exact wpAny_Compare1 (binT ha hb I h fun v u s2 x y H2 I2 rx ry q=>ho pins s2 σ H2 x y v u Q I2 rx ry q) hm
noncomputable def tTest (t:TE):TT:=fun σ H Q=>t σ H fun x H'=>∃ k,x=.bl k/\Q k H'
theorem qo {op:CmpOp} {r:R2} (ho:OpR X (compareOp op) r) (ha:PE X a ta) (hb:PE X b tb) (hm:behindInMarks op b=false):PT X (.Compare a [op] [b] pos) (tTest (tOp r ta tb)):=by
 intro pins s σ H Q I h;refine wpAny_isTrue_Compare1 (thn (ha pins s σ H _ I h) fun v s1 ⟨x,H1,I1,r1,q1⟩=>thn (hb pins s1 σ H1 _ I1 q1) fun u s2 ⟨y,H2,I2,r2,q2⟩=>
  thn (ho pins s2 σ H2 x y v u _ I2 r1 r2 q2) fun c s3 ⟨z,H3,I3,r3,k,e,q3⟩=>?_) hm
 subst e;cases r3;exact wpAny_truthy_bool ⟨H3,I3,q3⟩
theorem line63:(sizeLine:Nat) < 2 ^ 63:=by rw [sizeLine_eq]; decide
theorem lA:OpR X (binaryOp .Add) (fun x y H Q=>∃ i j,x=.str i/\y=.str j/\i.length+j.length<=sizeLine/\Q (.str (i++j)) H):=by
 intro pins s σ H x y v u Q I rx ry h;obtain ⟨i,j,rfl,rfl,hz,q⟩:=h;obtain ⟨t,rfl⟩:=rx;obtain ⟨t',rfl⟩:=ry;exact tokQ I.tk (add_str (fun t' tk (htk:0 < tk)=>⟨.str (i++j),H,I.tok _,⟨_,rfl⟩,q⟩) hz)
theorem vals1 {x:V} {us:List Value} (r:Vals [x] us):∃ u,us=[u]/\RelV x u:=by
 cases r with
 | cons r1 r2=>cases r2; exact ⟨_,rfl,r1⟩
theorem vals2 {x y:V} {us:List Value} (r:Vals [x,y] us):∃ u w',us=[u,w']/\RelV x u/\RelV y w':=by
 cases r with
 | cons r1 r2=>
  cases r2 with
  | cons r3 r4=>cases r4; exact ⟨_,_,rfl,r1,r3⟩
theorem mE (hc:X.calm=true):CallR X (.builtin "max") (fun xs H Q=>∃ i j,xs=[.int i,.int j]/\Q (.int (if j > i then j else i)) H):=by
 intro pins s σ H xs us Q I r h;obtain ⟨i,j,rfl,q⟩:=h;obtain ⟨u,w',rfl,⟨t,rfl⟩,⟨t',rfl⟩⟩:=vals2 r;refine tokQ I.tk (max_two_ints (I.ok.hd hc) fun h' tk k (htk:0 < tk)=>⟨_,H,I.kept k,?_,q⟩);by_cases hj:j > i
 ·rw [if_pos hj,if_pos hj]; exact ⟨_,rfl⟩
 ·rw [if_neg hj,if_neg hj]; exact ⟨_,rfl⟩
end
structure ObjM (h:Heap) (x dx C:Addr) (mA:Str->Option Value):Prop where
 obj:h.get? x=some (PySem.W.instObj C dx)
 ns:h.Ns1 dx mA
 ne:dx≠x
theorem ny {h:Heap} {dx:Addr} {mA:Str->Option Value} (n:h.Ns1 dx mA):∃ od,h.get? dx=some od/\∀ name,PySem.W.lookIn name od=some (mA name):=by
 obtain ⟨o,es,ep,ho,hd,hk,_,hm⟩:=n;refine ⟨o,ho,fun name=>?_⟩;have e:=hm name;unfold nsFind findBy at e;rw [<- Array.find?_toList] at e;unfold PySem.W.lookIn;rw [hd];dsimp only;split
 ·rename_i y q;rw [q] at e;exact congrArg some e
 ·rename_i q;rw [q] at e;have a:es.toList.any (·.refKey)=false:=by
   rw [List.any_eq_false];intro y hy;obtain ⟨z,t,hkey⟩:=hk y (Array.mem_toList_iff.mp hy);simp [DictEntry.refKey,hkey]
  have a':¬ es.toList.any (·.refKey)=true:=by rw [a]; exact Bool.false_ne_true
  rw [if_neg a'];exact congrArg some e
theorem ObjM.look {h:Heap} {x dx C:Addr} {mA:Str->Option Value} (I:ObjM h x dx C mA):∃ od,PySem.W.InstAt h x (PySem.W.instObj C dx) C (some od)/\∀ name,PySem.W.lookIn name od=some (mA name):=
 let ⟨od,ho,hl⟩:=ny I.ns
 ⟨od,⟨I.obj,rfl,rfl,ho⟩,hl⟩
section
variable {prog:Program} {w:World} {A:Around} {E:Value->Shared->Prop} {s:Shared} {K:Frag} {x dx C f:Addr} {mA:Str->Option Value} {name:Str} {v:Value}
end
section
variable {P:Program} {w:World} {H H':Hp} {h h':Heap} {a C dx:Addr} {fs fs':List (Str × V)}
theorem pz (hok:HOk P w H h) (e:H a=some (.ins C dx fs)):∃ mA,ObjM h a dx C mA/\(∀ f,RelO (fs.lookup f) (mA f))/\PySem.Within mA (fs.map (·.1))/\fs.length<=1000/\H dx=some (.own a):=by
 obtain ⟨d,z,ne,ob,mA,n,r,q⟩:=(show ObjOk P w H h a (.ins C dx fs) from hok a _ e);exact ⟨mA,⟨ob,n,ne⟩,r,q,z,d⟩
end
structure Cls (K:Frag) (C:Addr):Prop where
 pg:PySem.W.plainGet K C Str.empty=true
 hd:PySem.W.hasDictIn K C=true
 po:PySem.W.plainOver K C=true
 sa:findIn K (.ref C) "__setattr__" = some (some (.builtin "object.__setattr__"))
theorem Cls.get {K:Frag} {C:Addr} (c:Cls K C) (f:Str):PySem.W.plainGet K C f=true:=c.pg
structure Meth (K:Frag) (C:Addr) (m:Str) (f:Addr):Prop where
 at_:findIn K (.ref C) m=some (some (.ref f))
 fn:PySem.W.isFn K (.ref f)=true
 kp:keepIn K (.ref f)=true
section
variable {X:Cx} {pins:List (Addr × Obj)} {σ:St} {H:Hp} {s:Shared} {a C dx:Addr} {fs:List (Str × V)} {f:Str} {v:V} {A:Around} {E:Value->Shared->Prop}
theorem Inv.made (I:Inv X pins σ H s):Inv X pins σ (upd (upd H s.heap.objs.size (.own (s.heap.objs.size+1))) (s.heap.objs.size+1) (.ins C s.heap.objs.size []))
  { s with heap:=(s.heap.push PySem.W.emptyDict).push (PySem.W.instObj C s.heap.objs.size) }:=by
 have e1:(s.heap.push PySem.W.emptyDict).get? s.heap.objs.size=some PySem.W.emptyDict:=Heap.get?_push_size s.heap rfl;have e2:((s.heap.push PySem.W.emptyDict).push (PySem.W.instObj C s.heap.objs.size)).get? (s.heap.objs.size+1)=some (PySem.W.instObj C s.heap.objs.size):=by
  have:=Heap.get?_push_size (s.heap.push PySem.W.emptyDict) (o:=PySem.W.instObj C s.heap.objs.size) rfl
  rwa [Heap.size_push] at this
 have e3:(s.heap.push PySem.W.emptyDict).Ns s.heap.objs.size (fun _=>none):=⟨PySem.W.emptyDict,#[],_,e1,rfl,(fun e he=>absurd he (by simp)),fun _=>rfl⟩;have I1:=I.laid (a:=s.heap.objs.size) (o:=.own (s.heap.objs.size+1)) (h':=s.heap.push PySem.W.emptyDict) (t':=s.toks) (fun b u q=>Heap.get?_push_of_some _ q) (Nat.le_refl _) ⟨_,e1⟩;refine I1.laid (a:=s.heap.objs.size+1) (o:=.ins C s.heap.objs.size []) (t':=s.toks) (fun b u q=>Heap.get?_push_of_some _ q) (Nat.le_of_eq (Heap.size_push _ _)) ?_;have ne:s.heap.objs.size≠s.heap.objs.size+1:=Nat.ne_of_lt (Nat.lt_succ_self _);refine ⟨by rw [au ne,upd_same],Nat.zero_le _,ne,e2,fun _=>none,(Heap.Ns1.of_empty e3).at fun o q=>Heap.get?_push_of_some _ q,fun _=>True.intro,fun y hy=>absurd rfl hy⟩
end
section
variable {X:Cx} {o e value:Expr} {f:Str} {pos pos' tpos:Pos} {ta tv:TE}
end
section
variable {X:Cx} {pins:List (Addr × Obj)} {σ:St} {H:Hp} {s:Shared} {A:Around} {E:Value->Shared->Prop} {Q:Value->Shared->Prop} {c:Value} {b:Bool}
inductive TyOf (K:Frag) (H:Hp):V->Value->Prop where
 | non:TyOf K H .non (.type "NoneType")
 | bl (x:Bool):TyOf K H (.bl x) (.type "bool")
 | int (i:Int):TyOf K H (.int i) (.type "int")
 | str (x:Str):TyOf K H (.str x) (.type "str")
 | flt (x:UInt64):TyOf K H (.flt x) (.type "float")
 | lst {a:Addr} {xs:List V} (e:H a=some (.lst xs)):TyOf K H (.ref a) (.type "list")
 | frz {a:Addr} {o:Obj} {xs:List V} (e:H a=some (.frz o (.lst xs))):TyOf K H (.ref a) (.type "list")
 | tup {a:Addr} {xs:List V} (e:H a=some (.tup xs)):TyOf K H (.ref a) (.type "tuple")
 | dK {a:Addr} {kvs:List (Key × V)} (e:H a=some (.dK kvs)):TyOf K H (.ref a) (.type "dict")
 | dT {a:Addr} {kvs:List (List Key × V)} (e:H a=some (.dT kvs)):TyOf K H (.ref a) (.type "dict")
 | ins {a C dx:Addr} {fs:List (Str × V)} (e:H a=some (.ins C dx fs)) (cl:Cls K C) (ha:findIn K (.ref C) "__class__" = some (some (.builtin "object.__class__")))
   (hn:PySem.W.specialIn K (.builtin "object.__class__") "__get__" = some (some (.builtin "getset_descriptor.__get__"))) (htk:PySem.W.takesIn K (.builtin "object.__class__")=some true)
   (hm:PySem.W.mroIn K C (.type "object")=some true):TyOf K H (.ref a) (.ref C)
theorem mS {x:V} {u t:Value} (I:Inv X pins σ H s) (rx:RelV x u) (ty:TyOf X.K H x t) (e:PySem.W.kitOne X.K t c=some b) (h:∀ tk,Q (.bool b) { s with toks:=tk }):
  wpAny (model X.prog X.w) A (call (.builtin "isinstance") [u,c]) Q E s:=by
 cases ty with
 | non=>cases (show u=Value.none from rx); exact PySem.W.kia_one PySem.W.kitx_none I.kIn True.intro e (fun z=>nomatch z) h
 | bl y=>cases (show u=Value.bool y from rx); exact PySem.W.kia_one PySem.W.kitx_bool I.kIn True.intro e (fun z=>nomatch z) h
 | int i=>obtain ⟨t,q⟩:=(show ∃ t,u=Value.int i t from rx); cases q; exact PySem.W.kia_one PySem.W.kitx_int I.kIn True.intro e (fun z=>nomatch z) h
 | str y=>obtain ⟨t,q⟩:=(show ∃ t,u=Value.str y t from rx); cases q; exact PySem.W.kia_one PySem.W.kitx_str I.kIn True.intro e (fun z=>nomatch z) h
 | flt y=>obtain ⟨t,q⟩:=(show ∃ t,u=Value.float y t from rx); cases q; exact PySem.W.kia_one PySem.W.kitx_float I.kIn True.intro e (fun z=>nomatch z) h
 | @lst a xs ea=>
  cases (show u=Value.ref a from rx);obtain ⟨_,_,n,_,h1⟩:=(show ObjOk X.prog X.w H s.heap a (.lst xs) from I.hok a _ ea);exact PySem.W.kia_one PySem.W.kitx_list I.kIn ⟨_,h1,rfl⟩ e (fun z=>nomatch z) h
 | @frz a ob xs ea=>
  cases (show u=Value.ref a from rx);obtain ⟨_,_,_,n,_,h1⟩:=(show ObjOk X.prog X.w H s.heap a (.frz ob (.lst xs)) from I.hok a _ ea);exact PySem.W.kia_one PySem.W.kitx_list I.kIn ⟨_,h1,rfl⟩ e (fun z=>nomatch z) h
 | @tup a xs ea=>
  cases (show u=Value.ref a from rx);obtain ⟨_,_,_,p⟩:=(show ObjOk X.prog X.w H s.heap a (.tup xs) from I.hok a _ ea);obtain ⟨o,h1,h2,_⟩:=p;exact PySem.W.kia_one PySem.W.kitx_tuple I.kIn ⟨o,h1,h2⟩ e (fun z=>nomatch z) h
 | @dK a kvs ea=>
  cases (show u=Value.ref a from rx);obtain ⟨_,_,vs,_,p⟩:=(show ObjOk X.prog X.w H s.heap a (.dK kvs) from I.hok a _ ea);obtain ⟨o,es,ep,h1,h2,_⟩:=p;exact PySem.W.kia_one PySem.W.kitx_dict I.kIn ⟨o,h1,h2.1⟩ e (fun z=>nomatch z) h
 | @dT a kvs ea=>
  cases (show u=Value.ref a from rx);obtain ⟨_,_,xs,_,o,es,ep,h1,h2,_⟩:=(show ObjOk X.prog X.w H s.heap a (.dT kvs) from I.hok a _ ea);exact PySem.W.kia_one PySem.W.kitx_dict I.kIn ⟨o,h1,h2.1⟩ e (fun z=>nomatch z) h
 | @ins a C dx fs ea cl ha hn htk hm=>
  cases (show u=Value.ref a from rx);obtain ⟨mA,O,_⟩:=pz I.hok ea;obtain ⟨od,J,_⟩:=O.look;exact PySem.W.kia_one (PySem.W.kitx_own (cl.get _) cl.hd ha hn htk hm) I.kIn J e (fun z=>nomatch z) h
end
structure Room (k:Nat) (A:Around):Prop where
 hd:A.handled=none
 dp:A.depth+3*k+5 < recursionLimit
 un:A.units+16*k+200 < cLine
 gd:A.guards=some []
theorem Room.mono {j k:Nat} {A:Around} (r:Room k A) (h:j<=k):Room j A:=⟨r.hd,by have:=r.dp; omega,by have:=r.un; omega,r.gd⟩
theorem Room.deeper {k:Nat} {A:Around} (r:Room (k+1) A) (env:Env):Room k (A.deeper env):=
 ⟨r.hd,by have:=r.dp; show A.depth+1+3*k+5 < _; omega,by have:=r.un; show A.units+3+16*k+200 < _; omega,r.gd⟩
theorem Room.in1 {k:Nat} {A:Around} (r:Room (k+1) A):Room k A.in1:=
 ⟨r.hd,by have:=r.dp; show A.depth+3*k+5 < _; omega,by have:=r.un; show A.units+1+16*k+200 < _; omega,r.gd⟩
theorem Room.depth {k:Nat} {A:Around} (r:Room k A):A.depth < recursionLimit:=by have:=r.dp; omega
theorem Room.units {k:Nat} {A:Around} (r:Room k A):A.units+64 < cLine:=by have:=r.un; omega
theorem Room.units0 {k:Nat} {A:Around} (r:Room k A):A.units < cLine:=by have:=r.un; omega
noncomputable def tNil:TA:=fun _ H Q=>Q [] H
noncomputable def tCons (ta:TE) (tr:TA):TA:=fun σ H Q=>ta σ H fun x H1=>tr σ H1 fun xs H2=>Q (x::xs) H2
section
variable {X:Cx} {e:Expr} {es:List Expr} {te:TE} {t:TA} {pos:Pos}
theorem ad:PA X [] tNil:=fun _ _ _ _ H Q I h=>Calls.spliced_nil ⟨[],H,I,.nil,h⟩
theorem aa (ha:PE X e te) (hr:PA X es t) (hs:starEach (e::es) X.env=(false,eval e X.env)::starEach es X.env:=by rfl):PA X (e::es) (tCons te t):=by
 intro pos pins s σ H Q I h;rw [hs];show wpAny _ _ (spliced ((false,eval e X.env)::backTo pos (starEach es X.env))) _ _ s;refine Calls.spliced_cons (thn (ha pins s σ H _ I h) fun u s1 ⟨x,H1,I1,r1,q1⟩=>?_);exact thn (hr pos pins s1 σ H1 _ I1 q1) fun us s2 ⟨xs,H2,I2,r2,q2⟩=>⟨x::xs,H2,I2,.cons r1 r2,q2⟩
noncomputable def tTup (t:TA):TE:=fun σ H Q=>t σ H fun xs H1=>xs.length<=sizeLine/\∀ p,H1 p=none->Q (.ref p) (upd H1 p (.tup xs))
noncomputable def tLst (t:TA):TE:=fun σ H Q=>t σ H fun xs H1=>xs.length<=sizeLine/\∀ p,H1 p=none->Q (.ref p) (upd H1 p (.lst xs))
theorem aq {x1} (h:PA X es t):PE X (.Tuple es x1 pos) (tTup t):=by
 intro pins s σ H Q I hq;refine wpAny_Tuple_spliced (thn (h pos pins s σ H _ I hq) fun us s1 ⟨xs,H1,I1,r,z,q⟩=>⟨by rw [<- r.length]; exact z,?_⟩);have hf:H1 s1.heap.objs.size=none:=I1.hok.fresh (Nat.le_refl _);refine ⟨.ref s1.heap.objs.size,upd H1 s1.heap.objs.size (.tup xs),I1.laid (t':=s1.toks) (fun b u e=>Heap.get?_push_of_some _ e) (Nat.le_refl _) ?_,rfl,q _ hf⟩;exact ⟨z,us,r,⟨_,Heap.get?_push_size _ rfl,rfl,_,rfl⟩⟩
theorem aI (h:PA X es t):PE X (.List es pos) (tLst t):=by
 intro pins s σ H Q I hq;refine wpAny_List_spliced (thn (h pos pins s σ H _ I hq) fun us s1 ⟨xs,H1,I1,r,z,q⟩=>⟨by rw [<- r.length]; exact z,?_⟩);have hf:H1 s1.heap.objs.size=none:=I1.hok.fresh (Nat.le_refl _);refine ⟨.ref s1.heap.objs.size,upd H1 s1.heap.objs.size (.lst xs),I1.laid (t':=s1.toks) (fun b u e=>Heap.get?_push_of_some _ e) (Nat.le_refl _) ?_,rfl,q _ hf⟩;exact ⟨z,us,0,r,Heap.get?_push_size _ rfl⟩
end
noncomputable abbrev Sp:=List V->Hp->VK->XK->Prop
noncomputable abbrev CXT:=List Env->Hp->Shared->XK->Value->Shared->Prop
structure Env0 (P:Program) (w:World) (K:Frag) (mg:Str->Option Value) (base:Heap) (A:Around) (outer:List Env) (s:Shared) (H:Hp):Prop where
 frames:A.frames=some outer
 mod:Mod K mg base
 bs:∀ b o,base.get? b=some o->s.heap.get? b=some o/\H b=none
 bsz:base.objs.size<=s.heap.objs.size
 funs:s.heap.FunFrames base outer
 frf:∀ b ∈ frs outer,H b=none
 hok:HOk P w H s.heap
 bare:AllBare s.gens
 tk:0 < s.toks
def CE (outer:List Env) (P:Program) (w:World) (H:Hp) (s:Shared) (Q:VK) (u:Value) (s':Shared):Prop:=
 ∃ v H',0 < s'.toks/\s'.os=s.os/\AllBare s'.gens/\Un (frs outer) [] H H' s.heap s'.heap/\HOk P w H' s'.heap/\RelV v u/\Q v H'
def CR (CX:CXT) (outer:List Env) (P:Program) (w:World) (H:Hp) (s:Shared) (Q:VK) (E:XK) (r:Result) (s':Shared):Prop:=
 match r with
 | .ok (.ret u)=>CE outer P w H s Q u s'
 | .ok _=>False
 | .error e=>CX outer H s E e s'
structure FnOk (P:Program) (w:World) (K:Frag) (mg:Str->Option Value) (base:Heap) (CX:CXT) (k:Nat) (f:Addr) (fd:FuncData) (ps:List Str) (sp:Sp):Prop where
 len:∀ vs H Q E,sp vs H Q E->vs.length=ps.length
 run:∀ (A:Around) (outer:List Env) (s:Shared) (H:Hp) (args:Args) (us:List Value) (vs:List V) (Q:VK) (E:XK),Room k A->Env0 P w K mg base A outer s H->BindsTo s fd args (ps.zip us)->Vals vs us->sp vs H Q E ->
  codeAny (model P w) A (.call (.ref f) args) (CR CX outer P w H s Q E) s
theorem FnOk.mono {P:Program} {w:World} {K:Frag} {mg:Str->Option Value} {base:Heap} {CX:CXT} {j k:Nat} {f:Addr} {fd:FuncData} {ps:List Str} {sp:Sp} (F:FnOk P w K mg base CX j f fd ps sp) (h:j<=k):
  FnOk P w K mg base CX k f fd ps sp:=⟨F.len,fun A outer s H args us vs Q E hr=>F.run A outer s H args us vs Q E (hr.mono h)⟩
theorem FnOk.imp {P:Program} {w:World} {K:Frag} {mg:Str->Option Value} {base:Heap} {CX:CXT} {k:Nat} {f:Addr} {fd:FuncData} {ps:List Str} {sp sp':Sp} (F:FnOk P w K mg base CX k f fd ps sp)
  (h:∀ vs H Q E,sp' vs H Q E->sp vs H Q E):FnOk P w K mg base CX k f fd ps sp':=
 ⟨fun vs H Q E q=>F.len vs H Q E (h _ _ _ _ q),fun A outer s H args us vs Q E hr he hb hv hs=>F.run A outer s H args us vs Q E hr he hb hv (h _ _ _ _ hs)⟩
theorem Env0.in1 {P:Program} {w:World} {K:Frag} {mg:Str->Option Value} {base:Heap} {A:Around} {outer:List Env} {s:Shared} {H:Hp} (e:Env0 P w K mg base A outer s H):
  Env0 P w K mg base A.in1 outer s H:=⟨e.frames,e.mod,e.bs,e.bsz,e.funs,e.frf,e.hok,e.bare,e.tk⟩
section
variable {X:Cx} {pins:List (Addr × Obj)} {σ:St} {H:Hp} {s s':Shared}
theorem Inv.env0 (I:Inv X pins σ H s):Env0 X.prog X.w X.K X.mg X.base X.A X.stack s H:=
 ⟨I.ok.frames,I.ok.mod,I.bs,Nat.le_trans I.ok.bsz I.sz,I.stack,I.stkFree,I.hok,I.bare,I.tk⟩
theorem Inv.after {Q:VK} {u:Value} (I:Inv X pins σ H s) (h:CE X.stack X.prog X.w H s Q u s'):EP X pins σ Q u s':=by
 obtain ⟨v,H',ht,os,bare,un,hok,r,q⟩:=h;obtain ⟨hh,g,d,t,os'⟩:=s';obtain rfl:os'=s.os:=os;exact ⟨v,H',I.call (h':=hh) (g':=g) (d':=d) (t':=t) (ch:=[]) un hok bare (fun b z=>absurd z (by simp)) ht,r,q⟩
end
noncomputable def tCall (sp:Sp) (dvs:List V) (E:XK) (t:TA):TE:=fun σ H Q=>t σ H fun vs H1=>sp (vs++dvs) H1 Q E
def Binds (K:Frag) (fd:FuncData) (ps:List Str) (ds:List Value):Prop:=
 ∀ (s:Shared) (us:List Value),K.In s.heap->(us++ds).length=ps.length->BindsTo s fd ⟨us,[]⟩ (ps.zip (us++ds))
theorem Binds.all {K:Frag} {fd:FuncData} {ps:List Str} (h:∀ us:List Value,us.length=ps.length->bindArgs fd ⟨us,[]⟩=pure (ps.zip us)):Binds K fd ps []:=fun s us _ hl=>by
 rw [List.append_nil] at hl ⊢;exact .of_eq (h us hl)
def Passes (CX:CXT) (X:Cx) (E:XK):Prop:=∀ (pins:List (Addr × Obj)) (σ:St) (H:Hp) (s:Shared) (e:Value) (s':Shared),Inv X pins σ H s->CX X.stack H s E e s'->X.xe e s'
section
variable {X:Cx} {CX:CXT} {k:Nat} {f C:Addr} {fd:FuncData} {ps:List Str} {sp:Sp} {dvs:List V} {ds:List Value} {E:XK} {x m:Str} {p pos apos:Pos} {e o:Expr} {es:List Expr} {ta:TE} {t:TA}
theorem tm {pins:List (Addr × Obj)} {σ:St} {H:Hp} {s:Shared} {Q:VK} {us:List Value} {vs:List V} (F:FnOk X.prog X.w X.K X.mg X.base CX k f fd ps sp) (hr:Room k X.A) (hb:Binds X.K fd ps ds) (hd:Vals dvs ds) (hx:Passes CX X E)
  (I:Inv X pins σ H s) (r:Vals vs us) (h:sp (vs++dvs) H Q E):wpAny (model X.prog X.w) X.A (call (.ref f) us) (EP X pins σ Q) X.xe s:=by
 have r2:Vals (vs++dvs) (us++ds):=r.append hd;have hl:(us++ds).length=ps.length:=by rw [<- r2.length]; exact F.len _ _ _ _ h
 refine wpAny_call (codeAny_mono (F.run X.A X.stack s H ⟨us,[]⟩ (us++ds) (vs++dvs) Q E hr I.env0 (hb s us I.kIn hl) r2 h) fun r s' hq=>?_);cases r with
 | error e=>exact hx pins σ H s e s' I hq
 | ok fl=>
  cases fl with
  | ret u=>exact I.after hq
  | next=>exact False.elim hq
  | brk=>exact False.elim hq
  | cont=>exact False.elim hq
theorem lV (F:FnOk X.prog X.w X.K X.mg X.base CX k f fd ps sp) (hr:Room k X.A) (hg:Gl X x) (hm:X.mg x=some (.ref f)) (hk:keepIn X.K (.ref f)=true) (hb:Binds X.K fd ps ds) (hd:Vals dvs ds) (hx:Passes CX X E)
  (ha:PA X (e::es) t) (hdb:(x == ("__debug__" : Str))=false:=by decide) (he:starEach (e::es) X.env=(false,eval e X.env)::starEach es X.env:=by rfl) (hpl:(backTo pos (starEach es X.env)).any (·.1)=false:=by rfl):
  PE X (.Call (.Name x p) (e::es) [] pos) (tCall sp dvs E t):=by
 intro pins s σ H Q I h;refine wpAny_Call_Name_kw (gE I hg hm ?_ hdb);refine PySem.W.callWith_K (h₀:=X.base) I.ok.mod.kin hk (thn (ha pos pins s σ H _ I h) fun us s1 ⟨vs,H1,I1,r,q⟩=>⟨I1.kIn,?_⟩) he hpl;exact tm F hr hb hd hx I1 r q
structure Mk (K:Frag) (C f:Addr):Prop where
 makes:PySem.W.makesIn K C=true
 init:findIn K (.ref C) "__init__" = some (some (.ref f))
 fn:PySem.W.isFn K (.ref f)=true
 kp:keepIn K (.ref C)=true
end
section
variable {X:Cx} {CX:CXT} {k:Nat} {f C:Addr} {fd:FuncData} {ps ks:List Str} {sp:Sp} {E:XK} {x m:Str} {p pos apos kpos:Pos} {e o:Expr} {es:List Expr} {kws:List Keyword} {te ta:TE} {t tk:TA} {nm:Option Str}
variable {g:List Value->List Value->List Value} {gV:List V->List V->List V}
end
structure FnScope (N P:List Str) (sc:Scope):Prop where
 kind:sc.kind=.function
 co:sc.isCoroutine=false
 gen:sc.isGenerator=false
 nd:N.Nodup
 pre:N.take P.length=P
 par:∀ x ∈ P,sc.names.lookup x=some .local\/sc.names.lookup x=some .cell
 nofree:∀ y ∈ sc.names,y.2≠.free
theorem jv {kindOf:Str->Option NameKind} {x:Str}:∀ {binds:List (Str × Value)} {m:Str->Option Value},(∀ v,(x,v) ∉ binds)->bindL kindOf binds m x=m x
 | [],_,_=>rfl
 | (n,v)::r,m,h=>by
  unfold bindL;rw [jv fun w hw=>h w (List.mem_cons_of_mem _ hw)];split
  ·have:x≠n:=by rintro rfl; exact h v List.mem_cons_self
   simp [this]
  ·rfl
theorem jE {kindOf:Str->Option NameKind} {x:Str}:∀ {binds:List (Str × Value)} {m:Str->Option Value},(∀ v,(x,v) ∉ binds)->bindC kindOf binds m x=m x
 | [],_,_=>rfl
 | (n,v)::r,m,h=>by
  unfold bindC;rw [jE fun w hw=>h w (List.mem_cons_of_mem _ hw)];split
  ·rfl
  ·have:x≠n:=by rintro rfl; exact h v List.mem_cons_self
   simp [this]
theorem jK {kindOf:Str->Option NameKind} {x:Str} {v:Value}:∀ {P:List Str} {vs:List Value} {i:Nat} {m:Str->Option Value},P.Nodup->P[i]? = some x->vs[i]? = some v->kindOf x=some .local ->
  bindL kindOf (P.zip vs) m x=some v
 | [],_,_,_,_,h,_,_=>by simp at h
 | _::_,[],_,_,_,_,h,_=>by simp at h
 | p::P,w::vs,0,m,nd,h1,h2,hk=>by
  simp at h1 h2; subst h1; subst h2;show bindL kindOf ((p,w)::P.zip vs) m p=_;unfold bindL;rw [jv fun v hv=>(List.nodup_cons.mp nd).1 (List.of_mem_zip hv).1,if_pos hk];simp
 | p::P,w::vs,i+1,m,nd,h1,h2,hk=>by
  show bindL kindOf ((p,w)::P.zip vs) m x=_;unfold bindL;exact jK (i:=i) (List.nodup_cons.mp nd).2 (by simpa using h1) (by simpa using h2) hk
theorem jC {kindOf:Str->Option NameKind} {x:Str} {v:Value}:∀ {P:List Str} {vs:List Value} {i:Nat} {m:Str->Option Value},P.Nodup->P[i]? = some x->vs[i]? = some v->kindOf x≠some .local ->
  bindC kindOf (P.zip vs) m x=some v
 | [],_,_,_,_,h,_,_=>by simp at h
 | _::_,[],_,_,_,_,h,_=>by simp at h
 | p::P,w::vs,0,m,nd,h1,h2,hk=>by
  simp at h1 h2; subst h1; subst h2;show bindC kindOf ((p,w)::P.zip vs) m p=_;unfold bindC;rw [jE fun v hv=>(List.nodup_cons.mp nd).1 (List.of_mem_zip hv).1,if_neg hk];simp
 | p::P,w::vs,i+1,m,nd,h1,h2,hk=>by
  show bindC kindOf ((p,w)::P.zip vs) m x=_;unfold bindC;exact jC (i:=i) (List.nodup_cons.mp nd).2 (by simpa using h1) (by simpa using h2) hk
noncomputable def start (N:List Str) (vs:List V):St:=vs.map some++List.replicate (N.length - vs.length) none
noncomputable def cxOf (CX:CXT) (P:Program) (w:World) (K:Frag) (mg:Str->Option Value) (base:Heap) (N:List Str) (qual:Str) (scope:Scope) (f:Addr) (cd:Value) (A:Around) (outer:List Env) (s:Shared) (H:Hp) (E:XK):Cx where
 prog:=P
 w:=w
 K:=K
 mg:=mg
 base:=base
 A:=A.deeper (envOfC qual scope s.heap.objs.size f cd)
 N:=N
 s₀:=s
 H₀:=H
 env:=envOfC qual scope s.heap.objs.size f cd
 outer:=outer
 stack:=envOfC qual scope s.heap.objs.size f cd::outer
 ex:=[]
 calm:=true
 fn:=fun _=>true
 pn:=[]
 xe:=fun e s'=>wpAny (model P w) (A.deeper (envOfC qual scope s.heap.objs.size f cd)) (leaving (envOfC qual scope s.heap.objs.size f cd) e) (fun _ s''=>CX outer H s E e s'') (fun e' s''=>CX outer H s E e' s'') s'
theorem kR {sc:Scope} {n:Nat} {x:Str} (h:sc.names.lookup x=some .cell):∃ c,(cellsFrom n sc.names []).lookup x=some c:=by
 have q:=PySem.W.cellsFrom_some sc.names n [] (.inl h);exact Option.isSome_iff_exists.mp q
theorem nA {CX:CXT} {P:Program} {w:World} {K:Frag} {mg:Str->Option Value} {base:Heap} {N ps:List Str} {qual:Str} {scope:Scope} {f:Addr} {cd:Value} {A:Around} {outer:List Env} {s s1:Shared} {H:Hp} {E:XK} {us:List Value} {vs:List V}
  (S:FnScope N ps scope) (hd:A.handled=none) (e0:Env0 P w K mg base A outer s H) (hl:vs.length=ps.length) (r:Vals vs us)
  (x:InCallC s s.heap.objs.size (bindL (envOfC qual scope s.heap.objs.size f cd).kindOf (ps.zip us) fun _=>none) (cellsFrom (s.heap.objs.size+1) scope.names []) (bindC (envOfC qual scope s.heap.objs.size f cd).kindOf (ps.zip us) fun _=>none) s1) (htk:0 < s1.toks):
  Inv (cxOf CX P w K mg base N qual scope f cd A outer s H E) [] (start N vs) H s1:=by
 have hpl:ps.length<=N.length:=by have:=congrArg List.length S.pre; rw [List.length_take] at this; omega
 obtain ⟨h1,tk,rfl,hk⟩:=x.done;have noA:∀ b:Addr,b ∉ (cxOf CX P w K mg base N qual scope f cd A outer s H E).ex:=fun b z=>absurd (show b ∈ ([]:List Addr) from z) (by simp)
 refine ⟨⟨e0.mod,S.kind,rfl,rfl,Nat.le_refl _,fun y z c h1 h2=>?_,fun y hy=>?_,fun y c _ h=>?_,fun _=>hd,Around.frames_deeper e0.frames,.inr ⟨rfl,rfl⟩,fun b z=>absurd z (noA b),e0.bs,e0.bsz,fun b _ _=>noA b,fun b z=>absurd z (noA b),e0.funs,e0.frf⟩,
  rfl,e0.bare,Un.kept hk,⟨_,x.toInCall.ns,fun i y v h1 h2 h3=>?_⟩,fun y c h=>⟨_,x.cell y c h⟩,e0.hok.fresh (Nat.le_refl _),fun y c h=>?_,fun p hp=>absurd (show p ∈ ([]:List (Addr × Obj)) from hp) (by simp),e0.hok.kept hk,?_,htk⟩
 ·exact name_of_addr x.apart (PySem.mem_of_lookup h1) (PySem.mem_of_lookup h2)
 ·have hy:scope.names.lookup y=some .cell\/scope.names.lookup y=some .free:=hy;rcases hy with hy | hy
  ·exact kR hy
  ·exact absurd rfl (S.nofree _ (PySem.mem_of_lookup hy))
 ·exact Nat.le_of_lt (x.above y c (PySem.mem_of_lookup h))
 ·have hi:i < vs.length:=by
   unfold start at h2;by_cases hi:i < vs.length
   ·exact hi
   ·rw [List.getElem?_append_right (by simpa using hi)] at h2;rw [List.getElem?_replicate] at h2;split at h2 <;> cases h2
  have ha:vs[i]? = some v:=by
   unfold start at h2;rw [List.getElem?_append_left (by simpa using hi),List.getElem?_map] at h2;cases e:vs[i]? with
   | none=>rw [e] at h2; cases h2
   | some a=>rw [e] at h2; cases h2; rfl
  obtain ⟨u,hu,rv⟩:=r.get ha;have hp:ps[i]? = some y:=by
   rw [<- S.pre,List.getElem?_take_of_lt (by omega)]; exact h1
  have ndP:ps.Nodup:=by rw [<- S.pre]; exact S.nd.sublist (List.take_sublist _ _)
  refine ⟨u,rv,?_⟩;rcases S.par y (List.mem_of_getElem? hp) with k | k
  ·exact .inl ⟨k,jK ndP hp hu k⟩
  ·obtain ⟨c,e⟩:=kR (n:=s.heap.objs.size+1) k;refine .inr ⟨.inl k,c,e,?_⟩;have q:=x.cell y c e;rw [jC ndP hp hu (by show scope.names.lookup y≠_; rw [k]; decide)] at q;exact q
 ·exact e0.hok.fresh (Nat.le_of_lt (x.above y c (PySem.mem_of_lookup h)))
 ·unfold start;show _=N.length;rw [List.length_append,List.length_map,List.length_replicate];omega
theorem qZ {CX:CXT} {P:Program} {w:World} {K:Frag} {mg:Str->Option Value} {base:Heap} {k:Nat} {f:Addr} {name qual:Str} {params:Arguments} {body:List Stmt} {scope:Scope} {dV kV doc pm cdv ct oc:Value} {an od:Option Addr}
  {osl:Array (Option Value)} {N ps:List Str} {sp:Sp} (lk:K.lookup f=some ⟨oc,od,.func (fnOf name qual params body scope dV kV doc pm an cdv ct),osl⟩) (hcd:codeIn K cdv qual=true) (S:FnScope N ps scope)
  (len:∀ vs H Q E,sp vs H Q E->vs.length=ps.length)
  (hbody:∀ (A:Around) (outer:List Env) (s:Shared) (H:Hp) (vs:List V) (Q:VK) (E:XK),Room k (A.deeper (envOfC qual scope s.heap.objs.size f cdv))->sp vs H Q E ->
   ∃ t,PSs (cxOf CX P w K mg base N qual scope f cdv A outer s H E) body t/\t { nx:=fun _ H'=>Q .non H',rt:=Q } (start N vs) H):
  FnOk P w K mg base CX (k+1) f (fnOf name qual params body scope dV kV doc pm an cdv ct) ps sp:=by
 refine ⟨len,fun A outer s H args us vs Q E hr e0 hb r hsp=>?_⟩;have hl:=len _ _ _ _ hsp;have KX:K.In s.heap:=e0.mod.kin.keeps fun b o e=>(e0.bs b o e).1
 have lim:s.heap.NoLimit:=e0.mod.nolimit.keeps fun b o e=>(e0.bs b o e).1
 have hkind:∀ y ∈ ps.zip us,scope.names.lookup y.1=some .local\/(scope.names.lookup y.1=some .cell/\((cellsFrom (s.heap.objs.size+1) scope.names []).lookup y.1).isSome=true):=fun ⟨n,v⟩ hy=>by
  rcases S.par n (List.of_mem_zip hy).1 with q | q
  ·exact .inl q
  ·exact .inr ⟨q,PySem.W.cellsFrom_some _ _ _ (.inl q)⟩
 refine codeAny_call_function hr.depth (KX _ _ lk) rfl S.co S.gen rfl (PySem.W.codeRec_of KX hcd) (hb _ _ _ _ ?_);refine tokQ e0.tk (wpAny_newFunctionEnv_cells S.kind hkind fun env he s1 x htk=>?_);subst he;refine ⟨lim.keeps x.toInCall.keep,codeAny_func ?_⟩;obtain ⟨t,ht,hq⟩:=hbody A outer s H vs Q E (hr.deeper _) hsp;have I:Inv (cxOf CX P w K mg base N qual scope f cdv A outer s H E) [] (start N vs) H s1:=nA S hr.hd e0 hl r x htk;refine wpAny_mono (ht [] s1 (start N vs) H _ I hq) (fun fl s' hs=>?_) fun e s' hs=>hs
 have fin:∀ {σ':St} {H':Hp} {v:V} {u:Value},Inv (cxOf CX P w K mg base N qual scope f cdv A outer s H E) [] σ' H' s'->RelV v u->Q v H'->CE outer P w H s Q u s':=
  fun {σ' H' v u} J rv q=>⟨v,H',J.tk,J.os,J.bare,J.base,J.hok,rv,q⟩
 cases fl with
 | ret u=>
  obtain ⟨v,σ',H',J,rv,q⟩:=hs;exact fin J rv q
 | next=>
  obtain ⟨σ',H',J,q⟩:=hs;exact fin (v:=V.non) (u:=Value.none) J rfl q
 | brk=>
  obtain ⟨_,_,_,q⟩:=hs;exact False.elim q
 | cont=>
  obtain ⟨_,_,_,q⟩:=hs;exact False.elim q
section
variable {X:Cx} {x:Str} {p pos:Pos} {e:Expr} {es:List Expr} {t:TA} {id T:String} {r:List V->Hp->VK->Prop}
noncomputable def tCB (r:List V->Hp->VK->Prop) (t:TA):TE:=fun σ H Q=>t σ H fun vs H1=>r vs H1 Q
theorem aB (hc:CallR X (.builtin id) r) (hg:Gl X x) (hm:X.mg x=none) (hv:bootBuiltins x=some (.builtin id)) (ha:PA X (e::es) t) (hn:x ≠ "__name__" := by decide) (hdb:(x == ("__debug__" : Str))=false:=by decide)
  (he:starEach (e::es) X.env=(false,eval e X.env)::starEach es X.env:=by rfl) (hpl:(backTo pos (starEach es X.env)).any (·.1)=false:=by rfl):PE X (.Call (.Name x p) (e::es) [] pos) (tCB r t):=by
 intro pins s σ H Q I h;refine wpAny_Call_Name_kw (fW I hg hm hv ?_ hn hdb);exact PyProof.Rows.callWith_builtin1 (thn (ha pos pins s σ H _ I h) fun us s1 ⟨vs,H1,I1,r1,q1⟩=>hc pins s1 σ H1 vs us Q I1 r1 q1) he hpl
theorem bH (hc:CallR X (.type T) r) (hg:Gl X x) (hm:X.mg x=none) (hv:bootBuiltins x=some (.type T)) (ha:PA X (e::es) t) (hn:x ≠ "__name__" := by decide) (hdb:(x == ("__debug__" : Str))=false:=by decide)
  (he:starEach (e::es) X.env=(false,eval e X.env)::starEach es X.env:=by rfl) (hpl:(backTo pos (starEach es X.env)).any (·.1)=false:=by rfl):PE X (.Call (.Name x p) (e::es) [] pos) (tCB r t):=by
 intro pins s σ H Q I h;refine wpAny_Call_Name_kw (fW I hg hm hv ?_ hn hdb);exact PyProof.Rows.callWith_type1 (thn (ha pos pins s σ H _ I h) fun us s1 ⟨vs,H1,I1,r1,q1⟩=>hc pins s1 σ H1 vs us Q I1 r1 q1) he hpl
end
end L2
namespace HT
open PySem PyProof.Rows
section
open PySem.SeqAt
open PySem.AutoSeq1 (wpAny_loadPart')
open PySem.MeetsSeq PySem.MeetsSeq2 PySem.MeetsSeq3
end
section
variable {prog:Program} {w:World} {A:Around} {E:Value->Shared->Prop} {s:Shared}
noncomputable def sIx (n d:Nat):Option Int->Nat
 | none=>d
 | some v=>if v < 0 then (v+(n:Int)).toNat else min v.toNat n
theorem sIx_nat (n d k:Nat):sIx n d (some (k:Int))=min k n:=by
 show (if (k:Int) < 0 then ((k:Int)+(n:Int)).toNat else min (k:Int).toNat n)=min k n;rw [if_neg (by omega),Int.toNat_natCast]
end
end HT
namespace L2
open PySem PySem.Spec PyProof.Rows
noncomputable abbrev TO:=St->Hp->(Option Int->Hp->Prop)->Prop
def PO (X:Cx) (e:Option Expr) (t:TO):Prop:=
 ∀ (pins:List (Addr × Obj)) (s:Shared) (σ:St) (H:Hp) (Q:Option Int->Hp->Prop),Inv X pins σ H s->t σ H Q ->
  wpAny (model X.prog X.w) X.A (evalPart e X.env) (fun u s'=>∃ o H',Inv X pins σ H' s'/\IsPart u o/\Q o H') X.xe s
noncomputable def tNoPart:TO:=fun _ H Q=>Q none H
noncomputable def tPart (t:TE):TO:=fun σ H Q=>t σ H fun x H1=>∃ i,x=.int i/\Q (some i) H1
theorem lG {ns:List Int}:∀ {us:List Value},Vals (ns.map V.int) us->IntsAre us ns:=by
 induction ns with
 | nil=>intro us r; rw [List.map_nil] at r; cases r; exact .nil
 | cons n ns ih=>
  intro us r;rw [List.map_cons] at r;cases r with
  | cons r1 r2=>
   obtain ⟨t,e⟩:=r1;subst e;exact .cons n t (ih r2)
section
variable {X:Cx} {e:Expr} {te:TE} {lo hi:Option Expr} {tl th:TO} {pos p2:Pos}
theorem bC:PO X none tNoPart:=by
 intro pins s σ H Q I h;rw [evalPart_none];exact wpAny_pure ⟨none,H,I,.none,h⟩
theorem qc (h:PE X e te):PO X (some e) (tPart te):=by
 intro pins s σ H Q I hw;rw [evalPart_some];refine thn (h pins s σ H _ I hw) fun u s1 ⟨x,H1,I1,r1,q1⟩=>?_
 obtain ⟨i,rfl,q⟩:=q1;obtain ⟨t,rfl⟩:=r1;exact ⟨some i,H1,I1,.int i t,q⟩
def SlR (X:Cx) (r:V->Option Int->Option Int->Hp->VK->Prop):Prop:=
 ∀ (pins:List (Addr × Obj)) (s:Shared) (σ:St) (H:Hp) (x:V) (v vl vu:Value) (lo hi:Option Int) (sl:Addr) (Q:VK),Inv X pins σ H s->RelV x v->s.heap.IsSliceOf sl vl vu .none->IsPart vl lo->IsPart vu hi->r x lo hi H Q ->
  ∃ T id,typeLookup (.type T) "__getitem__" = pure (some (.builtin id))/\s.TypeIs v T/\wpAny (model X.prog X.w) X.A (getItem v (.ref sl)) (EP X pins σ Q) X.xe s
theorem SlR.or {r r':V->Option Int->Option Int->Hp->VK->Prop} (h:SlR X r) (h':SlR X r'):SlR X (fun x lo hi H Q=>r x lo hi H Q\/r' x lo hi H Q):=by
 intro pins s σ H x v vl vu lo hi sl Q I rx hs pl pu q;rcases q with q | q
 ·exact h pins s σ H x v vl vu lo hi sl Q I rx hs pl pu q
 ·exact h' pins s σ H x v vl vu lo hi sl Q I rx hs pl pu q
noncomputable def tSl (r:V->Option Int->Option Int->Hp->VK->Prop) (te:TE) (tl th:TO):TE:=fun σ H Q=>te σ H fun x H1=>tl σ H1 fun l H2=>th σ H2 fun u H3=>r x l u H3 Q
theorem aU {r:V->Option Int->Option Int->Hp->VK->Prop} (hr:SlR X r) (he:PE X e te) (hl:PO X lo tl) (hu:PO X hi th):PE X (.Subscript e (.Slice lo hi none p2) pos) (tSl r te tl th):=by
 intro pins s σ H Q I h;refine Subscript_ (thn (he pins s σ H _ I h) fun v s1 ⟨x,H1,I1,r1,q1⟩=>?_);refine wpAny_Slice (thn (hl pins s1 σ H1 _ I1 q1) fun vl s2 ⟨l,H2,I2,pl,q2⟩=>thn (hu pins s2 σ H2 _ I2 q2) fun vu s3 ⟨u,H3,I3,pu,q3⟩=>?_);rw [evalPart_none];refine wpAny_pure ?_;have I4:Inv X pins σ H3 { s3 with heap:=s3.heap.push { cls:=.type "slice",data:=.fields #[vl,vu,.none] } }:=I3.kept (t':=s3.toks) fun b ob q=>Heap.get?_push_of_some _ q
 obtain ⟨T,id,hT,ht,hg⟩:=hr pins { s3 with heap:=s3.heap.push { cls:=.type "slice",data:=.fields #[vl,vu,.none] } } σ H3 x v vl vu l u s3.heap.objs.size Q I4 r1 (Heap.IsSliceOf.new ..) pl pu q3;show wpAny (model X.prog X.w) X.A (subscriptTail e (.Slice lo hi none p2) v (.ref s3.heap.objs.size)) (EP X pins σ Q) X.xe { s3 with heap:=s3.heap.push { cls:=.type "slice",data:=.fields #[vl,vu,.none] } };exact tail_any (ops:=[.ref s3.heap.objs.size,v]) ht hT hg (by with_unfolding_all rfl)
noncomputable def cutV (xs:List V) (lo hi:Option Int):List V:=(xs.drop (HT.sIx xs.length 0 lo)).take (HT.sIx xs.length xs.length hi - HT.sIx xs.length 0 lo)
theorem kF (xs:List V) (lo hi:Option Int):(cutV xs lo hi).length<=xs.length:=by
 unfold cutV;rw [List.length_take,List.length_drop];omega
end
noncomputable def ixN (n:Nat) (i:Int):Option Nat:=if 0<=i then (if i < n then some i.toNat else none) else if -(n:Int)<=i then some (i+n).toNat else none
noncomputable def atI {α:Type} (xs:List α) (i:Int):Option α:=(ixN xs.length i).bind fun j=>xs[j]?
theorem pO {n:Nat} {i:Int} {j:Nat} (h:ixN n i=some j):seqIndex? i n=some j/\j < n /\ -(n:Int)<=i/\i < n:=by
 unfold ixN at h;by_cases h0:0<=i
 ·rw [if_pos h0] at h;by_cases h1:i < n
  ·rw [if_pos h1] at h;have e:i.toNat=j:=Option.some.inj h;exact ⟨by rw [seqIndex_of h0 h1,e],by omega,by omega,h1⟩
  ·rw [if_neg h1] at h; cases h
 ·rw [if_neg h0] at h;by_cases h1:-(n:Int)<=i
  ·rw [if_pos h1] at h;have e:(i+n).toNat=j:=Option.some.inj h;exact ⟨by rw [seqIndex_neg (by omega) h1,e],by omega,h1,by omega⟩
  ·rw [if_neg h1] at h; cases h
theorem j6 {α:Type} {xs:List α} {i:Int} {v:α} (h:atI xs i=some v):∃ j,seqIndex? i xs.length=some j/\xs[j]? = some v/\j < xs.length /\ -(xs.length:Int)<=i/\i < xs.length:=by
 unfold atI at h;cases e:ixN xs.length i with
 | none=>rw [e] at h; cases h
 | some j=>
  rw [e] at h;obtain ⟨h1,h2,h3,h4⟩:=pO e;exact ⟨j,h1,h,h2,h3,h4⟩
theorem bw {α:Type} {xs:List α} {j:Nat} {v:α} (h:xs[j]? = some v):atI xs (j:Int)=some v:=by
 have hj:j < xs.length:=(List.getElem?_eq_some_iff.mp h).1;have e:ixN xs.length (j:Int)=some j:=by
  unfold ixN;rw [if_pos (by omega),if_pos (by omega)]; simp
 unfold atI; rw [e]; exact h
theorem kE {α:Type} (xs:List α) (v:α):atI (xs++[v]) (-1)=some v:=by
 have hl:(xs++[v]).length=xs.length+1:=by simp
 have e:ixN (xs++[v]).length (-1)=some xs.length:=by
  unfold ixN;rw [hl,if_neg (by decide),if_pos (by omega)];congr 1;omega
 unfold atI;rw [e];show (xs++[v])[xs.length]? = some v;simp
def PlainIx (b:Expr):Prop:=∀ o i,subscripted b false o i=operate [o,i] (getItem o i)
def IxR (X:Cx) (r:R2):Prop:=
 ∀ (value slice:Expr) (pins:List (Addr × Obj)) (s:Shared) (σ:St) (H:Hp) (x y:V) (v u:Value) (Q:VK),Inv X pins σ H s->RelV x v->RelV y u->r x y H Q ->
  subscripted slice false v u=operate [v,u] (getItem v u)->wpAny (model X.prog X.w) X.A (subscriptTail value slice v u) (EP X pins σ Q) X.xe s
def MtR (X:Cx) (id:String) (r:V->List V->Hp->VK->Prop):Prop:=
 ∀ (pins:List (Addr × Obj)) (s:Shared) (σ:St) (H:Hp) (x:V) (xs:List V) (v:Value) (us:List Value) (Q:VK),Inv X pins σ H s->RelV x v->Vals xs us->r x xs H Q ->
  wpAny (model X.prog X.w) X.A (call (.builtin id) (v::us)) (EP X pins σ Q) X.xe s
section
variable {X:Cx} {a b:Expr} {ta tb:TE} {pos:Pos}
theorem IxR.or {r r':R2} (h:IxR X r) (h':IxR X r'):IxR X (fun x y H Q=>r x y H Q\/r' x y H Q):=by
 intro value slice pins s σ H x y v u Q I rx ry q hs;rcases q with q | q
 ·exact h value slice pins s σ H x y v u Q I rx ry q hs
 ·exact h' value slice pins s σ H x y v u Q I rx ry q hs
theorem MtR.or {id:String} {r r':V->List V->Hp->VK->Prop} (h:MtR X id r) (h':MtR X id r'):MtR X id (fun x xs H Q=>r x xs H Q\/r' x xs H Q):=by
 intro pins s σ H x xs v us Q I rx rs q;rcases q with q | q
 ·exact h pins s σ H x xs v us Q I rx rs q
 ·exact h' pins s σ H x xs v us Q I rx rs q
theorem aj {r:R2} (hr:IxR X r) (ha:PE X a ta) (hb:PE X b tb) (hs:PlainIx b):PE X (.Subscript a b pos) (tOp r ta tb):=by
 intro pins s σ H Q I h;exact Subscript_ (binT ha hb I h fun v u s2 x y H2 I2 rx ry q=>hr a b pins s2 σ H2 x y v u Q I2 rx ry q (hs _ _))
noncomputable def rIxL (K:Frag):R2:=fun x y H Q=>∃ p xs i v,x=.ref p/\y=.int i/\SqL K H p xs/\atI xs i=some v/\Q v H
noncomputable def rIxT (K:Frag):R2:=fun x y H Q=>∃ p xs i v,x=.ref p/\y=.int i/\SqT K H p xs/\atI xs i=some v/\Q v H
noncomputable def rIxS:R2:=fun x y H Q=>∃ z i c,x=.str z/\y=.int i/\z.length<=sizeLine/\atI z.cps.toList i=some c/\Q (.str ⟨#[c]⟩) H
theorem qC:IxR X (rIxL X.K):=by
 intro value slice pins s σ H x y v u Q I rx ry h hs;obtain ⟨p,xs,i,z,rfl,rfl,hq,he,q⟩:=h;cases rx;obtain ⟨t,rfl⟩:=ry;obtain ⟨its,r,pl,hz⟩:=I.list hq;obtain ⟨j,h1,h2,h3,h4,h5⟩:=j6 he;obtain ⟨w,ew,rw'⟩:=r.get h2;have hl:=r.length;have hn:=line63;have fin:EP X pins σ Q w s:=⟨z,H,I,rw',q⟩;by_cases h0:0<=i
 ·have hj:i.toNat=j:=by
   rw [seqIndex_of h0 h5] at h1;exact Option.some.inj h1
  exact item_listR pl.isList h0 (by omega) (by rw [hj]; simpa using ew) fin hs
 ·have hj:(i+(its.toArray.size:Int)).toNat=j:=by
   rw [seqIndex_neg (by omega) h4] at h1;rw [List.size_toArray,<- hl];exact Option.some.inj h1
  exact subscriptTail_builtinR (x:=w) pl.isList.typeIs slot_list_getitem.lookup
   (wpAny_getItem_list_neg (Q:=fun r s'=>r=w/\EP X pins σ Q r s') pl.isList (by omega) (by rw [List.size_toArray] <;> omega) (by omega) (by rw [hj]; simpa using ew) ⟨rfl,fin⟩) hs
theorem r8:IxR X (rIxT X.K):=by
 intro value slice pins s σ H x y v u Q I rx ry h hs;obtain ⟨p,xs,i,z,rfl,rfl,hq,he,q⟩:=h;cases rx;obtain ⟨t,rfl⟩:=ry;obtain ⟨its,r,pl,hz⟩:=I.tuple hq;obtain ⟨j,h1,h2,h3,h4,h5⟩:=j6 he;obtain ⟨w,ew,rw'⟩:=r.get h2;have hl:=r.length;have hn:=line63;have fin:EP X pins σ Q w s:=⟨z,H,I,rw',q⟩;exact subscriptTail_builtinR (x:=w) pl.typeIs slot_tuple_getitem.lookup
  (getItem_tuple (j:=j) (Q:=fun r s'=>r=w/\EP X pins σ Q r s') pl (by omega) (by omega) (by rw [List.size_toArray,<- hl]; exact h1) (by simpa using ew) ⟨rfl,fin⟩) hs
theorem ro:IxR X rIxS:=by
 intro value slice pins s σ H x y v u Q I rx ry h hs;obtain ⟨z,i,c,rfl,rfl,hz,he,q⟩:=h;obtain ⟨t,rfl⟩:=rx;obtain ⟨t',rfl⟩:=ry;obtain ⟨j,h1,h2,h3,h4,h5⟩:=j6 he;have hl:z.cps.toList.length=z.length:=by simp [Str.length]
 rw [hl] at h1 h4 h5;have hn:=line63;exact tail_any (typeIs_str s z t) slot_str_getitem.lookup (getItem_str (c:=c) (by
  have e1:decide (i < -(2 ^ 63:Int))=false:=decide_eq_false (by omega);have e2:decide (i >= 2 ^ 63)=false:=decide_eq_false (by omega);rw [e1,e2,Bool.or_false]) (by rw [h1]; simpa using h2) ⟨.str ⟨#[c]⟩,H,I.tok _,⟨_,rfl⟩,q⟩) hs
noncomputable def rIx (K:Frag):R2:=fun x y H Q=>rIxL K x y H Q\/rIxT K x y H Q\/rIxS x y H Q
theorem rR:IxR X (rIx X.K):=qC.or (r8.or ro)
theorem Inv.lst {pins:List (Addr × Obj)} {σ:St} {H:Hp} {s:Shared} {p:Addr} {xs:List V} (I:Inv X pins σ H s) (h:H p=some (.lst xs)):
  ∃ (its:List Value) (n:Nat),Vals xs its/\s.heap.get? p=some { cls:=.type "list",data:=.seq its.toArray n }/\xs.length<=sizeLine:=by
 obtain ⟨z,its,n,r,e⟩:=I.hok p _ h;exact ⟨its,n,r,e,z⟩
theorem jU (lo hi:Option Int) (n:Nat):(sliceBounds lo hi none n).1=((HT.sIx n 0 lo:Nat):Int)/\(sliceBounds lo hi none n).2.1=((HT.sIx n n hi:Nat):Int)/\(sliceBounds lo hi none n).2.2=1:=by
 refine ⟨?_,?_,rfl⟩
 ·cases lo with
  | none=>simp [sliceBounds,HT.sIx]
  | some i=>
   simp only [sliceBounds,HT.sIx,Option.getD_none,show (1:Int) > 0 by decide,if_true];by_cases h:i < 0
   ·simp only [h,if_true] <;> omega
   ·simp only [h,if_false] <;> omega
 ·cases hi with
  | none=>simp [sliceBounds,HT.sIx]
  | some i=>
   simp only [sliceBounds,HT.sIx,Option.getD_none,show (1:Int) > 0 by decide,if_true];by_cases h:i < 0
   ·simp only [h,if_true] <;> omega
   ·simp only [h,if_false] <;> omega
theorem jh (its:List Value) (lo hi:Option Int):slicePick its.toArray lo hi none=((its.drop (HT.sIx its.length 0 lo)).take (HT.sIx its.length its.length hi - HT.sIx its.length 0 lo)).toArray:=by
 obtain ⟨h1,h2,h3⟩:=jU lo hi its.toArray.size;unfold slicePick;rw [h1,h2,h3];simp only [sliceRange_one,pick_run,List.size_toArray] <;> rfl
noncomputable def rSlL (K:Frag):V->Option Int->Option Int->Hp->VK->Prop:=fun x lo hi H Q=>∃ a xs,x=.ref a/\SqL K H a xs/\∀ p,H p=none->Q (.ref p) (upd H p (.lst (cutV xs lo hi)))
theorem qx:SlR X (rSlL X.K):=by
 intro pins s σ H x v vl vu lo hi sl Q I rx hs pl pu h;obtain ⟨a,xs,rfl,hx,q⟩:=h;cases rx;obtain ⟨its,r,ht,hz⟩:=I.list hx;have hlen:=r.length;refine ⟨"list",_,slot_list_getitem.lookup,ht.isList.typeIs,?_⟩;refine wpAny_getItem_list_slice ht.isList hs pl pu .none (by simp) ?_ (by rw [List.size_toArray] <;> omega);rw [jh,<- hlen];refine ⟨.ref s.heap.objs.size,_,I.laid (t':=s.toks) (o:=.lst (cutV xs lo hi)) (fun b ob q=>Heap.get?_push_of_some _ q) (Nat.le_refl _) ?_,rfl,q _ (I.hok.fresh (Nat.le_refl _))⟩;exact ⟨Nat.le_trans (kF xs lo hi) hz,_,0,(r.drop (HT.sIx xs.length 0 lo)).take (HT.sIx xs.length xs.length hi - HT.sIx xs.length 0 lo),Heap.get?_push_size _ rfl⟩
noncomputable def flatV:V->Bool
 | .non=>true
 | .bl _=>true
 | .int _=>true
 | .str _=>true
 | _=>false
noncomputable def eqV:V->V->Bool
 | .non,.non=>true
 | .bl a,.bl b=>a == b
 | .bl a,.int b=>(if a then 1 else 0) == b
 | .int a,.bl b=>a == (if b then 1 else 0)
 | .int a,.int b=>a == b
 | .str a,.str b=>a == b
 | _,_=>false
theorem lN {A:Around} {s:Shared} {y x:V} {u v:Value} (ry:RelV y u) (rx:RelV x v) (fy:flatV y=true) (fx:flatV x=true):SeqAt.EqAt A s u v (eqV y x):=by
 cases y with
 | non=>
  cases ry;cases x with
  | non=>cases rx; exact SeqAt.EqAt.same _
  | bl b=>cases rx; exact SeqAt.EqAt.none_bool b
  | int b=>obtain ⟨t,rfl⟩:=rx; exact SeqAt.EqAt.none_int b t
  | str b=>obtain ⟨t,rfl⟩:=rx; exact SeqAt.EqAt.none_str b t
  | _=>exact absurd (show false=true from fx) Bool.false_ne_true
 | bl a=>
  cases ry;cases x with
  | non=>cases rx; exact SeqAt.EqAt.bool_none a
  | bl b=>cases rx; exact SeqAt.EqAt.bool_bool a b
  | int b=>obtain ⟨t,rfl⟩:=rx; exact SeqAt.EqAt.bool_int a b t
  | str b=>obtain ⟨t,rfl⟩:=rx; exact SeqAt.EqAt.bool_str a b t
  | _=>exact absurd (show false=true from fx) Bool.false_ne_true
 | int a=>
  obtain ⟨t',rfl⟩:=ry;cases x with
  | non=>cases rx; exact SeqAt.EqAt.int_none a t'
  | bl b=>cases rx; exact SeqAt.EqAt.int_bool a t' b
  | int b=>obtain ⟨t,rfl⟩:=rx; exact SeqAt.EqAt.int_int a t' b t
  | str b=>obtain ⟨t,rfl⟩:=rx; exact SeqAt.EqAt.int_str a t' b t
  | _=>exact absurd (show false=true from fx) Bool.false_ne_true
 | str a=>
  obtain ⟨t',rfl⟩:=ry;cases x with
  | non=>cases rx; exact SeqAt.EqAt.str_none a t'
  | bl b=>cases rx; exact SeqAt.EqAt.str_bool a t' b
  | int b=>obtain ⟨t,rfl⟩:=rx; exact SeqAt.EqAt.str_int a t' b t
  | str b=>obtain ⟨t,rfl⟩:=rx; exact SeqAt.EqAt.str_str a t' b t
  | _=>exact absurd (show false=true from fx) Bool.false_ne_true
 | _=>exact absurd (show false=true from fy) Bool.false_ne_true
noncomputable def eqU (x:V) (u:Value):Bool:=match u with
 | .none=>eqV .non x
 | .bool b=>eqV (.bl b) x
 | .int i _=>eqV (.int i) x
 | .str z _=>eqV (.str z) x
 | _=>false
theorem nR {x y:V} {u:Value} (r:RelV y u) (f:flatV y=true):eqU x u=eqV y x:=by
 cases y with
 | non=>cases r; rfl
 | bl b=>cases r; rfl
 | int i=>obtain ⟨t,rfl⟩:=r; rfl
 | str z=>obtain ⟨t,rfl⟩:=r; rfl
 | _=>exact absurd (show false=true from f) Bool.false_ne_true
theorem gG {x:V}:∀ {xs:List V} {us:List Value},Vals xs us->xs.all flatV=true->us.any (eqU x)=xs.any fun y=>eqV y x
 | _,_,.nil,_=>rfl
 | y::xs,u::us,.cons r t,f=>by
  rw [List.all_cons,Bool.and_eq_true] at f;rw [List.any_cons,List.any_cons,nR r f.1,gG t f.2]
theorem eY {A:Around} {s:Shared} {x:V} {v:Value} (rx:RelV x v) (fx:flatV x=true):∀ {xs:List V} {us:List Value},Vals xs us->xs.all flatV=true->∀ u ∈ us,SeqAt.EqAt A s u v (eqU x u)
 | _,_,.nil,_=>fun u hu=>by cases hu
 | y::xs,u::us,.cons r t,f=>fun u' hu=>by
  rw [List.all_cons,Bool.and_eq_true] at f;rcases List.mem_cons.mp hu with rfl | hu
  ·rw [nR r f.1]; exact lN r rx f.1 fx
  ·exact eY rx fx t f.2 u' hu
noncomputable def inV (x:V) (xs:List V):Bool:=xs.any fun y=>eqV y x
noncomputable def rIn (K:Frag) (neg:Bool):R2:=fun x y H Q=>∃ p xs,y=.ref p/\(SqL K H p xs\/SqT K H p xs)/\flatV x=true/\xs.all flatV=true/\Q (.bl (if neg then !inV x xs else inV x xs)) H
theorem mF:OpR X (compareOp .In) (rIn X.K false):=by
 intro pins s σ H x y v u Q I rx ry h;obtain ⟨p,xs,rfl,hq,fx,fs,q⟩:=h;cases ry;rcases hq with hq | hq
 ·obtain ⟨its,r,pl,hz⟩:=I.list hq;refine SeqAt.in_listAt (eqU x) pl.isList (fun w hw=>eY rx fx r fs w (by simpa using hw)) ⟨.bl _,H,I,rfl,?_⟩;rw [show its.toArray.any (eqU x)=its.any (eqU x) by simp,gG r fs];exact q
 ·obtain ⟨its,r,pl,hz⟩:=I.tuple hq;refine SeqAt.in_tupleAt (eqU x) pl (fun w hw=>eY rx fx r fs w (by simpa using hw)) ⟨.bl _,H,I,rfl,?_⟩;rw [show its.toArray.any (eqU x)=its.any (eqU x) by simp,gG r fs];exact q
theorem jR:OpR X (compareOp .NotIn) (rIn X.K true):=by
 intro pins s σ H x y v u Q I rx ry h;obtain ⟨p,xs,rfl,hq,fx,fs,q⟩:=h;cases ry;rcases hq with hq | hq
 ·obtain ⟨its,r,pl,hz⟩:=I.list hq;refine SeqAt.notIn_listAt (eqU x) pl.isList (fun w hw=>eY rx fx r fs w (by simpa using hw)) ⟨.bl _,H,I,rfl,?_⟩;rw [show its.toArray.any (eqU x)=its.any (eqU x) by simp,gG r fs];exact q
 ·obtain ⟨its,r,pl,hz⟩:=I.tuple hq;refine SeqAt.notIn_tupleAt (eqU x) pl (fun w hw=>eY rx fx r fs w (by simpa using hw)) ⟨.bl _,H,I,rfl,?_⟩;rw [show its.toArray.any (eqU x)=its.any (eqU x) by simp,gG r fs];exact q
theorem jW:CallR X (.builtin "len") (fun xs H Q=>∃ p ys,xs=[.ref p]/\(SqL X.K H p ys\/SqT X.K H p ys)/\Q (.int ys.length) H):=by
 intro pins s σ H xs us Q I r h;obtain ⟨p,ys,rfl,hq,q⟩:=h;obtain ⟨u,rfl,rx⟩:=vals1 r;cases rx;have hn:=line63;rcases hq with hq | hq
 ·obtain ⟨its,r',pl,hz⟩:=I.list hq;have hlen:=r'.length;exact Calls.call_len_list pl.isList (by simp only [List.size_toArray] <;> omega) ⟨.int ys.length,H,I.tok _,⟨s.toks+1,by rw [List.size_toArray,hlen]⟩,q⟩
 ·obtain ⟨its,r',pl,hz⟩:=I.tuple hq;have hlen:=r'.length;exact len_tuple pl (by simp only [List.size_toArray] <;> omega) ⟨.int ys.length,H,I.tok _,⟨s.toks+1,by rw [List.size_toArray,hlen]⟩,q⟩
theorem jZ:CallR X (.builtin "len") (fun xs H Q=>∃ z,xs=[.str z]/\z.length<=sizeLine/\Q (.int z.length) H):=by
 intro pins s σ H xs us Q I r h;obtain ⟨z,rfl,hz,q⟩:=h;obtain ⟨u,rfl,t,rfl⟩:=vals1 r;have hn:=line63;exact len_str (by omega) ⟨.int z.length,H,I.tok _,⟨_,rfl⟩,q⟩
theorem CallR.or {f:Value} {r r':List V->Hp->VK->Prop} (h:CallR X f r) (h':CallR X f r'):CallR X f (fun xs H Q=>r xs H Q\/r' xs H Q):=by
 intro pins s σ H xs us Q I rs q;rcases q with q | q
 ·exact h pins s σ H xs us Q I rs q
 ·exact h' pins s σ H xs us Q I rs q
theorem j7:CallR X (.type "list") (fun xs H Q=>∃ p ys,xs=[.ref p]/\(SqL X.K H p ys\/SqT X.K H p ys)/\∀ l,H l=none->Q (.ref l) (upd H l (.lst ys))):=by
 intro pins s σ H xs us Q I r h;obtain ⟨p,ys,rfl,hq,q⟩:=h;obtain ⟨u,rfl,rx⟩:=vals1 r;cases rx;have fin:∀ (its:List Value),Vals ys its->ys.length<=sizeLine->∀ (h':Heap) (c':Nat),(∀ b o',s.heap.get? b=some o'->h'.get? b=some o') ->
   h'.get? s.heap.objs.size=some { cls:=.type "list",dict:=none,data:=.seq its.toArray c',slots:=#[] }->EP X pins σ Q (.ref s.heap.objs.size) { s with heap:=h' }:=fun its r' hz h' c' kp e=>
  ⟨.ref s.heap.objs.size,_,I.laid (t':=s.toks) kp (Nat.le_refl _) (show ObjOk X.prog X.w _ h' _ (.lst ys) from ⟨hz,its,c',r',e⟩),rfl,q _ (I.hok.fresh (Nat.le_refl _))⟩
 rcases hq with hq | hq
 ·obtain ⟨its,r',pl,hz⟩:=I.list hq;have hlen:=r'.length;obtain ⟨o,ho,hc,n,hd⟩:=pl.isList;exact call_list_seq p (.inl rfl) ho hc hd (fun h' c' kp e=>fin its r' hz h' c' kp e) (by simp only [List.size_toArray] <;> omega)
 ·obtain ⟨its,r',pl,hz⟩:=I.tuple hq;have hlen:=r'.length;obtain ⟨o,ho,hc,n,hd⟩:=pl;exact call_list_seq p (.inr rfl) ho hc hd (fun h' c' kp e=>fin its r' hz h' c' kp e) (by simp only [List.size_toArray] <;> omega)
def tyV (K:Frag) (T:String) (x:V) (H:Hp):Prop:=match x with
 | .str _=>T = "str"
 | .int _=>T = "int"
 | .ref p=>(T = "list" /\ ∃ xs,SqL K H p xs)\/(T = "tuple" /\ ∃ o,K.lookup p=some o/\o.cls=.type "tuple" /\ o.dict=none) \/
   (T = "dict" /\ ((∃ kvs,H p=some (.dK kvs))\/∃ kvs,H p=some (.dT kvs)))\/(T = "set" /\ ∃ S n,H p=some (.set S n))
 | _=>False
theorem nZ {pins:List (Addr × Obj)} {σ:St} {H:Hp} {s:Shared} {T:String} {x:V} {v:Value} (I:Inv X pins σ H s) (r:RelV x v) (ty:tyV X.K T x H):
  s.TypeIs v T/\∀ a,v=.ref a->∃ ob,s.heap.get? a=some ob/\ob.dict=none:=by
 cases x with
 | str z=>
  obtain ⟨t,rfl⟩:=r;cases (show T = "str" from ty);exact ⟨typeIs_str s z t,fun _ e=>nomatch e⟩
 | int i=>
  obtain ⟨t,rfl⟩:=r;cases (show T = "int" from ty);exact ⟨typeIs_int s i t,fun _ e=>nomatch e⟩
 | ref p=>
  cases r;rcases ty with ⟨rfl,xs,hq⟩ | ⟨rfl,o,hk,hc,hd⟩ | ⟨rfl,hk⟩ | ⟨rfl,S,n,hk⟩
  ·obtain ⟨its,_,pl,_⟩:=I.list hq;refine ⟨pl.isList.typeIs,fun a e=>?_⟩;cases e;obtain ⟨o,n,e,c,hd,_⟩:=pl;exact ⟨o,e,hd⟩
  ·refine ⟨⟨o,I.kIn p o hk,hc⟩,fun a e=>?_⟩;cases e;exact ⟨o,I.kIn _ o hk,hd⟩
  ·have z:∃ o,s.heap.get? p=some o/\o.ExactDict:=by
    rcases hk with ⟨kvs,hk⟩ | ⟨kvs,hk⟩
    ·obtain ⟨_,_,_,_,o,_,_,e,ex,_⟩:=I.hok p _ hk;exact ⟨o,e,ex⟩
    ·obtain ⟨_,_,_,_,o,_,_,e,ex,_⟩:=I.hok p _ hk;exact ⟨o,e,ex⟩
   obtain ⟨o,e,ex⟩:=z;refine ⟨⟨o,e,ex.1⟩,fun a e2=>?_⟩;cases e2;exact ⟨o,e,ex.2.1⟩
  ·obtain ⟨o,_,_,_,e,ex,_⟩:=I.hok p _ hk;refine ⟨⟨o,e,ex.1⟩,fun a e2=>?_⟩;cases e2;exact ⟨o,e,ex.2.1⟩
 | _=>exact False.elim ty
noncomputable def tBM0 (K:Frag) (T:String) (r:V->List V->Hp->VK->Prop) (to:TE):TE:=fun σ H Q=>to σ H fun x H1=>tyV K T x H1/\r x [] H1 Q
noncomputable def tBM (K:Frag) (T:String) (r:V->List V->Hp->VK->Prop) (to:TE) (t:TA):TE:=fun σ H Q=>to σ H fun x H1=>tyV K T x H1/\t σ H1 fun xs H2=>r x xs H2 Q
variable {o e:Expr} {es:List Expr} {to:TE} {t:TA} {name:Str} {apos cpos:Pos} {T id:String} {r:V->List V->Hp->VK->Prop}
theorem rM (pa:PlainAttrs T) (slot:Slot T name id) (hty:typeOf (.builtin id)=pure (.type "method_descriptor")) (hm:MtR X id r) (ho:PE X o to)
  (hbase:attributeBase o name X.env (eval o X.env)=eval o X.env:=by rfl) (hline:(apos.endLine == cpos.line)=true:=by rfl):PE X (.Call (.Attribute o name apos) [] [] cpos) (tBM0 X.K T r to):=by
 intro pins s σ H Q I h;refine wpAny_Call_method0_late hbase hline (thn (ho pins s σ H _ I h) fun v s1 ⟨x,H1,I1,r1,ty,q1⟩=>?_);obtain ⟨h1,h2⟩:=nZ I1 r1 ty;exact ⟨T,id,pa,slot,hty,h1,h2,Calls.callWith_builtin rfl (PySem.evalArgs_none (hm pins s1 σ H1 x [] v [] Q I1 r1 .nil q1))⟩
theorem lX (pa:PlainAttrs T) (slot:Slot T name id) (hty:typeOf (.builtin id)=pure (.type "method_descriptor")) (hm:MtR X id r) (ho:PE X o to) (ha:PA X (e::es) t)
  (hbase:attributeBase o name X.env (eval o X.env)=eval o X.env:=by rfl)
  (hfew:((backTo cpos (starEach (e::es) X.env)).all (fun x=>!x.1) && (backToKw cpos (keywordEach [] X.env)).all (fun x=>x.1.isSome)
   && decide ((e::es).length+([]:List Keyword).length+(if ([]:List Keyword).isEmpty then 0 else 1) < 30))=true:=by rfl)
  (hline:(apos.endLine == cpos.line)=true:=by rfl) (hs:starEach (e::es) X.env=(false,eval e X.env)::starEach es X.env:=by rfl) (hplain:(backTo cpos (starEach es X.env)).any (·.1)=false:=by rfl):
  PE X (.Call (.Attribute o name apos) (e::es) [] cpos) (tBM X.K T r to t):=by
 intro pins s σ H Q I h;refine wpAny_Call_method_late hbase hfew hline rfl (thn (ho pins s σ H _ I h) fun v s1 ⟨x,H1,I1,r1,ty,q1⟩=>?_);obtain ⟨h1,h2⟩:=nZ I1 r1 ty;refine ⟨T,id,pa,slot,hty,h1,h2,?_⟩;have hA:=ha cpos pins s1 σ H1 _ I1 q1;rw [hs] at hA ⊢;refine Calls.callWith_builtin (by show (false || (backTo cpos (starEach es X.env)).any (·.1))=false; rw [hplain] <;> rfl) (Calls.evalArgs_plain ?_);exact thn hA fun us s2 ⟨vs,H2,I2,r2,q2⟩=>hm pins s2 σ H2 x vs v us Q I2 r1 r2 q2
end
def MtM (X:Cx) (id:String) (r:V->List V->Hp->VK->Prop):Prop:=
 ∀ (pins:List (Addr × Obj)) (s:Shared) (σ:St) (H:Hp) (x:V) (xs:List V) (v:Value) (us:List Value) (Q:VK),Inv X pins σ H s->RelV x v->Vals xs us->r x xs H Q ->
  wpAny (model X.prog X.w) X.A (call (.builtin id) (v::us)) (EP X pins σ Q) X.xe s
theorem Vals.one:∀ {x:V} {us:List Value},Vals [x] us->∃ u,us=[u]/\RelV x u
 | _,_,.cons r .nil=>⟨_,rfl,r⟩
theorem Vals.two:∀ {x y:V} {us:List Value},Vals [x,y] us->∃ u v,us=[u,v]/\RelV x u/\RelV y v
 | _,_,_,.cons r (.cons q .nil)=>⟨_,_,rfl,r,q⟩
theorem Vals.zero:∀ {us:List Value},Vals [] us->us=[]
 | _,.nil=>rfl
theorem Vals.eraseIdx:∀ {xs:List V} {us:List Value} (i:Nat),Vals xs us->Vals (xs.eraseIdx i) (us.eraseIdx i)
 | _,_,_,.nil=>.nil
 | _,_,0,.cons _ t=>t
 | _,_,i+1,.cons r t=>.cons r (Vals.eraseIdx i t)
theorem Vals.reverse {xs:List V} {us:List Value} (h:Vals xs us):Vals xs.reverse us.reverse:=by
 induction h with
 | nil=>exact .nil
 | cons r t ih=>rw [List.reverse_cons,List.reverse_cons]; exact Vals.append ih (.cons r .nil)
theorem Vals.rep {xs:List V} {us:List Value} (h:Vals xs us):∀ k:Nat,Vals (List.replicate k xs).flatten (List.replicate k us).flatten
 | 0=>.nil
 | k+1=>by
  rw [List.replicate_succ,List.replicate_succ,List.flatten_cons,List.flatten_cons];exact Vals.append h (Vals.rep h k)
theorem jA {α:Type}:∀ (l:List α) (i:Nat),(l.eraseIdx i).length<=l.length
 | [],_=>Nat.le_refl _
 | _::_,0=>Nat.le_succ _
 | _::r,i+1=>Nat.succ_le_succ (jA r i)
theorem jz (its:List Value):∀ (k:Nat) (acc:List Value),
  List.foldl (fun x1 x2=>x1++x2) acc.toArray (List.replicate k its.toArray)=(acc++(List.replicate k its).flatten).toArray
 | 0,acc=>by simp
 | k+1,acc=>by
  have e:acc.toArray++its.toArray=(acc++its).toArray:=by simp
  have e2:(acc++its)++(List.replicate k its).flatten=acc++(List.replicate (k+1) its).flatten:=by
   rw [List.replicate_succ,List.flatten_cons,List.append_assoc]
  rw [<- e2,<- jz its k (acc++its),<- e,List.replicate_succ,List.foldl_cons]
section
variable {X:Cx} {pins:List (Addr × Obj)} {σ:St} {H:Hp} {s:Shared} {l b:Addr} {xs ys zs:List V}
theorem Inv.lset {its its':List Value} {n:Nat} {f:Array Value->Array Value} {t':Nat} (I:Inv X pins σ H s) (hH:H l=some (.lst xs))
  (e:s.heap.get? l=some { cls:=.type "list",data:=.seq its.toArray n }) (hf:f its.toArray=its'.toArray) (hv:Vals ys its') (hz:ys.length<=sizeLine) (ht:0 < t':=by first | assumption | exact Nat.succ_pos _ | (apply Inv.tk; assumption) | omega):
  Inv X pins σ (upd H l (.lst ys)) { s with heap:=s.heap.update l (Obj.mapSeq f),toks:=t' }:=by
 have q:=PySem.IsL.update e f;rw [hf] at q;refine I.write (x:=l) (e:=l) (by rw [hH]; exact trivial) (.inl rfl) (fun b' u hb hu=>(Heap.get?_update_other s.heap (Obj.mapSeq f) (Ne.symm hb)).trans hu) ⟨_,q⟩ ?_;exact ⟨hz,its',_,hv,q⟩
theorem Inv.lnew {its:List Value} {t':Nat} (I:Inv X pins σ H s) (hv:Vals ys its) (hz:ys.length<=sizeLine) (ht:0 < t':=by first | assumption | exact Nat.succ_pos _ | (apply Inv.tk; assumption) | omega):
  Inv X pins σ (upd H s.heap.objs.size (.lst ys)) { s with heap:=s.heap.push { cls:=.type "list",data:=.seq its.toArray },toks:=t' }:=
 I.laid (fun _ _ q=>Heap.get?_push_of_some _ q) (Nat.le_refl _) ⟨hz,its,0,hv,Heap.get?_push_size _ rfl⟩
theorem Inv.fresh (I:Inv X pins σ H s):H s.heap.objs.size=none:=I.hok.fresh (Nat.le_refl _)
theorem Inv.lstM (I:Inv X pins σ H s) (hH:H l=some (.lst xs)):xs.length<=sizeLine/\∃ (its:List Value) (n:Nat),Vals xs its/\xs.length=its.length/\s.heap.get? l=some { cls:=.type "list",data:=.seq its.toArray n }:=by
 obtain ⟨z,its,n,r,e⟩:=I.hok l _ hH;exact ⟨z,its,n,r,r.length,e⟩
theorem notLongL {n:Nat} (h:n<=sizeLine):Builtin.List.listTooLong n=false:=by
 unfold Builtin.List.listTooLong;exact decide_eq_false (by omega)
end
section
variable {X:Cx}
noncomputable def rAppend:V->List V->Hp->VK->Prop:=fun x vs H Q=>∃ l xs y,x=.ref l/\vs=[y]/\H l=some (.lst xs)/\xs.length < sizeLine/\Q .non (upd H l (.lst (xs++[y])))
theorem gS:MtM X "list.append" rAppend:=by
 intro pins s σ H x vs v us Q I rx rv h;obtain ⟨l,xs,y,rfl,rfl,hH,hz,q⟩:=h;cases rx;obtain ⟨u,rfl,ru⟩:=rv.one;obtain ⟨z,its,n,r,hl,e⟩:=I.lstM hH;refine call_meets F.slot_list_append ⟨_,e,rfl⟩ F.entry_list_append (F.args_list_append_2 _ _) (PySem.list_append l its.toArray n u (by rw [List.size_toArray]; omega)) ⟨e,?_⟩;refine ⟨.non,_,I.lset (its':=its++[u]) hH e (by simp) (r.append (.cons ru .nil)) ?_,rfl,q⟩;rw [List.length_append,List.length_singleton];omega
noncomputable def rExtend:V->List V->Hp->VK->Prop:=fun x vs H Q=>∃ l b xs zs,x=.ref l/\vs=[.ref b]/\H l=some (.lst xs)/\H b=some (.lst zs)/\xs.length+zs.length<=sizeLine/\Q .non (upd H l (.lst (xs++zs)))
theorem mH:MtM X "list.extend" rExtend:=by
 intro pins s σ H x vs v us Q I rx rv h;obtain ⟨l,b,xs,zs,rfl,rfl,hH,hB,hz,q⟩:=h;cases rx;obtain ⟨u,rfl,ru⟩:=rv.one;cases ru;obtain ⟨z,its,n,r,hl,e⟩:=I.lstM hH;obtain ⟨z2,its2,n2,r2,hl2,e2⟩:=I.lstM hB;have hsz:its.toArray.size+its2.toArray.size<=sizeLine:=by rw [List.size_toArray,List.size_toArray]; omega
 have hlong:¬ (!its.toArray.isEmpty && Builtin.List.listTooLong (its.toArray.size+its2.toArray.size))=true:=by
  rw [notLongL hsz,Bool.and_false];exact Bool.false_ne_true
 refine call_meets F.slot_list_extend ⟨_,e,rfl⟩ F.entry_list_extend (F.args_list_extend_2 _ _)
  (AutoSeq1.list_extend_list_list_0 l its.toArray n b its2.toArray n2 hlong (by rw [List.size_toArray]; omega) (by omega)) ⟨e,e2,?_⟩
 refine ⟨.non,_,I.lset (its':=its++its2) hH e (by simp) (r.append r2) ?_,rfl,q⟩;rw [List.length_append];omega
noncomputable def rPopAt:V->List V->Hp->VK->Prop:=fun x vs H Q=>∃ l xs i k y,x=.ref l/\vs=[.int i]/\H l=some (.lst xs) /\ -(2 ^ 63)<=i/\i < 2 ^ 63/\seqIndex? i xs.length=some k/\xs[k]? = some y/\Q y (upd H l (.lst (xs.eraseIdx k)))
theorem n9:MtM X "list.pop" rPopAt:=by
 intro pins s σ H x vs v us Q I rx rv h;obtain ⟨l,xs,i,k,y,rfl,rfl,hH,h1,h2,hk,hy,q⟩:=h;cases rx;obtain ⟨u,rfl,ru⟩:=rv.one;obtain ⟨t,rfl⟩:=ru;obtain ⟨z,its,n,r,hl,e⟩:=I.lstM hH;obtain ⟨w,hw,rw'⟩:=r.get hy;refine call_meets F.slot_list_pop ⟨_,e,rfl⟩ F.entry_list_pop (F.args_list_pop_2 _ _)
  (MeetsSeq.list_pop_at l its.toArray n i t k w (fitsIndex_both h1 h2) (by rw [List.size_toArray,<- hl]; exact hk) (by rw [<- Array.getElem?_toList]; exact hw) (by rw [List.size_toArray]; omega)) ⟨e,?_⟩
 refine ⟨y,_,I.lset (its':=its.eraseIdx k) hH e ?_ (r.eraseIdx k) ?_,rw',q⟩
 ·show its.toArray.eraseIdxIfInBounds k=(its.eraseIdx k).toArray;rw [List.eraseIdxIfInBounds_toArray]
 ·have:=jA xs k;omega
noncomputable def rClear:V->List V->Hp->VK->Prop:=fun x vs H Q=>∃ l xs,x=.ref l/\vs=[]/\H l=some (.lst xs)/\Q .non (upd H l (.lst []))
theorem nL:MtM X "list.clear" rClear:=by
 intro pins s σ H x vs v us Q I rx rv h;obtain ⟨l,xs,rfl,rfl,hH,q⟩:=h;cases rx;have hus:=rv.zero;subst hus;obtain ⟨z,its,n,r,hl,e⟩:=I.lstM hH;refine call_meets F.slot_list_clear ⟨_,e,rfl⟩ F.entry_list_clear (F.args_list_clear_1 _) (AutoSeq1.list_clear_list_0 l its.toArray n (by rw [List.size_toArray]; omega)) ⟨e,?_⟩;exact ⟨.non,_,I.lset (its':=[]) (ys:=[]) hH e rfl .nil (Nat.zero_le _),rfl,q⟩
noncomputable def rCat:R2:=fun x y H Q=>∃ l b xs zs,x=.ref l/\y=.ref b/\H l=some (.lst xs)/\H b=some (.lst zs)/\xs.length+zs.length<=sizeLine/\∀ p,H p=none->Q (.ref p) (upd H p (.lst (xs++zs)))
theorem tz:OpR X (binaryOp .Add) rCat:=by
 intro pins s σ H x y v u Q I rx ry h;obtain ⟨l,b,xs,zs,rfl,rfl,hH,hB,hz,q⟩:=h;cases rx;cases ry;obtain ⟨z,its,n,r,hl,e⟩:=I.lstM hH;obtain ⟨z2,its2,n2,r2,hl2,e2⟩:=I.lstM hB;refine PySem.P.add_list e e2 ?_ (by rw [List.size_toArray,List.size_toArray]; omega);have ea:its.toArray++its2.toArray=(its++its2).toArray:=by simp
 rw [ea];exact ⟨.ref _,_,I.lnew (t':=s.toks) (r.append r2) (by rw [List.length_append]; omega),rfl,q _ I.fresh⟩
noncomputable def rRep:R2:=fun x y H Q=>∃ l k xs,x=.ref l/\y=.int k/\H l=some (.lst xs) /\ -(2 ^ 63)<=k/\k < 2 ^ 63/\xs.length*k.toNat<=sizeLine /\
 ∀ p,H p=none->Q (.ref p) (upd H p (.lst (List.replicate k.toNat xs).flatten))
theorem pE {α:Type} (xs:List α) (k:Nat):(List.replicate k xs).flatten.length=k*xs.length:=by
 induction k with
 | zero=>simp
 | succ k ih=>rw [List.replicate_succ,List.flatten_cons,List.length_append,ih,Nat.succ_mul,Nat.add_comm]
theorem rA:OpR X (binaryOp .Mult) rRep:=by
 intro pins s σ H x y v u Q I rx ry h;obtain ⟨l,k,xs,rfl,rfl,hH,h1,h2,hz,q⟩:=h;cases rx;obtain ⟨t,rfl⟩:=ry;obtain ⟨z,its,n,r,hl,e⟩:=I.lstM hH;have hlen:its.toArray.size*k.toNat<=sizeLine:=by rw [List.size_toArray,<- hl]; exact hz
 have hcap:¬ its.toArray.size*k.toNat > (2 ^ 63 - 1) / 8:=by
  have:(sizeLine:Nat)<=(2 ^ 63 - 1) / 8:=by decide
  omega
 have hfit:¬ (!Builtin.List.listFitsIndex k)=true:=by
  rw [fitsIndex_both h1 h2];exact Bool.false_ne_true
 have hlong:¬ Builtin.List.listTooLong (its.toArray.size*k.toNat)=true:=by
  rw [notLongL hlen];exact Bool.false_ne_true
 have hnew:List.foldl (fun x1 x2=>x1++x2) #[] (List.replicate (if its.toArray.isEmpty=true then 0 else k.toNat) its.toArray)=(List.replicate k.toNat its).flatten.toArray:=by
  have f0:∀ m:Nat,List.foldl (fun x1 x2=>x1++x2) #[] (List.replicate m its.toArray)=(List.replicate m its).flatten.toArray:=fun m=>by
   have:=jz its m [];rw [List.nil_append] at this;exact this
  rw [f0];cases its with
  | nil=>simp
  | cons a r'=>rw [if_neg (by simp)]
 refine wpAny_binaryOp_repeat_ref (T := "list") (U := "int") (by decide) ⟨_,e,rfl⟩ (fun s'=>typeIs_int s' k t) noFill_list_mul F.fills_int_mul F.slot_int_rmul repeat_list F.slot_int_index.lookup
  (call_meets F.slot_int_rmul (typeIs_int s k t) F.entry_int_rmul (F.args_int_rmul_2 _ _) (int___rmul___int_list k t l its.toArray n)
   ⟨e,rfl,⟨_,e,rfl⟩,call_meets F.slot_list_mul ⟨_,e,rfl⟩ F.entry_list_mul (F.args_list_mul_2 _ _) (AutoListH.list___mul___list_int_3 l its.toArray n k t hfit hcap hlong) ⟨e,?_⟩⟩)
 rw [hnew];exact ⟨.ref _,_,I.lnew (t':=s.toks) (r.rep k.toNat) (by rw [pE,Nat.mul_comm]; exact hz),rfl,q _ I.fresh⟩
end
section
variable {prog:Program} {w:World} {A:Around} {E:Value->Shared->Prop} {s:Shared}
end
section
variable {X:Cx}
end
end L2
namespace Att
open PySem PySem.W PySem.Calls PyProof.Rows
theorem ic {P:Params} {h:Heap}:∀ (ns:List Int) (vs:List Value),WellAll P h vs (ns.map WData.int)->IntsAre vs ns:=by
 intro ns
 induction ns with
 | nil=>
  intro vs w;rw [List.map_nil] at w;cases w;exact .nil
 | cons n ns ih=>
  intro vs w;rw [List.map_cons] at w;cases w with
  | cons a b=>
   cases a;exact .cons _ _ (ih _ b)
theorem script_of {l:OpenLaw} {n:Nat} (hn:l.most=some n) {P:Params} {h:Heap} {args:List WData} {vals:List Value}
  (hpre:l.row.toRowW.claim.pre args=true) (hwl:WellAll P h vals args):
  ∃ a vs ns,vals=[Value.ref a]/\args=[WData.list (ns.map WData.int)]/\h.get? a=some { cls:=.type "list",data:=.seq vs.toArray }/\IntsAre vs ns/\ns.length<=n:=by
 have hsh:WShape.hasAll [] args [.list .int]=true:=(pre_splitW hpre).1;have hc:l.pre.holds [] { args:=args }=true:=(pre_splitW hpre).2;obtain ⟨d,r,rfl,h1,h2⟩:=hasAllW_cons hsh;obtain rfl:=hasAllW_nil h2;obtain ⟨xs,rfl,h3⟩:=hasW_list h1;obtain ⟨ns,rfl⟩:=items_int h3;have hlen:ns.length<=n:=by
  unfold OpenLaw.pre at hc;have h4:(WTm.not (.lt (.lit (.int (n:Int))) (.len (.arg 0)))).holds [] { args:=[.list (ns.map .int)] }=true:=by
   have h4:=(holds_andW hc).1;rw [hn] at h4;exact h4
  have h5:=condW_of h4 (w_not (w_lt w_lit (w_len_list (w_arg rfl))));rw [List.length_map] at h5;refine Nat.le_of_not_lt fun q=>?_
  have q':(n:Int) < ((ns.length:Nat):Int):=by omega
  first
   | (rw [decide_eq_true q'] at h5; exact absurd h5 (by decide))
   | (simp at h5; omega)
 cases hwl with
 | cons w1 w2=>
  cases w2;cases w1 with
  | list ho hall=>exact ⟨_,_,ns,rfl,rfl,ho,ic ns _ hall,hlen⟩
theorem post_true (l:OpenLaw) (args:List WData):l.row.toRowW.claim.post args (.bool true) args=true:=
 postW_of (r:=l.row.toRowW) (X:=(true == true))
  (show WShape.has [] (.bool true) .bool=true by first | rfl | decide | simp [WShape.has,WShape.arms,WShape.armsAll])
  (show (WTm.eq .res (.lit (.bool true))).value [] { args:=args,res:=some (.bool true),after:=args }=some (.bool (true == true)) from w_eq_bool (w_res rfl) w_lit) rfl
section
variable {prog:Program} {w:World} {A:Around} {E:Value->Shared->Prop} {s:Shared} {K:Frag}
noncomputable def ledger (h:Heap) (L d:Addr):List (Addr × Obj):=(List.range h.objs.size).filterMap fun a=>if a=L\/a=d then none else (h.get? a).map fun o=>(a,o)
end
end Att
namespace L2
open PySem PySem.Spec PyProof.Rows
theorem js:∀ {vs:List Value} {ns:List Int},IntsAre vs ns->Vals (ns.map V.int) vs
 | _,_,.nil=>.nil
 | _,_,.cons n t h=>.cons ⟨t,rfl⟩ (js h)
def Only (H:Hp):Prop:=∀ b,H b=none\/∃ o xs,H b=some (.frz o (.lst xs))
theorem nT {P:Program} {w:World} {K:Frag} {mg mb:Str->Option Value} {CX:CXT} {k:Nat} {fa a:Addr} {fd:FuncData} {x:Str} {sp:Sp} {s₁:Shared} {vs:List Value} {ns:List Int}
  (KX:K.In s₁.heap) (hns:s₁.heap.Ns mainGlobals mg) (hb:s₁.heap.Ns builtinsNs mb) (hbb:∀ x:Str,x ≠ "__name__" -> mb x=bootBuiltins x) (hlim:s₁.heap.NoLimit) (hg:s₁.gens=#[]) (htk:0 < s₁.toks)
  (ha:s₁.heap.get? a=some { cls:=.type "list",data:=.seq vs.toArray }) (hi:IntsAre vs ns) (hl:ns.length<=sizeLine) (hr:Room k callerA)
  (F:∀ base:Heap,K.In base->base.Ns mainGlobals mg->FnOk P w K mg base CX k fa fd [x] sp) (hbind:∀ (s:Shared) (u:Value),BindsTo s fd ⟨[u],[]⟩ [(x,u)])
  (hsp:∀ H:Hp,Only H->SqL K H a (ns.map V.int)->sp [.ref a] H (fun v _=>v=.bl true) fun _ _ _=>False)
  (hCX:∀ H e s',CX [] H s₁ (fun _ _ _=>False) e s'->False):
  codeAny (model P w) callerA (.call (.ref fa) ⟨[.ref a],[]⟩) (fun r s'=>r=.ok (.ret (.bool true))/\OldK s₁.heap s'.heap/\s'.os=s₁.os/\AllBare s'.gens) s₁:=by
 have rv:=js hi;have lenV:=hi.length;have core:∀ H:Hp,Only H->SqL K H a (ns.map V.int)->HOk P w H s₁.heap->(∀ b,H b≠none->b=a)->(H a≠none->K.lookup a=none) ->
   codeAny (model P w) callerA (.call (.ref fa) ⟨[.ref a],[]⟩) (fun r s'=>r=.ok (.ret (.bool true))/\OldK s₁.heap s'.heap/\s'.os=s₁.os/\AllBare s'.gens) s₁:=by
  intro H hO hS hok hA hK;have base_of:∀ {b:Addr} {o:Obj},s₁.heap.get? b=some o->H b=none->(hidT s₁.heap H).get? b=some o:=fun e n=>oX e n
  have noA:∀ {b:Addr} {o:Obj} {es:Array DictEntry} {ep:Nat},s₁.heap.get? b=some o->o.data=.dict es ep->H b=none:=fun {b o es ep} e d=>by
   cases q:H b with
   | none=>rfl
   | some u=>
    have e':b=a:=hA b (by rw [q]; simp);subst e';rw [ha] at e; cases e;have d':Data.seq vs.toArray _=Data.dict es ep:=d;cases d'
  have nsK:∀ {b:Addr} {m:Str->Option Value},s₁.heap.Ns b m->(hidT s₁.heap H).Ns b m:=fun {b m} ⟨o,es,ep,e,d,r⟩=>⟨o,es,ep,base_of e (noA e d),d,r⟩
  have hKb:K.In (hidT s₁.heap H):=fun b o e=>base_of (KX b o e) (by
   cases q:H b with
   | none=>rfl
   | some u=>
    have e':b=a:=hA b (by rw [q]; simp);subst e';rw [hK (by rw [q]; simp)] at e; cases e)
  have hM:Mod K mg (hidT s₁.heap H):=⟨hKb,nsK hns,⟨mb,nsK hb,hbb⟩,let ⟨mc,h1,h2⟩:=hlim; ⟨mc,nsK h1,h2⟩⟩;have e0:Env0 P w K mg (hidT s₁.heap H) callerA [] s₁ H:=⟨rfl,hM,fun b o e=>qV e,Nat.le_of_eq (mv _ _),trivial,fun b hb=>absurd (show b ∈ ([]:List Addr) from hb) (by simp),hok,.of_eq hg,htk⟩;refine codeAny_mono ((F _ hKb (nsK hns)).run callerA [] s₁ H ⟨[.ref a],[]⟩ [.ref a] [.ref a] _ _ hr e0 (hbind s₁ (.ref a)) (.cons rfl .nil) (hsp H hO hS)) fun r s' h=>?_
  cases r with
  | error e=>exact (hCX H e s' h).elim
  | ok fl=>
   cases fl with
   | next=>exact False.elim h
   | brk=>exact False.elim h
   | cont=>exact False.elim h
   | ret u=>
    obtain ⟨v,H',_,os,bare,un,hok',r',q⟩:=h;have q':v=.bl true:=q;subst q';obtain rfl:u=Value.bool true:=r';refine ⟨rfl,OldK.of_keep fun b o e=>?_,os,bare⟩;cases q:H b with
    | none=>exact un.keep b o e q (by intro z; exact absurd (show b ∈ ([]:List Addr) from z) (by simp)) (by simp)
    | some u=>
     rcases hO b with z | ⟨ob,xs,z⟩
     ·rw [q] at z; cases z
     ·have z2:=un.frzs b ob _ z;obtain ⟨e1,_⟩:=hok b _ z;obtain ⟨e2,_⟩:=hok' b _ z2;rw [e] at e1; cases e1;exact e2
 cases hk:K.lookup a with
 | some o=>
  have e:=KX a o hk;rw [ha] at e;cases e;refine core (fun _=>none) (fun _=>.inl rfl) (.inr ⟨_,vs.toArray,_,hk,rfl,rfl,rfl,by rw [List.size_toArray,lenV]; exact hl,by simpa using rv⟩) (fun b u z=>by have z':(none:Option HO)=some u:=z; cases z') (fun b z=>absurd rfl z) fun z=>absurd rfl z
 | none=>
  refine core (fun b=>if b=a then some (.frz { cls:=.type "list",data:=.seq vs.toArray } (.lst (ns.map V.int))) else none) (fun b=>?_) (.inl (.inr ⟨{ cls:=.type "list",data:=.seq vs.toArray },if_pos rfl⟩)) (fun b u z=>?_) (fun b z=>?_) fun _=>hk
  ·by_cases hb:b=a
   ·exact .inr ⟨_,_,if_pos hb⟩
   ·exact .inl (if_neg hb)
  ·by_cases hb:b=a
   ·have z':=(if_pos hb).symm.trans z;cases z';subst hb;exact ⟨ha,by rw [List.length_map]; exact hl,vs,_,rv,ha⟩
   ·have z':=(if_neg hb).symm.trans z;cases z'
  ·by_cases hb:b=a
   ·exact hb
   ·exact absurd (if_neg hb) z
noncomputable abbrev KOf {K:Frag} {h:Heap} (_:K.In h):Frag:=K
theorem jN {l:PySem.W.OpenLaw} {n:Nat} {q:Program} {loose:List Str} {XP:(Str->Option Value)->Heap->Prop} {α:Type} {Yf:Shared->α} {Ya:World->α} {d:DefRec}
  (hn:l.most=some n) (hdf:d.params.defaults=[])
  (call:∀ (w:World) (s₀ s₁:Shared) (mg mb:Str->Option Value) (fa a:Addr) (vs:List Value) (ns:List Int),
   PySem.W.Ground q loose [] XP w s₀ mg mb s₁.heap->Yf s₀ = Ya w->(∀ b o,s₀.heap.get? b=some o->s₁.heap.get? b=some o)->s₀.toks<=s₁.toks->mg d.name=some (.ref fa) ->
   s₁.heap.get? a=some { cls:=.type "list",data:=.seq vs.toArray }->IntsAre vs ns->ns.length<=n->s₁.gens=#[] ->
   codeAny (model l.prog w) callerA (.call (.ref fa) ⟨[.ref a],[]⟩) (fun r s'=>r=.ok (.ret (.bool true))/\OldK s₁.heap s'.heap/\s'.os=s₁.os/\AllBare s'.gens) s₁):
  PySem.W.WalkX q loose XP Yf Ya l.row.toRowW d [] (fun f vs=>PySem.call f vs):=by
 intro w s₀ s₁ mg mb G Y fa o pm cd doc dV kV ho hd hcd hD hmg hg args vals as L hpre hlay hrd hwl hlo;obtain ⟨a,vs,ns,rfl,rfl,hobj,hints,hlen⟩:=Att.script_of hn hpre hwl;have ht:s₀.toks<=s₁.toks:=by
  obtain ⟨ord,_,e⟩:=L.laid;exact (PySem.W.layAllW_grows _ _ _ e).toks
 refine PySem.W.enter_call (codeAny_mono (call w s₀ s₁ mg mb fa a vs ns G Y L.keeps ht hmg hobj hints hlen hg) fun r s' hq=>?_);obtain ⟨rfl,h2,h3,h4⟩:=hq;exact ⟨.inl ⟨.bool true,.bool true,[],rfl,fun _=>rfl,.bool true,Att.post_true l _,fun _=>⟨List.Pairwise.nil,fun _ hm=>(nomatch hm)⟩⟩,h2,h3,h4⟩
theorem walk_ofX {l:PySem.W.OpenLaw} {n k:Nat} {q:Program} {loose:List Str} {XP:(Str->Option Value)->Heap->Prop} {α:Type} {Yf:Shared->α} {Ya:World->α} {d:DefRec} {K:Params->Frag} {CX:World->CXT} {sp:World->Sp} {x:Str}
  (hn:l.most=some n) (hn2:n<=sizeLine) (hdf:d.params.defaults=[]) (hr:Room k callerA)
  (hY:∀ (w:World) (s:Shared),Yf s=Ya w->(K w.params).In s.heap/\0 < s.toks)
  (F:∀ (w:World) (mg:Str->Option Value) (fa:Addr) (h:Heap),(K w.params).In h->h.Ns mainGlobals mg->mg d.name=some (.ref fa) ->
   ∃ fd:FuncData,(∀ (s:Shared) (u:Value),BindsTo s fd ⟨[u],[]⟩ [(x,u)]) /\
    ∀ base:Heap,(K w.params).In base->base.Ns mainGlobals mg->FnOk l.prog w (K w.params) mg base (CX w) k fa fd [x] (sp w))
  (hsp:∀ (w:World) (H:Hp) (a:Addr) (ns:List Int),ns.length<=n->Only H->SqL (K w.params) H a (ns.map V.int)->sp w [.ref a] H (fun v _=>v=.bl true) fun _ _ _=>False)
  (hCX:∀ (w:World) (H:Hp) (s:Shared) (e:Value) (s':Shared),CX w [] H s (fun _ _ _=>False) e s'->False):
  PySem.W.WalkX q loose XP Yf Ya l.row.toRowW d [] (fun f vs=>PySem.call f vs):=by
 refine jN hn hdf fun w s₀ s₁ mg mb fa a vs ns G Y kp ht hmg hobj hints hlen hg=>?_
 obtain ⟨K0,t0⟩:=hY w s₀ Y;have KX:(K w.params).In s₁.heap:=fun b o e=>kp b o (K0 b o e)
 obtain ⟨fd,hb,hF⟩:=F w mg fa _ KX G.T.g hmg;exact nT KX G.T.g G.T.b G.T.builtins G.T.nolimit hg (Nat.lt_of_lt_of_le t0 ht) hobj hints (Nat.le_trans hlen hn2) hr hF hb (fun H hO hS=>hsp w H a ns hlen hO hS) fun H e s'=>hCX w H s₁ e s'
noncomputable def defArgs (s:Stmt):Arguments:=match s with
 | .FunctionDef _ a _ _ _ _ _ _ _ _=>a
 | _=>{ posonlyargs:=[],args:=[],vararg:=none,kwonlyargs:=[],kw_defaults:=[],kwarg:=none,defaults:=[] }
noncomputable def defBody (s:Stmt):List Stmt:=match s with
 | .FunctionDef _ _ b _ _ _ _ _ _ _=>b
 | _=>[]
noncomputable def defScope (s:Stmt):Scope:=match s with
 | .FunctionDef _ _ _ _ _ _ sc _ _ _=>sc
 | _=>{ kind:=.function,names:=[],isGenerator:=false,isCoroutine:=false }
noncomputable abbrev CX0:CXT:=fun _ _ _ _ _ _=>False
noncomputable abbrev E0:XK:=fun _ _ _=>False
theorem pass0 {X:Cx}:Passes CX0 X E0:=fun _ _ _ _ _ _ _ h=>h.elim
structure Fun (K:Frag) (x qual:Str) (st:Stmt) (f:Addr) (fd:FuncData):Prop where
 ex:∃ (oc:Value) (od:Option Addr) (kV doc pm:Value) (an:Option Addr) (cdv ct:Value) (osl:Array (Option Value)),
  fd=fnOf x qual (defArgs st) (defBody st) (defScope st) .none kV doc pm an cdv ct/\K.lookup f=some ⟨oc,od,.func fd,osl⟩/\codeIn K cdv qual=true
 kp:keepIn K (.ref f)=true
section
variable {P:Program} {w:World} {K:Frag} {mg:Str->Option Value} {base:Heap}
theorem Fun.ok {x qual:Str} {st:Stmt} {f:Addr} {fd:FuncData} {N ps:List Str} {k:Nat} {sp:Sp} (F:Fun K x qual st f fd) (S:FnScope N ps (defScope st)) (len:∀ vs H Q E,sp vs H Q E->vs.length=ps.length)
  (hbody:∀ (cdv:Value) (A:Around) (outer:List Env) (s:Shared) (H:Hp) (vs:List V) (Q:VK) (E:XK),Room k (A.deeper (envOfC qual (defScope st) s.heap.objs.size f cdv))->sp vs H Q E ->
   ∃ t,PSs (cxOf CX0 P w K mg base N qual (defScope st) f cdv A outer s H E).nox (defBody st) t/\t { nx:=fun _ H'=>Q .non H',rt:=Q } (start N vs) H):FnOk P w K mg base CX0 (k+1) f fd ps sp:=by
 obtain ⟨oc,od,kV,doc,pm,an,cdv,ct,osl,rfl,lk,hcd⟩:=F.ex;refine qZ lk hcd S len fun A outer s H vs Q E hr hsp=>?_
 obtain ⟨t,h,q⟩:=hbody cdv A outer s H vs Q E hr hsp;exact ⟨t,h.nox,q⟩
theorem Fun.binds {x qual:Str} {st:Stmt} {f:Addr} {fd:FuncData} {ps:List Str} (F:Fun K x qual st f fd)
  (h:∀ (kV doc pm:Value) (an:Option Addr) (cdv ct:Value) (us:List Value),us.length=ps.length->bindArgs (fnOf x qual (defArgs st) (defBody st) (defScope st) .none kV doc pm an cdv ct) ⟨us,[]⟩=pure (ps.zip us)):Binds K fd ps []:=by
 obtain ⟨oc,od,kV,doc,pm,an,cdv,ct,osl,rfl,lk,hcd⟩:=F.ex;exact .all (h kV doc pm an cdv ct)
theorem rj {x qual:Str} {st:Stmt} {f:Addr} {oc:Value} {od an:Option Addr} {osl:Array (Option Value)} {kV doc pm cdv ct:Value} (l:K.lookup f=some ⟨oc,od,.func (fnOf x qual (defArgs st) (defBody st) (defScope st) .none kV doc pm an cdv ct),osl⟩)
  (c:codeIn K cdv qual=true) (k:keepIn K (.ref f)=true):Fun K x qual st f (fnOf x qual (defArgs st) (defBody st) (defScope st) .none kV doc pm an cdv ct):=⟨⟨oc,od,kV,doc,pm,an,cdv,ct,osl,rfl,l,c⟩,k⟩
end
section
variable {X:Cx}
theorem pv (i:Nat) {x:Str} {pos:Pos} (hN:X.N[i]? = some x:=by rfl) (hv:Vis X.env.scope x:=by first | exact Or.inl rfl | exact Or.inr (Or.inl rfl) | exact Or.inr (Or.inr rfl)) (hd:(x == ("__debug__" : Str))=false:=by decide)
  (hcd:(x == ("__classdict__" : Str))=false:=by decide):PE X (.Name x pos) (tVar i):=oF hN hv hd hcd
end
theorem ite2 {c A B:Prop} [Decidable c] (h1:c->A) (h2:¬ c->B):if c then A else B:=by
 by_cases h:c
 ·rw [if_pos h];exact h1 h
 ·rw [if_neg h];exact h2 h
def Same (H H':Hp):Prop:=∀ b o,H b=some o->H' b=some o
theorem Same.refl (H:Hp):Same H H:=fun _ _ h=>h
theorem Same.trans {H H1 H2:Hp} (a:Same H H1) (b:Same H1 H2):Same H H2:=fun c o h=>b c o (a c o h)
theorem Same.free {H H':Hp} (e:Same H H') {l:Addr} (h:H' l=Option.none):H l=Option.none:=by
 cases q:H l with
 | none=>rfl
 | some o=>
  rw [e l o q] at h;cases h
theorem Same.seq {K:Frag} {H H':Hp} {a:Addr} {xs:List V} (e:Same H H') (h:SqL K H a xs):SqL K H' a xs:=by
 rcases h with (h | ⟨o,h⟩) | h
 ·exact .inl (.inl (e _ _ h))
 ·exact .inl (.inr ⟨o,e _ _ h⟩)
 ·exact .inr h
section
variable {X:Cx} {pins:List (Addr × Obj)} {σ:St} {H H':Hp} {s:Shared} {h':Heap}
theorem Inv.turnedL {t':Nat} {its:List Addr} (I:Inv X pins σ H s) (k:∀ b o,b ∉ its->s.heap.get? b=some o->h'.get? b=some o) (hf:∀ b ∈ its,FpOk X pins H b) (ht:0 < t':=by first | assumption | exact Nat.succ_pos _ | (apply Inv.tk; assumption) | omega):Inv X pins σ H { s with heap:=h',toks:=t' }:=by
 have nit:∀ b u,H b=some u->b ∉ its:=fun b u e z=>by
  have q:=(hf b z).1;rw [q] at e;cases e
 refine I.step (g':=s.gens) (d':=s.drawn) (ch:=its) (fun b hb=>?_) (fun b o _ _ hc e _=>k b o hc e) (fun b o _ _ hc e _=>⟨o.slots,k b o hc e⟩) (fun _ _ _ _ n=>n)
  (fun b o hc e=>⟨o,k b o hc e⟩) (fun _ _ e=>e) (fun _ _ _ e=>e) (fun b ps e=>⟨#[],by rw [e]; simp⟩) (fun m hm=>?_) (fun b u e=>?_) I.bare
 ·obtain ⟨f0,f1,f2,f3,f4,f5⟩:=hf b hb;exact ⟨f3,f1,f4,f5⟩
 ·obtain ⟨o,es,ep,ho,r⟩:=hm;exact ⟨o,es,ep,k _ o (fun z=>(hf _ z).2.1 rfl) ho,r⟩
 ·refine (I.hok b u e).stay (fun c v hc q=>k c v ?_ q) (fun _ q=>q) fun _ _ q=>q
  rcases hc with z | z
  ·rw [z]; exact nit b u e
  ·exact nit c _ z
end
theorem lh (x:Str):["enumerate", "zip", "dict_itemiterator", "dict_reverseitemiterator", "odict_iterator", "itertools.zip_longest", "itertools.pairwise"].contains (strIterType x)=false:=by
 unfold strIterType;split <;> decide
section
variable {prog:Program} {w:World} {A:Around} {E:Value->Shared->Prop} {s:Shared}
theorem aY (x:Str):strIterType x = "str_ascii_iterator" \/ strIterType x = "str_iterator" := by
 unfold strIterType;split
 ·exact .inl rfl
 ·exact .inr rfl
theorem jo {it:Addr} {x:Str} {t:Tok} {i c:Nat} {Q:Option Value->Shared->Prop} (hit:s.heap.IsStrIter it (strIterType x) x t i) (hx:x.cps[i]? = some c)
  (hQ:∀ h',h'.IsStrIter it (strIterType x) x t (i+1)->Heap.SameBut it s.heap h'->Q (some (.str ⟨#[c]⟩ s.toks)) { s with heap:=h',toks:=s.toks+1 }):
  wpAny (model prog w) A (pyNext (.ref it)) Q E s:=by
 rcases aY x with e | e
 ·rw [e] at hit;simp only [e] at hQ;exact wpAny_pyNext_ascii_item hit hx hQ
 ·rw [e] at hit;simp only [e] at hQ;exact wpAny_pyNext_wide_item hit hx hQ
theorem jO {it:Addr} {x:Str} {t:Tok} {i:Nat} {Q:Option Value->Shared->Prop} (hh:A.handled=none) (hit:s.heap.IsStrIter it (strIterType x) x t i) (hx:x.cps[i]? = none)
  (hQ:∀ h',Heap.ExtBut it s.heap h'->Q none { s with heap:=h' }):wpAny (model prog w) A (pyNext (.ref it)) Q E s:=by
 rcases aY x with e | e
 ·rw [e] at hit;exact wpAny_pyNext_ascii_end hh hit hx hQ
 ·rw [e] at hit;exact wpAny_pyNext_wide_end hh hit hx hQ
theorem jg {it:Addr} {x:Str} {t:Tok} {i:Nat} {Q:Value->Shared->Prop} (hit:s.heap.IsStrIter it (strIterType x) x t i) (h:Q (.ref it) s):wpAny (model prog w) A (pyIter (.ref it)) Q E s:=by
 rcases aY x with e | e
 ·rw [e] at hit;exact wpAny_pyIter_striter_ascii hit h
 ·rw [e] at hit;exact wpAny_pyIter_striter_wide hit h
theorem ib {it:Addr} {x:Str} {t:Tok} {i c:Nat} {Q:Value->Shared->Prop} (hit:s.heap.IsStrIter it (strIterType x) x t i) (hx:x.cps[i]? = some c)
  (hQ:∀ h',h'.IsStrIter it (strIterType x) x t (i+1)->Heap.SameBut it s.heap h'->Q (.str ⟨#[c]⟩ s.toks) { s with heap:=h',toks:=s.toks+1 }):
  wpAny (model prog w) A (Builtin.SmallTypes.nextOf (.ref it)) Q E s:=by
 rcases aY x with e | e
 ·rw [e] at hit;simp only [e] at hQ;exact wpAny_nextOf_ascii_item hit hx hQ
 ·rw [e] at hit;simp only [e] at hQ;exact wpAny_nextOf_wide_item hit hx hQ
theorem iy {it:Addr} {x:Str} {t:Tok} {i:Nat} {Q:Value->Shared->Prop} (hh:A.handled=none) (hit:s.heap.IsStrIter it (strIterType x) x t i) (hx:x.cps[i]? = none)
  (hE:∀ h' e,Heap.ExtBut it s.heap h'->(∃ o,h'.get? e=some o/\o.cls=.type "StopIteration")->E (.ref e) { s with heap:=h' }):wpAny (model prog w) A (Builtin.SmallTypes.nextOf (.ref it)) Q E s:=by
 rcases aY x with e | e
 ·rw [e] at hit;exact wpAny_nextOf_ascii_end hh hit hx hE
 ·rw [e] at hit;exact wpAny_nextOf_wide_end hh hit hx hE
end
noncomputable def Its (x:Str):It:=⟨fun i _=>i < x.cps.size,fun i H v H'=>H'=H/\∃ c,x.cps[i]? = some c/\v=.str ⟨#[c]⟩,fun i _=>x.cps.size<=i⟩
theorem kM {h:Heap} {it:Addr} {ty:String} {x:Str} {t:Tok} {i:Nat} (st:h.IsStrIter it ty x t i):∃ o,h.get? it=some o/\∀ v,o.data≠.cell v:=by
 obtain ⟨o,e,c,d⟩:=st;exact ⟨o,e,fun v z=>by rw [d] at z; cases z⟩
theorem oo {P:Program} {w:World} {K:Frag} {tg:Expr} (x:Str) (t:Tok) (it:Addr):Turn P w K tg (Its x) [it] it (fun i h=>h.IsStrIter it (strIterType x) x t i) where
 mem:=by simp
 obj:=fun i h st b hb=>by
  have e:b=it:=by simpa using hb
  subst e;exact kM st
 keep:=fun i h h' st k=>by
  obtain ⟨o,e,r⟩:=st;exact ⟨o,k it (by simp) o e,r⟩
 item:=by
  intro X hP hw hK hc i pins s σ H E I hf st hg;subst hP hw hK;have hi:i < x.cps.size:=hg;refine jo st (c:=x.cps[i]) (by simp [hi]) fun h' st' sb=>?_
  have I1:Inv X pins σ H { s with heap:=h',toks:=s.toks+1 }:=I.turnedL (its:=[it]) (fun b o hb e=>(sb.2 b (by simpa using hb)).trans e) hf;obtain ⟨o,e,c,d⟩:=id st';exact ⟨_,rfl,md (s:={ s with heap:=h',toks:=s.toks+1 }) e c d (lh x) ⟨.str ⟨#[x.cps[i]]⟩,H,I1,⟨_,rfl⟩,⟨rfl,_,by simp [hi],rfl⟩,st',fun b hb=>(hf b hb).1⟩⟩
 done:=by
  intro X hP hw hK hc i pins s σ H E I hf st hg;subst hP hw hK;have hi:x.cps.size<=i:=hg;exact jO (I.ok.hd hc) st (by simp [hi]) fun h' eb=>⟨rfl,I.turnedL (t':=s.toks) (its:=[it]) (fun b o hb e=>eb b o (by simpa using hb) e) hf⟩
 self:=fun _ _ _ _ _ st h=>jg st h
section
variable {X:Cx} {tg e:Expr} {te:TE}
end
structure Nx (prog:Program) (w:World) (A:Around) (it:Addr) (f:List Addr) (Sa Sb:Heap->Prop) (P:Value->Prop):Prop where
 fra:∀ h h',Sa h->(∀ b ∈ f,∀ o,h.get? b=some o->h'.get? b=some o)->Sa h'
 frb:∀ h h',Sb h->(∀ b ∈ f,∀ o,h.get? b=some o->h'.get? b=some o)->Sb h'
 step:∀ (s:Shared) (Q:Value->Shared->Prop) (E:Value->Shared->Prop),Sa s.heap->(∀ x h' tk,P x->Sb h'->Heap.SameBut it s.heap h'->Q x { s with heap:=h',toks:=tk })->wpAny (model prog w) A (Builtin.SmallTypes.nextOf (.ref it)) Q E s
structure Nd (prog:Program) (w:World) (A:Around) (it:Addr) (f:List Addr) (Sa:Heap->Prop):Prop where
 fra:∀ h h',Sa h->(∀ b ∈ f,∀ o,h.get? b=some o->h'.get? b=some o)->Sa h'
 step:∀ (s:Shared) (Q:Value->Shared->Prop) (E:Value->Shared->Prop),Sa s.heap->(∀ h' e,Heap.ExtBut it s.heap h'->(∃ o,h'.get? e=some o/\o.cls=.type "StopIteration")->E (.ref e) { s with heap:=h' })->wpAny (model prog w) A (Builtin.SmallTypes.nextOf (.ref it)) Q E s
structure ZAp (z TI TO i1 i2:Addr):Prop where
 TIz:TI≠z
 TOz:TO≠z
 i1z:i1≠z
 i2z:i2≠z
 TITO:TI≠TO
 TIi1:TI≠i1
 TIi2:TI≠i2
 TOi1:TO≠i1
 TOi2:TO≠i2
 i12:i1≠i2
section
variable {prog:Program} {w:World} {A:Around} {E:Value->Shared->Prop} {s:Shared}
theorem eT {z TI TO i1 i2:Addr} {f1 f2:List Addr} {Sa Sb Sc Sd:Heap->Prop} {P1 P2:Value->Prop} {a b:Value} {Q:Value->Shared->Prop} (D:ZAp z TI TO i1 i2)
  (n1:Nx prog w A i1 f1 Sa Sb P1) (n2:Nx prog w A i2 f2 Sc Sd P2) (hf1:∀ c ∈ f1,c≠z/\c≠TO/\c≠i2) (hf2:∀ c ∈ f2,c≠z/\c≠TO/\c≠i1)
  (hz:IsZip s.heap z TI TO .none) (hTI:IsPair s.heap TI (.ref i1) (.ref i2)) (hTO:IsPair s.heap TO a b) (h1:Sa s.heap) (h2:Sc s.heap)
  (hQ:∀ x y h' tk,P1 x->P2 y->IsZip h' z TI TO (rawInt s.heap.objs.size)->IsPair h' TO x y->Sb h'->Sd h'->IsPair h' s.heap.objs.size x y->h'.objs.size=s.heap.objs.size+1 ->
   (∀ c o,c≠z->c≠TO->c≠i1->c≠i2->s.heap.get? c=some o->h'.get? c=some o)->Q (.ref s.heap.objs.size) { s with heap:=h',toks:=tk }):
  wpAny (model prog w) A (Builtin.«zip.__next__» ⟨[.ref z],[]⟩) (fun fin s'=>∃ v,fin=.done (.ret v)/\Q v s') E s:=by
 obtain ⟨hp,gs,dr,k0,os⟩:=s;refine wpAny_bind (m:=slotArgs "__next__" 0 _) (wpAny_of_eq (a:=(Value.ref _,[])) rfl ?_);refine wpAny_bind (m:=field _ 2) (wpAny_field hz rfl (x:=Value.bool false) rfl (wpAny_bind (m:=field _ 3) (wpAny_field hz rfl (x:=Value.ref TI) rfl (wpAny_bind (m:=seqItems? _) (wpAny_seqItems hTI rfl ?_)))));refine wpAny_bind (m:=Builtin.SmallTypes.ownedTupleIsFree _) (wpAny_bind (wpAny_field hz rfl (x:=Value.none) rfl (wpAny_pure ?_)));refine wpAny_bind (wpAny_rule (wpAny_bind (wpAny_field hz rfl (x:=Value.ref TO) rfl (wpAny_bind (wpAny_setField_rec hz (by simp) fun g1 zg sg=>wpAny_bind ?_)))));simp only [List.zipIdx_cons,List.zipIdx_nil,List.forIn_cons,List.forIn_nil];have zg:IsZip g1 z TI TO .ellipsis:=zg;have sg:Heap.SameBut z hp g1:=sg;refine wpAny_bind (wpAny_bind (wpAny_onRaise (wpAny_bind (m:=Builtin.SmallTypes.nextOf (.ref i1)) (n1.step _ _ _ (n1.fra hp g1 h1 fun c hc o=>sg.extBut _ _ (hf1 c hc).1) fun x g2 k1 p1 b2 t2=>wpAny_pure ?_))));have t2:Heap.SameBut i1 g1 g2:=t2;have o2:IsPair g2 TO a b:=t2.extBut _ _ D.TOi1 (sg.extBut _ _ D.TOz hTO);refine wpAny_bind (wpAny_seqItems o2 rfl (wpAny_bind (wpAny_updateSeq_pair o2 fun g3 o3 t3=>wpAny_bind (wpAny_letGo (wpAny_pure ?_)))));have o3:IsPair g3 TO x b:=o3;have t3:Heap.SameBut TO g2 g3:=t3;have to3:∀ c o,c≠z->c≠TO->c≠i1->hp.get? c=some o->g3.get? c=some o:=fun c o e1 e2 e3 q=>t3.extBut _ _ e2 (t2.extBut _ _ e3 (sg.extBut _ _ e1 q))
 refine wpAny_bind (wpAny_bind (wpAny_onRaise (wpAny_bind (m:=Builtin.SmallTypes.nextOf (.ref i2)) (n2.step _ _ _ (n2.fra hp g3 h2 fun c hc o=>to3 c o (hf2 c hc).1 (hf2 c hc).2.1 (hf2 c hc).2.2) fun y g4 k2 p2 b4 t4=>wpAny_pure ?_))));have t4:Heap.SameBut i2 g3 g4:=t4;have o4:IsPair g4 TO x b:=t4.extBut _ _ D.TOi2 o3;refine wpAny_bind (wpAny_seqItems o4 rfl (wpAny_bind (wpAny_updateSeq_pair o4 fun g5 o5 t5=>wpAny_bind (wpAny_letGo (wpAny_pure (wpAny_pure ?_))))));have o5:IsPair g5 TO x y:=o5;have t5:Heap.SameBut TO g4 g5:=t5;have size5:g5.objs.size=hp.objs.size:=t5.1.trans (t4.1.trans (t3.1.trans (t2.1.trans sg.1)));have z5:IsZip g5 z TI TO .ellipsis:=t5.extBut _ _ D.TOz.symm (t4.extBut _ _ D.i2z.symm (t3.extBut _ _ D.TOz.symm (t2.extBut _ _ D.i1z.symm zg)));have zlt:z < g5.objs.size:=Heap.lt_size z5;refine wpAny_bind (wpAny_seqItems o5 rfl (wpAny_bind (wpAny_newTuple (wpAny_bind (m:=Builtin.SmallTypes.ownedTupleHandOut _ _) ?_))));refine wpAny_bind (wpAny_setField_rec (Heap.get?_push_of_some _ z5) (by simp) fun g6 z6 t6=>wpAny_setField_rec z6 (by simp) fun g7 z7 t7=>wpAny_pure ⟨_,rfl,?_⟩);have t6:Heap.SameBut z (g5.push { cls:=.type "tuple",data:=.seq #[x,y] }) g6:=t6;have t7:Heap.SameBut z g6 g7:=t7;have z7:IsZip g7 z TI TO (rawInt g5.objs.size):=z7;have over:∀ c o,c≠z->g5.get? c=some o->g7.get? c=some o:=fun c o e q=>t7.extBut _ _ e (t6.extBut _ _ e (Heap.get?_push_of_some _ q))
 have pair7:IsPair g7 g5.objs.size x y:=t7.extBut _ _ (Nat.ne_of_gt zlt) (t6.extBut _ _ (Nat.ne_of_gt zlt) (Heap.get?_push_size _ rfl));have size7:g7.objs.size=g5.objs.size+1:=t7.1.trans (t6.1.trans (Heap.size_push ..));show Q (.ref g5.objs.size) _;rw [size5] at z7 pair7 size7 ⊢;refine hQ x y g7 k2 p1 p2 z7 (over _ _ D.TOz o5) (n1.frb g2 g7 b2 fun c hc o q=>?_) (n2.frb g4 g7 b4 fun c hc o q=>?_) pair7 size7 fun c o e1 e2 e3 e4 q=>over c o e1 (t5.extBut _ _ e2 (t4.extBut _ _ e4 (to3 c o e1 e2 e3 q)))
 ·obtain ⟨e1,e2,e3⟩:=hf1 c hc;exact over c o e1 (t5.extBut _ _ e2 (t4.extBut _ _ e3 (t3.extBut _ _ e2 q)))
 ·obtain ⟨e1,e2,_⟩:=hf2 c hc;exact over c o e1 (t5.extBut _ _ e2 q)
theorem fN {z TI TO i1 i2:Addr} {f1:List Addr} {Sa:Heap->Prop} {Q:Fin->Shared->Prop} (D:ZAp z TI TO i1 i2)
  (n1:Nd prog w A i1 f1 Sa) (hf1:∀ c ∈ f1,c≠z/\c≠TO/\c≠i2)
  (hz:IsZip s.heap z TI TO .none) (hTI:IsPair s.heap TI (.ref i1) (.ref i2)) (h1:Sa s.heap)
  (hE:∀ h' e tk,(∀ c o,c≠z->c≠TO->c≠i1->c≠i2->s.heap.get? c=some o->h'.get? c=some o)->(∃ o,h'.get? e=some o/\o.cls=.type "StopIteration")->E (.ref e) { s with heap:=h',toks:=tk }):
  wpAny (model prog w) A (Builtin.«zip.__next__» ⟨[.ref z],[]⟩) Q E s:=by
 obtain ⟨hp,gs,dr,k0,os⟩:=s;refine wpAny_bind (m:=slotArgs "__next__" 0 _) (wpAny_of_eq (a:=(Value.ref _,[])) rfl ?_);refine wpAny_bind (m:=field _ 2) (wpAny_field hz rfl (x:=Value.bool false) rfl (wpAny_bind (m:=field _ 3) (wpAny_field hz rfl (x:=Value.ref TI) rfl (wpAny_bind (m:=seqItems? _) (wpAny_seqItems hTI rfl ?_)))));refine wpAny_bind (m:=Builtin.SmallTypes.ownedTupleIsFree _) (wpAny_bind (wpAny_field hz rfl (x:=Value.none) rfl (wpAny_pure ?_)));refine wpAny_bind (wpAny_rule (wpAny_bind (wpAny_field hz rfl (x:=Value.ref TO) rfl (wpAny_bind (wpAny_setField_rec hz (by simp) fun g1 zg sg=>wpAny_bind ?_)))));simp only [List.zipIdx_cons,List.zipIdx_nil,List.forIn_cons,List.forIn_nil];have zg:IsZip g1 z TI TO .ellipsis:=zg;have sg:Heap.SameBut z hp g1:=sg;refine wpAny_bind (wpAny_bind (wpAny_onRaise (wpAny_bind (m:=Builtin.SmallTypes.nextOf (.ref i1)) (n1.step _ _ _ (n1.fra hp g1 h1 fun c hc o=>sg.extBut _ _ (hf1 c hc).1) fun g2 e t2 ⟨oe,qe,ce⟩=>?_))));have t2:Heap.ExtBut i1 g1 g2:=t2;have z2:IsZip g2 z TI TO .ellipsis:=t2 _ _ D.i1z.symm zg;have ne:e≠z:=fun q=>by subst q; rw [z2] at qe; cases qe; simp at ce
 refine wpAny_setField_rec z2 (by simp) fun g3 _ t3=>?_
 have t3:Heap.SameBut z g2 g3:=t3;exact hE g3 e k0 (fun c o e1 _ e3 _ q=>t3.extBut _ _ e1 (t2 _ _ e3 (sg.extBut _ _ e1 q))) ⟨oe,t3.extBut _ _ ne qe,ce⟩
theorem fK {z TI TO i1 i2:Addr} {f1 f2:List Addr} {Sa Sb Sc:Heap->Prop} {P1:Value->Prop} {a b:Value} {Q:Fin->Shared->Prop} (D:ZAp z TI TO i1 i2)
  (n1:Nx prog w A i1 f1 Sa Sb P1) (n2:Nd prog w A i2 f2 Sc) (hf1:∀ c ∈ f1,c≠z/\c≠TO/\c≠i2) (hf2:∀ c ∈ f2,c≠z/\c≠TO/\c≠i1)
  (hz:IsZip s.heap z TI TO .none) (hTI:IsPair s.heap TI (.ref i1) (.ref i2)) (hTO:IsPair s.heap TO a b) (h1:Sa s.heap) (h2:Sc s.heap)
  (hE:∀ h' e tk,(∀ c o,c≠z->c≠TO->c≠i1->c≠i2->s.heap.get? c=some o->h'.get? c=some o)->(∃ o,h'.get? e=some o/\o.cls=.type "StopIteration")->E (.ref e) { s with heap:=h',toks:=tk }):
  wpAny (model prog w) A (Builtin.«zip.__next__» ⟨[.ref z],[]⟩) Q E s:=by
 obtain ⟨hp,gs,dr,k0,os⟩:=s;refine wpAny_bind (m:=slotArgs "__next__" 0 _) (wpAny_of_eq (a:=(Value.ref _,[])) rfl ?_);refine wpAny_bind (m:=field _ 2) (wpAny_field hz rfl (x:=Value.bool false) rfl (wpAny_bind (m:=field _ 3) (wpAny_field hz rfl (x:=Value.ref TI) rfl (wpAny_bind (m:=seqItems? _) (wpAny_seqItems hTI rfl ?_)))));refine wpAny_bind (m:=Builtin.SmallTypes.ownedTupleIsFree _) (wpAny_bind (wpAny_field hz rfl (x:=Value.none) rfl (wpAny_pure ?_)));refine wpAny_bind (wpAny_rule (wpAny_bind (wpAny_field hz rfl (x:=Value.ref TO) rfl (wpAny_bind (wpAny_setField_rec hz (by simp) fun g1 zg sg=>wpAny_bind ?_)))));simp only [List.zipIdx_cons,List.zipIdx_nil,List.forIn_cons,List.forIn_nil];have zg:IsZip g1 z TI TO .ellipsis:=zg;have sg:Heap.SameBut z hp g1:=sg;refine wpAny_bind (wpAny_bind (wpAny_onRaise (wpAny_bind (m:=Builtin.SmallTypes.nextOf (.ref i1)) (n1.step _ _ _ (n1.fra hp g1 h1 fun c hc o=>sg.extBut _ _ (hf1 c hc).1) fun x g2 k1 p1 b2 t2=>wpAny_pure ?_))));have t2:Heap.SameBut i1 g1 g2:=t2;have o2:IsPair g2 TO a b:=t2.extBut _ _ D.TOi1 (sg.extBut _ _ D.TOz hTO);refine wpAny_bind (wpAny_seqItems o2 rfl (wpAny_bind (wpAny_updateSeq_pair o2 fun g3 _ t3=>wpAny_bind (wpAny_letGo (wpAny_pure ?_)))));have t3:Heap.SameBut TO g2 g3:=t3;have to3:∀ c o,c≠z->c≠TO->c≠i1->hp.get? c=some o->g3.get? c=some o:=fun c o e1 e2 e3 q=>t3.extBut _ _ e2 (t2.extBut _ _ e3 (sg.extBut _ _ e1 q))
 refine wpAny_bind (wpAny_bind (wpAny_onRaise (wpAny_bind (m:=Builtin.SmallTypes.nextOf (.ref i2)) (n2.step _ _ _ (n2.fra hp g3 h2 fun c hc o=>to3 c o (hf2 c hc).1 (hf2 c hc).2.1 (hf2 c hc).2.2) fun g4 e t4 ⟨oe,qe,ce⟩=>?_))));have t4:Heap.ExtBut i2 g3 g4:=t4;have z4:IsZip g4 z TI TO .ellipsis:=t4 _ _ D.i2z.symm (t3.extBut _ _ D.TOz.symm (t2.extBut _ _ D.i1z.symm zg));have ne:e≠z:=fun q=>by subst q; rw [z4] at qe; cases qe; simp at ce
 refine wpAny_setField_rec z4 (by simp) fun g5 _ t5=>?_
 have t5:Heap.SameBut z g4 g5:=t5;exact hE g5 e k1 (fun c o e1 e2 e3 e4 q=>t5.extBut _ _ e1 (t4 _ _ e4 (to3 c o e1 e2 e3 q))) ⟨oe,t5.extBut _ _ ne qe,ce⟩
theorem eI {z:Addr} {o:Obj} {Q:Option Value->Shared->Prop} (hz:s.heap.get? z=some o) (hc:o.cls=.type "zip")
  (h:wpAny (model prog w) A.in1 (Builtin.«zip.__next__» ⟨[.ref z],[]⟩) (fun fin s'=>∃ v,fin=.done (.ret v)/\Q (some v) s') (fun _ _=>False) s):wpAny (model prog w) A (pyNext (.ref z)) Q E s:=by
 have hT:s.TypeIs (.ref z) "zip" := ⟨_,hz,hc⟩;unfold pyNext;exact wpAny_bind (wpAny_attempt (wpAny_callSpecial?_slot (name:=Str.ofString "__next__") hT F.slot_zip_next
  (wpAny_call_entry F.slot_zip_next hT F.entry_zip_next (wpAny_mono h (fun fin s' ⟨v,e,q⟩=>⟨v,e,wpAny_pure q⟩) fun _ _ f=>f.elim) (F.args_zip_next_1 _))))
theorem cg {z:Addr} {o:Obj} {Q:Option Value->Shared->Prop} (hz:s.heap.get? z=some o) (hc:o.cls=.type "zip")
  (h:wpAny (model prog w) A.in1 (Builtin.«zip.__next__» ⟨[.ref z],[]⟩) (fun _ _=>False) (fun e s'=>∃ a,e=.ref a/\(∃ o,s'.heap.get? a=some o/\o.cls=.type "StopIteration")/\Q none s') s):wpAny (model prog w) A (pyNext (.ref z)) Q E s:=by
 have hT:s.TypeIs (.ref z) "zip" := ⟨_,hz,hc⟩;unfold pyNext;refine wpAny_bind (wpAny_attempt (wpAny_callSpecial?_slot (name:=Str.ofString "__next__") hT F.slot_zip_next
  (wpAny_call_entry F.slot_zip_next hT F.entry_zip_next (wpAny_mono h (fun _ _ f=>f.elim) fun e s' he=>?_) (F.args_zip_next_1 _))))
 obtain ⟨a,rfl,⟨o,ho,hc⟩,q⟩:=he;refine wpAny_bind (wpAny_isInstance (T := "StopIteration") (b:=true) ⟨o,ho,hc⟩ isSubtype_stop ?_);exact wpAny_pure q
end
inductive Src where
 | str (x:Str) | lst (a:Addr)
noncomputable def SrcGo (K:Frag) (H:Hp):Src->Nat->Prop
 | .str x,i=>i < x.cps.size
 | .lst a,i=>∃ xs v,SqL K H a xs/\xs[i]? = some v
noncomputable def SrcAt (K:Frag) (H:Hp):Src->Nat->V->Prop
 | .str x,i,v=>∃ c,x.cps[i]? = some c/\v=.str ⟨#[c]⟩
 | .lst a,i,v=>∀ xs,SqL K H a xs->xs[i]? = some v
noncomputable def SrcEnd (K:Frag) (H:Hp):Src->Nat->Prop
 | .str x,i=>x.cps.size<=i
 | .lst a,i=>∃ xs,SqL K H a xs/\xs.length<=i
noncomputable def SrcIt (h:Heap):Src->Addr->Nat->Prop
 | .str x,it,i=>∃ t,h.IsStrIter it (strIterType x) x t i
 | .lst a,it,i=>h.IsListIter it a i
noncomputable def SrcOf (K:Frag) (H:Hp):Src->V->Prop
 | .str x,v=>v=.str x
 | .lst a,v=>v=.ref a/\∃ xs,SqL K H a xs
theorem SrcIt.obj {h:Heap} {S:Src} {it:Addr} {i:Nat} (st:SrcIt h S it i):∃ o,h.get? it=some o/\(∀ v,o.data≠.cell v)/\o.cls≠.type "list" /\ o.cls≠.type "zip" /\ o.cls≠.type "tuple" := by
 cases S with
 | str x=>
  obtain ⟨t,o,e,c,d⟩:=st;refine ⟨o,e,(fun v z=>by rw [d] at z; cases z),?_⟩;rw [c];rcases aY x with q | q <;> rw [q] <;> decide
 | lst a=>
  obtain ⟨o,e,c,d⟩:=(show h.IsListIter it a i from st);refine ⟨o,e,(fun v z=>by rw [d] at z; cases z),?_⟩;rw [c];decide
theorem SrcIt.keep {h h':Heap} {S:Src} {it:Addr} {i:Nat} (st:SrcIt h S it i) (k:∀ o,h.get? it=some o->h'.get? it=some o):SrcIt h' S it i:=by
 cases S with
 | str x=>
  obtain ⟨t,o,e,r⟩:=st;exact ⟨t,o,k o e,r⟩
 | lst a=>exact Heap.IsListIter.at (show h.IsListIter it a i from st) k
section
variable {X:Cx} {pins:List (Addr × Obj)} {σ:St} {H:Hp} {s:Shared} {A:Around}
theorem lI (I:Inv X pins σ H s) (S:Src) {it:Addr} {i:Nat} (st:SrcIt s.heap S it i) (go:SrcGo X.K H S i):
  ∃ (f:List Addr) (Sa Sb:Heap->Prop) (P:Value->Prop),Nx X.prog X.w A it f Sa Sb P/\Sa s.heap/\(∀ c ∈ f,c=it\/∃ o,s.heap.get? c=some o/\o.cls=.type "list")/\(∀ h,Sb h->SrcIt h S it (i+1))/\∀ v,P v->∃ x,RelV x v/\SrcAt X.K H S i x:=by
 cases S with
 | str x=>
  obtain ⟨t,st⟩:=st;have hi:i < x.cps.size:=go;refine ⟨[it],fun h=>h.IsStrIter it (strIterType x) x t i,fun h=>h.IsStrIter it (strIterType x) x t (i+1),fun v=>∃ u,v=.str ⟨#[x.cps[i]]⟩ u,⟨?_,?_,?_⟩,st,fun c hc=>.inl (by simpa using hc),fun h q=>⟨t,q⟩,?_⟩
  ·rintro h h' ⟨o,e,r⟩ k;exact ⟨o,k it (by simp) o e,r⟩
  ·rintro h h' ⟨o,e,r⟩ k;exact ⟨o,k it (by simp) o e,r⟩
  ·intro s Q E st hQ;exact ib st (c:=x.cps[i]) (by simp [hi]) fun h' st' sb=>hQ _ h' _ ⟨_,rfl⟩ st' sb
  ·rintro v ⟨u,rfl⟩;exact ⟨.str ⟨#[x.cps[i]]⟩,⟨u,rfl⟩,_,by simp [hi],rfl⟩
 | lst a=>
  obtain ⟨xs,v,hq,hv⟩:=go;obtain ⟨its,rv,pl,hz⟩:=I.list hq;obtain ⟨u,hu,ru⟩:=rv.get hv;have st':s.heap.IsListIter it a i:=st;obtain ⟨o,e,c,n,hd⟩:=id pl.isList;have hne:a≠it:=by
   rintro rfl;obtain ⟨o',e',c',_⟩:=st';rw [e] at e';cases e';rw [c] at c';exact absurd c' (by decide)
  refine ⟨[it,a],fun h=>h.IsListIter it a i/\h.IsList a its.toArray,fun h=>h.IsListIter it a (i+1)/\h.IsList a its.toArray,fun z=>z=u,⟨?_,?_,?_⟩,⟨st',pl.isList⟩,?_,fun h q=>q.1,?_⟩
  ·rintro h h' ⟨s1,s2⟩ k;exact ⟨s1.at fun o e=>k it (by simp) o e,s2.at fun o e=>k a (by simp) o e⟩
  ·rintro h h' ⟨s1,s2⟩ k;exact ⟨s1.at fun o e=>k it (by simp) o e,s2.at fun o e=>k a (by simp) o e⟩
  ·intro s Q E st hQ;exact wpAny_nextOf_list_item st.1 st.2 (x:=u) (by simpa using hu) fun h' st' sb=>hQ _ h' s.toks rfl ⟨st',st.2.extBut sb.extBut hne⟩ sb
  ·intro c' hc;rcases (by simpa using hc:c'=it\/c'=a) with z | z
   ·exact .inl z
   ·subst z;exact .inr ⟨o,e,c⟩
  ·rintro z rfl;exact ⟨v,ru,fun ys hy=>by rw [I.list_inj hy hq]; exact hv⟩
theorem o0 (I:Inv X pins σ H s) (hh:A.handled=none) (S:Src) {it:Addr} {i:Nat} (st:SrcIt s.heap S it i) (en:SrcEnd X.K H S i):
  ∃ (f:List Addr) (Sa:Heap->Prop),Nd X.prog X.w A it f Sa/\Sa s.heap/\(∀ c ∈ f,c=it\/∃ o,s.heap.get? c=some o/\o.cls=.type "list"):=by
 cases S with
 | str x=>
  obtain ⟨t,st⟩:=st;have hi:x.cps.size<=i:=en;refine ⟨[it],fun h=>h.IsStrIter it (strIterType x) x t i,⟨?_,?_⟩,st,fun c hc=>.inl (by simpa using hc)⟩
  ·rintro h h' ⟨o,e,r⟩ k;exact ⟨o,k it (by simp) o e,r⟩
  ·intro s Q E st hE;exact iy hh st (by simp [hi]) hE
 | lst a=>
  obtain ⟨xs,hq,hv⟩:=en;obtain ⟨its,rv,pl,hz⟩:=I.list hq;have st':s.heap.IsListIter it a i:=st;obtain ⟨o,e,c,n,hd⟩:=id pl.isList;have hl:=rv.length;refine ⟨[it,a],fun h=>h.IsListIter it a i/\h.IsList a its.toArray,⟨?_,?_⟩,⟨st',pl.isList⟩,?_⟩
  ·rintro h h' ⟨s1,s2⟩ k;exact ⟨s1.at fun o e=>k it (by simp) o e,s2.at fun o e=>k a (by simp) o e⟩
  ·intro s Q E st hE;exact wpAny_nextOf_list_end hh st.1 st.2 (by simp; omega) hE
  ·intro c' hc;rcases (by simpa using hc:c'=it\/c'=a) with z | z
   ·exact .inl z
   ·subst z;exact .inr ⟨o,e,c⟩
theorem Inv.turnedLaid {t':Nat} {its:List Addr} {h':Heap} {a:Addr} {o:HO} (I:Inv X pins σ H s) (k:∀ b ob,b ∉ its->s.heap.get? b=some ob->h'.get? b=some ob) (hf:∀ b ∈ its,FpOk X pins H b) (hp:s.heap.objs.size<=a)
  (new:ObjOk X.prog X.w (upd H a o) h' a o) (ht:0 < t':=by first | assumption | exact Nat.succ_pos _ | (apply Inv.tk; assumption) | omega):Inv X pins σ (upd H a o) { s with heap:=h',toks:=t' }:=by
 have hn:H a=none:=I.hok.fresh hp;have nit:∀ b u,H b=some u->b ∉ its:=fun b u e z=>by
  have q:=(hf b z).1;rw [q] at e;cases e
 have nea:∀ b ob,s.heap.get? b=some ob->b≠a:=fun b ob e=>Nat.ne_of_lt (Nat.lt_of_lt_of_le (Heap.lt_size e) hp)
 refine I.step (g':=s.gens) (d':=s.drawn) (ch:=its) (fun b hb=>?_) (fun b o _ _ hc e _=>k b o hc e) (fun b o _ _ hc e _=>⟨o.slots,k b o hc e⟩) (fun b ob _ e n=>by rw [au (nea b ob e)]; exact n)
  (fun b o hc e=>⟨o,k b o hc e⟩) (fun _ _ e=>by rw [au (bc e hn)]; exact e) (fun _ _ _ e=>by rw [au (bc e hn)]; exact e) (fun b ps e=>⟨#[],by rw [au (bc e hn),e]; simp⟩) (fun m hm=>?_) (fun b u e=>?_) I.bare
 ·obtain ⟨f0,f1,f2,f3,f4,f5⟩:=hf b hb;exact ⟨f3,f1,f4,f5⟩
 ·obtain ⟨o,es,ep,ho,r⟩:=hm;exact ⟨o,es,ep,k _ o (fun z=>(hf _ z).2.1 rfl) ho,r⟩
 ·by_cases hb:b=a
  ·subst hb;rw [upd_same] at e;cases e;exact new
  ·rw [au hb] at e;refine (I.hok b u e).stay (fun c v hc q=>k c v ?_ q) (fun c q=>by rw [au (bc q hn)]; exact q) fun c xs q=>by rw [au (bc q hn)]; exact q
   rcases hc with z | z
   ·rw [z]; exact nit b u e
   ·exact nit c _ z
end
noncomputable def Itz (K:Frag) (S1 S2:Src):It:=⟨fun i H=>SrcGo K H S1 i/\SrcGo K H S2 i,fun i H v H'=>∃ T x y,v=.ref T/\H T=none/\H'=upd H T (.tup [x,y])/\SrcAt K H S1 i x/\SrcAt K H S2 i y,
 fun i H=>SrcEnd K H S1 i\/(SrcGo K H S1 i/\SrcEnd K H S2 i)⟩
def ZipSt (z TI TO i1 i2:Addr) (S1 S2:Src) (i:Nat) (h:Heap):Prop:=∃ a b,IsZip h z TI TO .none/\IsPair h TI (.ref i1) (.ref i2)/\IsPair h TO a b/\SrcIt h S1 i1 i/\SrcIt h S2 i2 i
theorem iE {h:Heap} {f:List Addr} {z TI TO i1 i2:Addr} {a b:Value} {S2:Src} {k:Nat} (hz:IsZip h z TI TO .none) (hTO:IsPair h TO a b) (h2:SrcIt h S2 i2 k) (n1:i1≠z) (n2:i1≠TO) (n3:i1≠i2)
  (m:∀ c ∈ f,c=i1\/∃ o,h.get? c=some o/\o.cls=.type "list"):∀ c ∈ f,c≠z/\c≠TO/\c≠i2:=fun c hc=>by
 rcases m c hc with e | ⟨o,e,c1⟩
 ·subst e;exact ⟨n1,n2,n3⟩
 ·refine ⟨?_,?_,?_⟩
  ·rintro rfl;rw [hz] at e;cases e;exact absurd (show Value.type "zip" = Value.type "list" from c1) (by decide)
  ·rintro rfl;rw [hTO] at e;cases e;exact absurd (show Value.type "tuple" = Value.type "list" from c1) (by decide)
  ·rintro rfl;obtain ⟨o',e',_,q,_⟩:=h2.obj;rw [e] at e';cases e';exact q c1
theorem oI {P:Program} {w:World} {K:Frag} {elts:List Expr} {kk:Nat} {pos:Pos} {z TI TO i1 i2:Addr} (D:ZAp z TI TO i1 i2) (S1 S2:Src):
  Turn P w K (.Tuple elts kk pos) (Itz K S1 S2) [z,TI,TO,i1,i2] z (ZipSt z TI TO i1 i2 S1 S2) where
 mem:=by simp
 obj:=fun i h st b hb=>by
  obtain ⟨a,c,hz,hTI,hTO,h1,h2⟩:=st;simp only [List.mem_cons,List.not_mem_nil,or_false] at hb;rcases hb with rfl | rfl | rfl | rfl | rfl
  ·exact ⟨_,hz,fun v q=>by have q':Data.fields _=Data.cell v:=q; cases q'⟩
  ·exact ⟨_,hTI,fun v q=>by have q':Data.seq _ _=Data.cell v:=q; cases q'⟩
  ·exact ⟨_,hTO,fun v q=>by have q':Data.seq _ _=Data.cell v:=q; cases q'⟩
  ·obtain ⟨o,e,q,_⟩:=h1.obj;exact ⟨o,e,q⟩
  ·obtain ⟨o,e,q,_⟩:=h2.obj;exact ⟨o,e,q⟩
 keep:=fun i h h' st k=>by
  obtain ⟨a,c,hz,hTI,hTO,h1,h2⟩:=st;exact ⟨a,c,k z (by simp) _ hz,k TI (by simp) _ hTI,k TO (by simp) _ hTO,h1.keep fun o e=>k i1 (by simp) o e,h2.keep fun o e=>k i2 (by simp) o e⟩
 item:=by
  intro X hP hw hK hc i pins s σ H E I hf st hg;subst hP hw hK;obtain ⟨a,b,hz,hTI,hTO,h1,h2⟩:=st;obtain ⟨g1,g2⟩:=hg;obtain ⟨f1,Sa,Sb,P1,n1,a1,m1,b1,r1⟩:=lI (A:=X.A.in1) I S1 h1 g1;obtain ⟨f2,Sc,Sd,P2,n2,a2,m2,b2,r2⟩:=lI (A:=X.A.in1) I S2 h2 g2;refine tokQ I.tk (eI hz rfl (eT D n1 n2 (iE hz hTO h2 D.i1z D.TOi1.symm D.i12 m1) (iE hz hTO h1 D.i2z D.TOi2.symm D.i12.symm m2) hz hTI hTO a1 a2 fun x y h' tk p1 p2 z1 z2 q1 q2 z3 z4 kp (htk:0 < tk)=>?_));obtain ⟨vx,rx,ax⟩:=r1 x p1;obtain ⟨vy,ry,ay⟩:=r2 y p2;have fresh:H s.heap.objs.size=none:=I.hok.fresh (Nat.le_refl _);have off:∀ {c o},s.heap.get? c=some o->c≠s.heap.objs.size:=fun e=>Nat.ne_of_lt (Heap.lt_size e)
  refine ⟨_,rfl,wpAny_letOwnedTupleGo_zip z1 fun h'' z1' sb=>?_⟩
  replace sb:Heap.SameBut z h' h'':=sb
  have hT:IsPair h'' s.heap.objs.size x y:=sb.extBut _ _ (Ne.symm (off hz)) z3;have I1:Inv X pins σ (upd H s.heap.objs.size (.tup [vx,vy])) { s with heap:=h'',toks:=tk }:=by
   refine I.turnedLaid (its:=[z,TO,i1,i2]) (fun c o hc' e=>?_) (fun c hc'=>hf c ?_) (Nat.le_refl _) ?_
   ·simp only [List.mem_cons,List.not_mem_nil,or_false,not_or] at hc';exact sb.extBut _ _ hc'.1 (kp c o hc'.1 hc'.2.1 hc'.2.2.1 hc'.2.2.2 e)
   ·simp only [List.mem_cons,List.not_mem_nil,or_false] at hc' ⊢;rcases hc' with q | q | q | q
    ·exact .inl q
    ·exact .inr (.inr (.inl q))
    ·exact .inr (.inr (.inr (.inl q)))
    ·exact .inr (.inr (.inr (.inr q)))
   ·exact ⟨by show 2<=sizeLine; decide,[x,y],.cons rx (.cons ry .nil),_,hT,rfl,_,rfl⟩
  refine ⟨.ref s.heap.objs.size,_,I1,rfl,⟨_,vx,vy,rfl,fresh,rfl,ax,ay⟩,⟨x,y,z1',?_,?_,?_,?_⟩,fun c hc'=>?_⟩
  ·exact sb.extBut _ _ D.TIz (kp _ _ D.TIz D.TITO D.TIi1 D.TIi2 hTI)
  ·exact sb.extBut _ _ D.TOz z2
  ·exact (b1 h' q1).keep fun o e=>sb.extBut _ _ D.i1z e
  ·exact (b2 h' q2).keep fun o e=>sb.extBut _ _ D.i2z e
  ·have ne:c≠s.heap.objs.size:=by
    simp only [List.mem_cons,List.not_mem_nil,or_false] at hc';rcases hc' with rfl | rfl | rfl | rfl | rfl
    ·exact off hz
    ·exact off hTI
    ·exact off hTO
    ·obtain ⟨o,e,_⟩:=h1.obj;exact off e
    ·obtain ⟨o,e,_⟩:=h2.obj;exact off e
   rw [au ne];exact (hf c hc').1
 done:=by
  intro X hP hw hK hc i pins s σ H E I hf st hg;subst hP hw hK;obtain ⟨a,b,hz,hTI,hTO,h1,h2⟩:=st;have hh:X.A.in1.handled=none:=I.ok.hd hc;have fin:∀ (h':Heap) (tk:Nat),0 < tk->(∀ c o,c≠z->c≠TO->c≠i1->c≠i2->s.heap.get? c=some o->h'.get? c=some o)->Inv X pins σ H { s with heap:=h',toks:=tk }:=fun h' tk htk kp=>
   I.turnedL (its:=[z,TO,i1,i2]) (fun c o hc' e=>by
    simp only [List.mem_cons,List.not_mem_nil,or_false,not_or] at hc';exact kp c o hc'.1 hc'.2.1 hc'.2.2.1 hc'.2.2.2 e) (fun c hc'=>hf c (by
    simp only [List.mem_cons,List.not_mem_nil,or_false] at hc' ⊢;rcases hc' with q | q | q | q
    ·exact .inl q
    ·exact .inr (.inr (.inl q))
    ·exact .inr (.inr (.inr (.inl q)))
    ·exact .inr (.inr (.inr (.inr q)))))
  rcases hg with e1 | ⟨g1,e2⟩
  ·obtain ⟨f1,Sa,n1,a1,m1⟩:=o0 I hh S1 h1 e1;exact tokQ I.tk (cg hz rfl (fN D n1 (iE hz hTO h2 D.i1z D.TOi1.symm D.i12 m1) hz hTI a1 fun h' e tk kp he=>⟨e,rfl,he,fun htk=>⟨rfl,fin h' tk htk kp⟩⟩))
  ·obtain ⟨f1,Sa,Sb,P1,n1,a1,m1,b1,r1⟩:=lI (A:=X.A.in1) I S1 h1 g1;obtain ⟨f2,Sc,n2,a2,m2⟩:=o0 I hh S2 h2 e2;exact tokQ I.tk (cg hz rfl (fK D n1 n2 (iE hz hTO h2 D.i1z D.TOi1.symm D.i12 m1) (iE hz hTO h1 D.i2z D.TOi2.symm D.i12.symm m2) hz hTI hTO a1 a2 fun h' e tk kp he=>⟨e,rfl,he,fun htk=>⟨rfl,fin h' tk htk kp⟩⟩))
 self:=fun _ _ _ _ _ st h=>by
  obtain ⟨a,b,hz,_⟩:=st;exact wpAny_pyIter_zip hz h
noncomputable def srcVal:Src->Tok->Value
 | .str x,t=>.str x t
 | .lst a,_=>.ref a
noncomputable def srcObj:Src->Tok->Obj
 | .str x,t=>{ cls:=.type (strIterType x),data:=.fields #[.str x t,.int 0 0] }
 | .lst a,_=>{ cls:=.type "list_iterator",data:=.fields #[.ref a,.int 0 0] }
noncomputable def srcOk (h:Heap):Src->Prop
 | .str _=>True
 | .lst a=>∃ its,h.IsList a its
theorem srcOk.push {h:Heap} {S:Src} (ok:srcOk h S) (o:Obj):srcOk (h.push o) S:=by
 cases S with
 | str x=>trivial
 | lst a=>
  obtain ⟨its,q⟩:=ok;exact ⟨its,Heap.IsList.push q _⟩
theorem gD (S:Src) (t:Tok):(srcObj S t).isFreed=false:=by cases S <;> rfl
theorem jy {h:Heap} {S:Src} {t:Tok} {it:Addr} (e:h.get? it=some (srcObj S t)):SrcIt h S it 0:=by
 cases S with
 | str x=>exact ⟨t,_,e,rfl,rfl⟩
 | lst a=>exact ⟨_,e,rfl,rfl⟩
section
variable {prog:Program} {w:World} {A:Around} {E:Value->Shared->Prop} {s:Shared}
theorem iM {S:Src} {t:Tok} {Q:Value->Shared->Prop} (ok:srcOk s.heap S) (hQ:Q (.ref s.heap.objs.size) { s with heap:=s.heap.push (srcObj S t) }):wpAny (model prog w) A (pyIter (srcVal S t)) Q E s:=by
 cases S with
 | str x=>exact wpAny_pyIter_strU hQ
 | lst a=>
  obtain ⟨its,q⟩:=ok;exact wpAny_pyIter_list q hQ
end
noncomputable abbrev zH1 (h:Heap) (S1:Src) (t1:Tok):Heap:=h.push (srcObj S1 t1)
noncomputable abbrev zH2 (h:Heap) (S1 S2:Src) (t1 t2:Tok):Heap:=(zH1 h S1 t1).push (srcObj S2 t2)
noncomputable abbrev zH3 (h:Heap) (S1 S2:Src) (t1 t2:Tok):Heap:=(zH2 h S1 S2 t1 t2).push { cls:=.type "tuple",data:=.seq #[.ref h.objs.size,.ref (zH1 h S1 t1).objs.size] }
noncomputable abbrev zH4 (h:Heap) (S1 S2:Src) (t1 t2:Tok):Heap:=(zH3 h S1 S2 t1 t2).push { cls:=.type "tuple",data:=.seq #[.none,.none] }
noncomputable abbrev zH5 (h:Heap) (S1 S2:Src) (t1 t2:Tok):Heap:=(zH4 h S1 S2 t1 t2).push { cls:=.type "zip",data:=.fields #[.none,.bool false,.bool false,.ref (zH2 h S1 S2 t1 t2).objs.size,.ref (zH3 h S1 S2 t1 t2).objs.size] }
theorem iR (S1 S2:Src) (t1 t2:Tok):
  Meets (Builtin.«zip.__new__» ⟨[.type "zip",srcVal S1 t1,srcVal S2 t2],[]⟩) (fun _ R s=>srcOk s.heap S1/\srcOk s.heap S2 /\
   R (.ok (.ret (.ref (zH4 s.heap S1 S2 t1 t2).objs.size))) { s with heap:=zH5 s.heap S1 S2 t1 t2 }):=
 .of_wp fun prog w A R s h=>by
  obtain ⟨hp,g,d,tk,os⟩:=s; obtain ⟨hl1,hl2,h⟩:=h;have hsub:=sub_zip;have hL1:srcOk (Shared.heap ⟨hp,g,d,tk,os⟩) S1:=hl1;have hL2:srcOk (Shared.heap ⟨hp.push (srcObj S1 t1),g,d,tk,os⟩) S2:=hl2.push _
  wp_walk using iM hL1,iM hL2
  exact ⟨_,rfl,h⟩
section
variable {prog:Program} {w:World} {A:Around} {E:Value->Shared->Prop} {s:Shared}
theorem mX {S1 S2:Src} {t1 t2:Tok} {Q:Value->Shared->Prop} (hl1:srcOk s.heap S1) (hl2:srcOk s.heap S2)
  (h:∀ h',ZipSt (s.heap.objs.size+4) (s.heap.objs.size+2) (s.heap.objs.size+3) s.heap.objs.size (s.heap.objs.size+1) S1 S2 0 h'->(∀ c o,s.heap.get? c=some o->h'.get? c=some o)->Q (.ref (s.heap.objs.size+4)) { s with heap:=h' }):
  wpAny (model prog w) A (call (.type "zip") [srcVal S1 t1,srcVal S2 t2]) Q E s:=by
 refine callType_new F.called_zip (by decide) (F.typeCall_zip_2 _ _) (F.newCall_zip_2 _ _) (fun obj=>F.args_object_init_3 obj _ _) F.entry_zip_new
  (iR S1 S2 t1 t2) ⟨hl1,hl2,?_⟩
 have z1:(zH1 s.heap S1 t1).objs.size=s.heap.objs.size+1:=Heap.size_push ..;have z2:(zH2 s.heap S1 S2 t1 t2).objs.size=s.heap.objs.size+2:=by rw [Heap.size_push,z1]
 have z3:(zH3 s.heap S1 S2 t1 t2).objs.size=s.heap.objs.size+3:=by rw [Heap.size_push,z2]
 have z4:(zH4 s.heap S1 S2 t1 t2).objs.size=s.heap.objs.size+4:=by rw [Heap.size_push,z3]
 have g5:(zH5 s.heap S1 S2 t1 t2).get? (zH4 s.heap S1 S2 t1 t2).objs.size=some _:=Heap.get?_push_size _ rfl;have g4:(zH5 s.heap S1 S2 t1 t2).get? (zH3 s.heap S1 S2 t1 t2).objs.size=some _:=Heap.get?_push_of_some _ (Heap.get?_push_size _ rfl);have g3:(zH5 s.heap S1 S2 t1 t2).get? (zH2 s.heap S1 S2 t1 t2).objs.size=some _:=Heap.get?_push_of_some _ (Heap.get?_push_of_some _ (Heap.get?_push_size _ rfl));have g2:(zH5 s.heap S1 S2 t1 t2).get? (zH1 s.heap S1 t1).objs.size=some (srcObj S2 t2):=Heap.get?_push_of_some _ (Heap.get?_push_of_some _ (Heap.get?_push_of_some _ (Heap.get?_push_size _ (gD _ _))));have g1:(zH5 s.heap S1 S2 t1 t2).get? s.heap.objs.size=some (srcObj S1 t1):=Heap.get?_push_of_some _ (Heap.get?_push_of_some _ (Heap.get?_push_of_some _ (Heap.get?_push_of_some _ (Heap.get?_push_size _ (gD _ _)))));show _/\_;rw [z2,z3,z4] at g5;rw [z1,z2] at g3;rw [z3] at g4;rw [z1] at g2;rw [z4];exact ⟨⟨_,g5,rfl⟩,h _ ⟨_,_,g5,g3,g4,jy g1,jy g2⟩ fun c o x=>
  Heap.get?_push_of_some _ (Heap.get?_push_of_some _ (Heap.get?_push_of_some _ (Heap.get?_push_of_some _ (Heap.get?_push_of_some _ x))))⟩
theorem mf (n:Nat):ZAp (n+4) (n+2) (n+3) n (n+1):=by
 constructor <;> exact fun h=>absurd (show (_:Nat)=_ from h) (by omega)
end
section
variable {X:Cx}
theorem jD {pins:List (Addr × Obj)} {σ:St} {H:Hp} {s:Shared} {S:Src} {v:V} {u:Value} (I:Inv X pins σ H s) (h:SrcOf X.K H S v) (r:RelV v u):∃ t,u=srcVal S t/\srcOk s.heap S:=by
 cases S with
 | str x=>
  have e:v=.str x:=h;subst e;obtain ⟨t,rfl⟩:=r;exact ⟨t,rfl,trivial⟩
 | lst a=>
  obtain ⟨e,xs,hq⟩:=h;subst e;cases r;obtain ⟨its,rv,pl,hz⟩:=I.list hq;exact ⟨0,rfl,_,pl.isList⟩
theorem oW:bootBuiltins "zip" = some (.type "zip"):=by decide +kernel
end
noncomputable def clOf (cells:List (Str × Addr)):List (Str × NameKind)->List (Str × Addr)->List (Str × Addr)
 | [],cs=>cs
 | (n,k)::r,cs=>clOf cells r (if (k == NameKind.free)=true then (n,(cells.lookup n).getD 0)::cs else cs)
theorem eJ {scope:Scope} {env:Env} (h:∀ y ∈ scope.names,y.2=.free->∃ c,env.cells.lookup y.1=some c):closureFor scope env=pure (clOf env.cells scope.names []):=by
 unfold closureFor;have key:∀ (names:List (Str × NameKind)) (cs:List (Str × Addr)),(∀ y ∈ names,y.2=.free->∃ c,env.cells.lookup y.1=some c) ->
   (forIn names cs (fun x r=>match x with
    | (name,kind)=>if (kind == NameKind.free)=true then (do let __do_lift <- cellOf env name; pure (ForInStep.yield ((name,__do_lift)::r))) else pure (ForInStep.yield r)):Sem (List (Str × Addr)))=pure (clOf env.cells names cs):=by
  intro names
  induction names with
  | nil=>intro cs _; rfl
  | cons y r ih=>
   intro cs hy;obtain ⟨n,k⟩:=y;rw [List.forIn_cons];have hr:∀ y ∈ r,y.2=.free->∃ c,env.cells.lookup y.1=some c:=fun y hm=>hy y (List.mem_cons_of_mem _ hm)
   cases hk:(k == NameKind.free) with
   | true=>
    have hk':k=.free:=by simpa using hk
    obtain ⟨c,hc⟩:=hy (n,k) List.mem_cons_self hk';have ec:cellOf env n=pure c:=by unfold cellOf; rw [hc]
    have e1:(clOf env.cells ((n,k)::r) cs)=clOf env.cells r ((n,c)::cs):=by
     show clOf env.cells r (if (k == NameKind.free)=true then (n,(env.cells.lookup n).getD 0)::cs else cs)=_;rw [hk,if_pos rfl,show env.cells.lookup n=some c from hc];rfl
    rw [e1,<- ih _ hr];simp only [ec,hk,if_true,pure_bind]
   | false=>
    have e1:(clOf env.cells ((n,k)::r) cs)=clOf env.cells r cs:=by
     show clOf env.cells r (if (k == NameKind.free)=true then (n,(env.cells.lookup n).getD 0)::cs else cs)=_;rw [hk,if_neg Bool.false_ne_true]
    rw [e1,<- ih _ hr];simp only [hk,Bool.false_eq_true,if_false,pure_bind]
 have q:=key scope.names [] h
 first
  | exact q
  | (simp only [bind_pure]; exact q)
  | (rw [q]; rfl)
theorem iB {cells:List (Str × Addr)} {x:Str} {c:Addr}:∀ (names:List (Str × NameKind)) (cs:List (Str × Addr)),(∀ y ∈ names,y.2=.free->∃ c,cells.lookup y.1=some c)->(∀ x c,cs.lookup x=some c->cells.lookup x=some c) ->
  (clOf cells names cs).lookup x=some c->cells.lookup x=some c
 | [],cs,_,h,e=>h x c e
 | (n,k)::r,cs,hn,h,e=>by
  unfold clOf at e;refine iB r _ (fun y hm=>hn y (List.mem_cons_of_mem _ hm)) (fun x c q=>?_) e;split at q
  ·rename_i hk;have hk':k=.free:=by simpa using hk
   obtain ⟨c',hc⟩:=hn (n,k) List.mem_cons_self hk';rw [List.lookup_cons] at q;cases hx:(x == n) with
   | true=>
    rw [hx] at q;have hx':x=n:=by simpa using hx
    subst hx';rw [hc] at q;simp at q;rw [hc,q]
   | false=>
    rw [hx] at q;exact h x c q
  ·exact h x c q
theorem iW {cells:List (Str × Addr)} {x:Str}:∀ (names:List (Str × NameKind)) (cs:List (Str × Addr)),(cs.lookup x).isSome=true->((clOf cells names cs).lookup x).isSome=true
 | [],cs,h=>h
 | (n,k)::r,cs,h=>by
  unfold clOf;refine iW r _ ?_;split
  ·rw [List.lookup_cons];split
   ·rfl
   ·exact h
  ·exact h
theorem iD {cells:List (Str × Addr)} {x:Str}:∀ (names:List (Str × NameKind)) (cs:List (Str × Addr)),(x,NameKind.free) ∈ names->((clOf cells names cs).lookup x).isSome=true
 | [],_,h=>by cases h
 | (n,k)::r,cs,h=>by
  unfold clOf;rcases List.mem_cons.mp h with e | e
  ·cases e;refine iW r _ ?_;simp
  ·exact iD r _ e
theorem c6 (env:Env) (x:Str):∀ names:List (Str × NameKind),
  (names.map fun (n,k)=>if (k == NameKind.free && env.scope.kind == .function && env.kindOf n == some .cell) then (n,NameKind.cell) else (n,k)).lookup x =
   (names.lookup x).map fun k=>if (k == NameKind.free && env.scope.kind == .function && env.kindOf x == some .cell)=true then .cell else k
 | []=>rfl
 | (n,k)::r=>by
  have ih:=c6 env x r;simp only [List.map_cons];cases hx:(x == n) with
  | true=>
   have hx':x=n:=by simpa using hx
   subst hx';by_cases hc:(k == NameKind.free && env.scope.kind == .function && env.kindOf x == some .cell)=true
   ·rw [if_pos hc,List.lookup_cons,List.lookup_cons,hx];show some NameKind.cell=some (if (k == NameKind.free && env.scope.kind == .function && env.kindOf x == some .cell)=true then NameKind.cell else k);rw [if_pos hc]
   ·rw [if_neg hc,List.lookup_cons,List.lookup_cons,hx];show some k=some (if (k == NameKind.free && env.scope.kind == .function && env.kindOf x == some .cell)=true then NameKind.cell else k);rw [if_neg hc]
  | false=>
   by_cases hc:(k == NameKind.free && env.scope.kind == .function && env.kindOf n == some .cell)=true
   ·rw [if_pos hc];simp only [List.lookup_cons,hx];exact ih
   ·rw [if_neg hc];simp only [List.lookup_cons,hx];exact ih
structure CScope (scope:Scope):Prop where
 kind:scope.kind=.function
 nocell:∀ y ∈ scope.names,y.2≠.cell
 loc:∀ y ∈ scope.names,y.2=.local->scope.names.lookup y.1=some .local
noncomputable def cxC (X:Cx) (scope:Scope) (cl:List (Str × Addr)) (N':List Str) (C:Addr) (s:Shared) (H:Hp) (ex:List Addr):Cx:=
 { X with N:=N',s₀:=s,H₀:=H,env:=compEnvC scope cl C X.env,outer:=X.stack,ex:=ex,fn:=fun _=>false,pn:=[],xe:=fun _ _=>False }
noncomputable def compσ (nt:Nat) (fi:List Nat) (σ:St):St:=List.replicate nt none++fi.map fun j=>(σ[j]?).getD none
structure CNames (X:Cx) (scope:Scope) (nt:Nat) (fi:List Nat) (N':List Str):Prop where
 len:N'.length=nt+fi.length
 cap:∀ k j:Nat,fi[k]? = some j->∃ x,N'[nt+k]? = some x/\X.N[j]? = some x/\scope.names.lookup x=some .free
 fre:∀ y ∈ scope.names,y.2=.free->X.env.scope.names.lookup y.1=some .cell\/X.env.scope.names.lookup y.1=some .free
def GK (nt:Nat) (g:TG):Prop:=∀ x σ H Q,g x σ H Q->g x σ H fun σ' H'=>Q σ' H'/\σ'.length=σ.length/\σ'.drop nt=σ.drop nt
def PIf (X:Cx) (ifs:List Expr) (t:TT):Prop:=
 ∀ (pins:List (Addr × Obj)) (s:Shared) (σ:St) (H:Hp) (Q:Bool->Hp->Prop),Inv X pins σ H s->t σ H Q ->
  wpAny (model X.prog X.w) X.A (forIn ifs true fun c r=>if r=true then do let ok <- isTrue c X.env (eval c X.env); pure (ForInStep.yield ok) else pure (ForInStep.yield r)) (TP X pins σ Q) X.xe s
noncomputable def tYes:TT:=fun _ H Q=>Q true H
theorem aQ {X:Cx}:PIf X [] tYes:=fun pins s σ H Q I h=>wpAny_tests_nil ⟨H,I,h⟩
theorem ir {X:Cx} {c:Expr} {t:TT} (h:PT X c t):PIf X [c] t:=fun pins s σ H Q I q=>wpAny_tests_one (h pins s σ H Q I q)
theorem aS {nt i:Nat} (hi:i < nt):GK nt (gName i):=fun x σ H Q h=>by
 refine ⟨h,?_,?_⟩
 ·rw [List.length_set]
 ·rw [List.drop_set_of_lt hi]
theorem ft {K:Frag} {nt i j n:Nat} (hi:i < nt) (hj:j < nt):GK nt (gTup K n (gCons (gName i) (gCons (gName j) gNil))):=fun x σ H Q h=>by
 obtain ⟨a,xs,e,hq,hl,v,r,e1,v',r',e2,e3,q⟩:=h;refine ⟨a,xs,e,hq,hl,v,r,e1,v',r',e2,e3,q,?_,?_⟩
 ·rw [List.length_set,List.length_set]
 ·rw [List.drop_set_of_lt hj,List.drop_set_of_lt hi]
section
variable {prog:Program} {w:World} {A:Around} {R:Result->Shared->Prop} {s:Shared}
theorem thnF {α:Type} {t:Sem α} {Q Q':α -> Shared->Prop} {M:Model} {E:Value->Shared->Prop} (h:wpAny M A t Q (fun _ _=>False) s) (hQ:∀ a s,Q a s->Q' a s):wpAny M A t Q' E s:=wpAny_mono h hQ fun _ _ f=>f.elim
theorem gn {elt target iter:Expr} {ifs:List Expr} {scope:Scope} {pos:Pos} {it acc:Value} {env:Env} (I:Nat->Shared->Prop)
  (turn:∀ n s,I n s->wpAny (model prog w) A (pyNext it) (fun r s₁=>match r with
   | none=>R (.ok .next) s₁
   | some v=>wpAny (model prog w) A (letOwnedTupleGo target it v) (fun _ s₂=>wpAny (model prog w) A (assign target env v) (fun _ s₃=>
     wpAny (model prog w) A (forIn ifs true fun c r=>if r=true then do let ok <- isTrue c env (eval c env); pure (ForInStep.yield ok) else pure (ForInStep.yield r)) (fun ok s₄=>
      if ok=true then wpAny (model prog w) A (eval elt env) (fun x s₅=>wpAny (model prog w) A (call (.builtin "list.append") [acc,x]) (fun _ s₆=>∃ m,m < n/\I m s₆) (fun _ _=>False) s₅) (fun _ _=>False) s₄
      else ∃ m,m < n/\I m s₄) (fun _ _=>False) s₃) (fun _ _=>False) s₂) (fun _ _=>False) s₁) (fun _ _=>False) s)
  (n:Nat) (h:I n s):codeAny (model prog w) A (.compLoop (.ListComp elt [⟨target,iter,ifs,0⟩] scope pos) 0 it acc env) R s:=by
 refine codeAny_loop rfl I (fun n s hI=>?_) n h;show wpAny _ A ((compTurn (.ListComp elt [⟨target,iter,ifs,0⟩] scope pos) 0 it acc env).onRaise (fun x=>do noteFrame x env; theTreesLotGoes x)) _ _ s;refine wpAny_noted ?_;rw [compTurn_list];refine wpAny_bind (wpAny_standAt (wpAny_bind (thnF (turn n s hI) fun r s₁ h₁=>?_)));cases r with
 | none=>exact wpAny_pure h₁
 | some v=>
  refine wpAny_bind (thnF h₁ fun _ s₂ h₂=>wpAny_bind (thnF h₂ fun _ s₃ h₃=>wpAny_bind (thnF h₃ fun ok s₄ h₄=>?_)));cases ok with
  | false=>exact wpAny_pure ⟨rfl,h₄⟩
  | true=>exact wpAny_bind (wpAny_bind (thnF h₄ fun x s₅ h₅=>wpAny_bind (thnF h₅ fun _ s₆ h₆=>wpAny_pure (wpAny_pure ⟨rfl,h₆⟩))))
end
noncomputable def tComp (nt:Nat) (fi:List Nat) (wi:TI) (g:TG) (tc:TT) (te:TE):TE:=fun σ H Q=>wi σ H fun J H1=>∀ D,H1 D=none ->
 ∃ W:Nat->Nat->List V->Hp->Prop,(∃ m,W 0 m [] (upd H1 D (.lst [])))/\∀ i m acc H2,W i m acc H2 ->
  (J.stop i H2/\Q (.ref D) H2)\/(J.go i H2/\∀ x H3,J.yld i H2 x H3->g x (compσ nt fi σ) H3 fun σ4 H4=>tc σ4 H4 fun b H5=>if b=true then
   te σ4 H5 fun v H6=>H6 D=some (.lst acc)/\acc.length < sizeLine/\∃ m',m' < m/\W (i+1) m' (acc++[v]) (upd H6 D (.lst (acc++[v]))) else ∃ m',m' < m/\W (i+1) m' acc H5)
theorem compσ_weak {nt:Nat} {fi:List Nat} {σ σ':St} (hl:σ'.length=(compσ nt fi σ).length) (hd:σ'.drop nt=(compσ nt fi σ).drop nt):∀ (i:Nat) v,(compσ nt fi σ)[i]? = some (some v)->σ'[i]? = some (some v):=fun i v e=>by
 by_cases hi:i < nt
 ·unfold compσ at e;rw [List.getElem?_append_left (by simpa using hi),List.getElem?_replicate] at e;split at e <;> cases e
 ·have ei:i=nt+(i - nt):=by omega
  have q:=congrArg (fun l=>l[i - nt]?) hd;simp only [List.getElem?_drop] at q;rw [<- ei] at q;rw [q];exact e
section
variable {X:Cx}
theorem ku {pins:List (Addr × Obj)} {σ:St} {H:Hp} {s:Shared} {scope:Scope} {nt:Nat} {fi:List Nat} {N':List Str} {fp:List Addr} {h₁:Heap} {m:Str->Option Value} {tk:Nat}
  (I:Inv X pins σ H s) (S:CScope scope) (cn:CNames X scope nt fi N') (hf:∀ b ∈ fp,FpOk X pins H b) (ho:∀ b ∈ fp,∃ o,s.heap.get? b=some o)
  (hns:h₁.Ns s.heap.objs.size m) (kp:∀ b o,s.heap.get? b=some o->h₁.get? b=some o) (htk:0 < tk):
  Inv (cxC X scope (clOf X.env.cells scope.names []) N' s.heap.objs.size s H fp) (X.pn++pins) (compσ nt fi σ) H { s with heap:=h₁,toks:=tk }:=by
 have hfr:∀ y ∈ scope.names,y.2=.free->∃ c,X.env.cells.lookup y.1=some c:=fun y hy e=>I.ok.has y.1 (cn.fre y hy e)
 have snd:∀ x c,(clOf X.env.cells scope.names []).lookup x=some c->X.env.cells.lookup x=some c:=fun x c e=>iB scope.names [] hfr (fun _ _ q=>by simp at q) e
 have offstk:∀ b,b≠X.env.locals->b ∉ X.fs->b ∉ frs X.stack:=fun b h1 h2 h3=>by
  rcases List.mem_cons.mp (I.stkSub b h3) with e | e
  ·exact h1 e
  ·exact h2 e
 have lt:∀ {b o},s.heap.get? b=some o->b≠s.heap.objs.size:=fun e=>Nat.ne_of_lt (Heap.lt_size e)
 have kinds:∀ x k,(relabel scope X.env).names.lookup x=some k->(k=.cell\/k=.free)->(x,NameKind.free) ∈ scope.names:=fun x k e hk=>by
  have e':(scope.names.map fun (n,k)=>if (k == NameKind.free && X.env.scope.kind == .function && X.env.kindOf n == some .cell) then (n,NameKind.cell) else (n,k)).lookup x=some k:=e;rw [c6] at e';cases q:scope.names.lookup x with
  | none=>rw [q] at e'; cases e'
  | some k'=>
   have mem:(x,k') ∈ scope.names:=PySem.mem_of_lookup q;rw [q] at e';simp only [Option.map_some,Option.some.injEq] at e';split at e'
   ·rename_i hc;simp only [Bool.and_eq_true,beq_iff_eq] at hc;rw [hc.1.1] at mem;exact mem
   ·subst e';rcases hk with z | z
    ·subst z;exact absurd rfl (S.nocell _ mem)
    ·subst z;exact mem
 refine ⟨⟨I.ok.mod,S.kind,I.ok.glob,I.ok.blt,Nat.le_refl _,fun x y c e1 e2=>I.ok.inj x y c (snd x c e1) (snd y c e2),fun x hx=>?_,fun x c e=>(nomatch e),I.ok.hd,I.ok.frames,.inl rfl,fun b hb=>⟨?_,fun x c e=>(hf b hb).2.2.2.2.1 x c (snd x c e)⟩,I.bs,?_,fun b o e hb=>?_,fun b hb=>offstk b (hf b hb).2.1 (hf b hb).2.2.1,I.stack,I.stkFree⟩,
  rfl,I.bare,Un.kept kp,⟨m,hns,fun i x v e1 e2 e3=>?_⟩,fun x c e=>?_,I.hok.fresh (Nat.le_refl _),fun x c e=>I.freeC x c (snd x c e),fun p hp=>?_,I.hok.kept kp,?_,htk⟩
 ·have hx':(relabel scope X.env).names.lookup x=some .cell\/(relabel scope X.env).names.lookup x=some .free:=hx;have mem:(x,NameKind.free) ∈ scope.names:=by
   rcases hx' with q | q
   ·exact kinds x _ q (.inl rfl)
   ·exact kinds x _ q (.inr rfl)
  exact Option.isSome_iff_exists.mp (iD scope.names [] mem)
 ·obtain ⟨o,e⟩:=ho b hb;exact lt e
 ·exact Nat.le_trans I.ok.bsz I.sz
 ·rcases (hf b hb).2.2.2.1 with q | q
  ·exact I.ok.noex b o e q
  ·exact absurd (Nat.lt_of_lt_of_le (Heap.lt_size e) (Nat.le_trans I.ok.bsz q)) (Nat.lt_irrefl _)
 ·have hi:¬ i < nt:=fun hi=>by
   unfold compσ at e2;rw [List.getElem?_append_left (by simpa using hi),List.getElem?_replicate] at e2;split at e2 <;> cases e2
  have ei:i=nt+(i - nt):=by omega
  have e2':(fi.map fun j=>(σ[j]?).getD none)[i - nt]? = some (some v):=by
   unfold compσ at e2;rw [List.getElem?_append_right (by simpa using Nat.le_of_not_lt hi)] at e2;simpa using e2
  rw [List.getElem?_map] at e2';cases ej:fi[i - nt]? with
  | none=>rw [ej] at e2'; cases e2'
  | some j=>
   rw [ej] at e2';obtain ⟨x',n1,n2,n3⟩:=cn.cap (i - nt) j ej;rw [<- ei] at n1;have e1':N'[i]? = some x:=e1;rw [n1] at e1';cases e1';have ev:σ[j]? = some (some v):=by
    have e2':some ((σ[j]?).getD none)=some (some v):=e2';cases q:σ[j]? with
    | none=>rw [q] at e2'; simp at e2'
    | some w=>rw [q] at e2'; simp at e2'; rw [e2']
   have mem:(x,NameKind.free) ∈ scope.names:=PySem.mem_of_lookup n3;have vis:=cn.fre _ mem rfl;obtain ⟨m0,hn0,hl0⟩:=I.loc;obtain ⟨u,ru,lk⟩:=hl0 j x v n2 ev (.inr vis);refine ⟨u,ru,?_⟩;rcases lk with ⟨q,_⟩ | ⟨q,c,ec,o,hoc,hod⟩
   ·have q':X.env.scope.names.lookup x=some .local:=q;rcases vis with z | z
    ·have z':X.env.scope.names.lookup x=some .cell:=z;rw [q'] at z'; cases z'
    ·have z':X.env.scope.names.lookup x=some .free:=z;rw [q'] at z'; cases z'
   ·obtain ⟨c',ec'⟩:=Option.isSome_iff_exists.mp (iD (cells:=X.env.cells) scope.names [] mem);have ecc:=snd x c' ec';rw [ec] at ecc;cases ecc;refine .inr ⟨?_,c,ec',o,kp c o hoc,hod⟩;show (relabel scope X.env).names.lookup x=some .cell\/(relabel scope X.env).names.lookup x=some .free;have e4:(relabel scope X.env).names.lookup x=(scope.names.lookup x).map fun k=>if (k == NameKind.free && X.env.scope.kind == .function && X.env.kindOf x == some .cell)=true then .cell else k:=c6 X.env x scope.names
    rw [e4,n3];simp only [Option.map_some];split
    ·exact .inl rfl
    ·exact .inr rfl
 ·obtain ⟨v,o,hoc,hod⟩:=I.cell x c (snd x c e);exact ⟨v,o,kp c o hoc,hod⟩
 ·have hp':p ∈ X.pn++pins:=by
   have hp'':p ∈ ([]:List (Addr × Obj))++(X.pn++pins):=hp;simpa using hp''
  obtain ⟨e,n,ne,nf,d⟩:=I.pin p hp';exact ⟨kp _ _ e,n,lt e,offstk _ ne nf,d⟩
 ·show (compσ nt fi σ).length=N'.length;unfold compσ;rw [cn.len,List.length_append,List.length_replicate,List.length_map]
theorem kr {pins:List (Addr × Obj)} {σ σ':St} {H H':Hp} {s s':Shared} {scope:Scope} {cl:List (Str × Addr)} {N':List Str} {fp:List Addr} {C:Addr} {P:List (Addr × Obj)} {h'':Heap}
  (I:Inv X pins σ H s) (hf:∀ b ∈ fp,FpOk X pins H b) (hC:s.heap.objs.size<=C) (J:Inv (cxC X scope cl N' C s H fp) P σ' H' s') (sb:Heap.SameBut C s'.heap h''):Inv X pins σ H' { s' with heap:=h'' }:=by
 have ne:∀ {b o},s.heap.get? b=some o->b≠C:=fun e=>Nat.ne_of_lt (Nat.lt_of_lt_of_le (Heap.lt_size e) hC)
 have u:Un (frs X.stack) fp H H' s.heap s'.heap:=J.base;refine I.call' (s':={ s' with heap:=h'' }) (ch:=fp) J.os ⟨fun b o e n hb hx=>?_,fun b o e n hb hx=>?_,u.free,fun b o e hx=>?_,u.tups,u.frzs,u.tbls⟩ (fun b o e=>?_) J.bare (fun b hb=>?_) J.tk
 ·exact (sb.2 b (ne e)).trans (u.keep b o e n hb hx)
 ·obtain ⟨sl,q⟩:=u.slot b o e n hb hx;exact ⟨sl,(sb.2 b (ne e)).trans q⟩
 ·obtain ⟨o',q⟩:=u.there b o e hx;exact ⟨o',(sb.2 b (ne e)).trans q⟩
 ·have fr:H' C=none:=J.free;refine (J.hok b o e).stay (fun c v hc q=>(sb.2 c ?_).trans q) (fun _ q=>q) fun _ _ q=>q
  rintro rfl;rcases hc with z | z
  ·subst z;rw [fr] at e;cases e
  ·rw [fr] at z;cases z
 ·obtain ⟨f0,f1,f2,f3,f4,f5⟩:=hf b hb;exact ⟨f3,f1,f4,f5⟩
theorem qP {elt tg iter:Expr} {ifs:List Expr} {scope:Scope} {pos:Pos} {wi:TI} {g:TG} {tc:TT} {te:TE} {nt:Nat} {fi:List Nat} {N':List Str} (hcalm:X.calm=true)
  (S:CScope scope) (cn:CNames X scope nt fi N') (gk:GK nt g) (hi:PI X tg iter wi)
  (hg:∀ cl C s H ex,PG (cxC X scope cl N' C s H ex) tg g) (hc:∀ cl C s H ex,PIf (cxC X scope cl N' C s H ex) ifs tc) (he:∀ cl C s H ex,PE (cxC X scope cl N' C s H ex) elt te)
  (hs:∀ x,foldedSetIterable iter X.env x=pure x:=by intro _; rfl):PE X (.ListComp elt [⟨tg,iter,ifs,0⟩] scope pos) (tComp nt fi wi g tc te):=by
 intro pins s σ H Q I h;have hfr:∀ y ∈ scope.names,y.2=.free->∃ c,X.env.cells.lookup y.1=some c:=fun y hy e=>I.ok.has y.1 (cn.fre y hy e)
 rw [eval_ListComp];refine wpAny_comprehension_free (use:=none) rfl hs (eJ hfr) S.kind S.loc (thn (hi pins s σ H _ I h) fun v s1 h1=>thn h1 fun itv s2 h2=>?_);obtain ⟨it,fp,tn,J,H2,e,I2,T,st2,f2,hW⟩:=h2;subst e;have fD:H2 s2.heap.objs.size=none:=I2.hok.fresh (Nat.le_refl _);obtain ⟨W,⟨m0,w0⟩,turn⟩:=hW s2.heap.objs.size fD;refine wpAny_newObj_type (wpAny_newFunctionEnv S.nocell (by intro y hy; simp at hy) (fun h₁ hns₁ hsb₁=>?_) S.kind);have I3:Inv X pins σ (upd H2 s2.heap.objs.size (.lst [])) { s2 with heap:=s2.heap.push { cls:=.type "list",dict:=none,data:=.seq ([]:List Value).toArray } }:=I2.lnew (its:=[]) (t':=s2.toks) .nil (Nat.zero_le _);generalize hs3:({ s2 with heap:=s2.heap.push { cls:=.type "list",dict:=none,data:=.seq ([]:List Value).toArray } }:Shared)=s3 at I3 hns₁ hsb₁ ⊢;have hsz:s3.heap.objs.size=s2.heap.objs.size+1:=by rw [<- hs3]; exact Heap.size_push ..
 have ob2:∀ b ∈ fp,∃ o,s3.heap.get? b=some o:=fun b hb=>by
  obtain ⟨o,e,_⟩:=T.obj _ _ st2 b hb;rw [<- hs3];exact ⟨o,Heap.get?_push_of_some _ e⟩
 have f3:∀ b ∈ fp,FpOk X pins (upd H2 s2.heap.objs.size (.lst [])) b:=fun b hb=>by
  obtain ⟨o,e,_⟩:=T.obj _ _ st2 b hb;refine ⟨?_,(f2 b hb).2⟩;rw [au (Nat.ne_of_lt (Heap.lt_size e))];exact (f2 b hb).1
 have kp:∀ b o,s3.heap.get? b=some o->h₁.get? b=some o:=fun b o e=>hsb₁.extBut b o (Nat.ne_of_lt (Heap.lt_size e)) (Heap.get?_push_of_some _ e)
 have st3:tn 0 h₁:=T.keep _ _ _ st2 fun b _ o e=>kp b o (by rw [<- hs3]; exact Heap.get?_push_of_some _ e)
 have J4:Inv (cxC X scope (clOf X.env.cells scope.names []) N' s3.heap.objs.size s3 (upd H2 s2.heap.objs.size (.lst [])) fp) (X.pn++pins) (compσ nt fi σ) (upd H2 s2.heap.objs.size (.lst [])) { s3 with heap:=h₁,toks:=s3.toks+([]:List (Str × Value)).length }:=
  ku I3 S cn f3 ob2 hns₁ kp I3.tk
 generalize hcl:clOf X.env.cells scope.names []=cl at J4 ⊢;generalize hH3:upd H2 s2.heap.objs.size (.lst [])=H3 at J4 I3 f3 w0;have stat:∀ {H':Hp},(∀ b ∈ fp,H' b=none)->∀ b ∈ fp,FpOk (cxC X scope cl N' s3.heap.objs.size s3 H3 fp) (X.pn++pins) H' b:=fun {H'} hn b hb=>by
  obtain ⟨g0,g1,g2,g3,g4,g5⟩:=f3 b hb;have ok:=J4.ok;refine ⟨hn b hb,(ok.exf b hb).1,ok.exfs b hb,.inl hb,(ok.exf b hb).2,fun p hp=>g5 p ?_⟩;have hp':p ∈ ([]:List (Addr × Obj))++(X.pn++pins):=hp;simpa using hp'
 have loop:∀ s₃:Shared,s₃ = { s3 with heap:=h₁,toks:=s3.toks+([]:List (Str × Value)).length } ->
   codeAny (model X.prog X.w) X.A (.compLoop (.ListComp elt [⟨tg,iter,ifs,0⟩] scope pos) 0 (.ref it) (.ref s2.heap.objs.size) (compEnvC scope cl s3.heap.objs.size X.env))
    (compPost (model X.prog X.w) X.A X.xe none (EP X pins σ Q) (.ref s2.heap.objs.size) s3.heap.objs.size) s₃:=by
  rintro s₃ rfl;refine gn (fun n s'=>∃ i acc H',Inv (cxC X scope cl N' s3.heap.objs.size s3 H3 fp) (X.pn++pins) (compσ nt fi σ) H' s'/\tn i s'.heap/\(∀ b ∈ fp,H' b=none)/\W i n acc H') ?_ m0
   ⟨0,[],H3,J4,st3,fun b hb=>(f3 b hb).1,w0⟩
  rintro n s5 ⟨i,acc,H5,I5,st5,fr5,w5⟩;rcases turn i n acc H5 w5 with ⟨stop,qn⟩ | ⟨go,step⟩
  ·refine thn (T.done (cxC X scope cl N' s3.heap.objs.size s3 H3 fp) rfl rfl rfl hcalm i (X.pn++pins) s5 (compσ nt fi σ) H5 (fun _ _=>False) I5 (stat fr5) st5 stop) fun r s6 ⟨hr,I6⟩=>?_
   subst hr;obtain ⟨m6,hn6,_⟩:=I6.loc;exact ⟨m6,hn6,fun h' sb=>⟨.ref s2.heap.objs.size,H5,kr I3 f3 (Nat.le_refl _) I6 sb,rfl,qn⟩⟩
  ·refine thn (T.item (cxC X scope cl N' s3.heap.objs.size s3 H3 fp) rfl rfl rfl hcalm i (X.pn++pins) s5 (compσ nt fi σ) H5 (fun _ _=>False) I5 (stat fr5) st5 go) fun r s6 ⟨u,hr,h6⟩=>?_
   subst hr;refine thn h6 fun _ s7 ⟨x,H7,I7,r7,y7,st7,fr7⟩=>?_
   have I7':=I7.pinned (stat fr7) (T.obj _ _ st7);refine thn (hg _ _ _ _ _ _ s7 (compσ nt fi σ) H7 x u _ I7' r7 (gk _ _ _ _ (step x H7 y7))) fun _ s8 ⟨σ8,H8,I8,q8,l8,d8⟩=>?_
   refine thn (hc _ _ _ _ _ _ s8 σ8 H8 _ I8 q8) fun b s9 ⟨H9,I9,q9⟩=>?_
   have again:∀ {s':Shared} {H':Hp} {m':Nat} {acc':List V},Inv (cxC X scope cl N' s3.heap.objs.size s3 H3 fp) ((X.pn++pins)++pinsAt fp s7.heap) σ8 H' s'->m' < n->W (i+1) m' acc' H' ->
     ∃ m,m < n/\∃ i acc H',Inv (cxC X scope cl N' s3.heap.objs.size s3 H3 fp) (X.pn++pins) (compσ nt fi σ) H' s'/\tn i s'.heap/\(∀ b ∈ fp,H' b=none)/\W i m acc H':=fun {s' H' m' acc'} I' hm w'=>by
    refine ⟨m',hm,i+1,acc',H',I'.unpinned.weak l8.symm (compσ_weak l8 d8),T.keep _ _ _ st7 fun b hb o e=>(I'.pin (b,o) (List.mem_append_right _ (List.mem_append_right _ (cC hb e)))).1,fun b hb=>?_,w'⟩;obtain ⟨o,e,d⟩:=T.obj _ _ st7 b hb;exact (I'.pin (b,o) (List.mem_append_right _ (List.mem_append_right _ (cC hb e)))).2.1
   cases b with
   | false=>
    rw [if_neg Bool.false_ne_true] at q9 ⊢;obtain ⟨m',hm,w'⟩:=q9;exact again I9 hm w'
   | true=>
    rw [if_pos rfl] at q9 ⊢;refine thn (he _ _ _ _ _ _ s9 σ8 H9 _ I9 q9) fun uv s10 ⟨v10,H10,I10,r10,hD,hlt,m',hm,w'⟩=>?_
    refine thn (gS (X:=cxC X scope cl N' s3.heap.objs.size s3 H3 fp) _ s10 σ8 H10 (.ref s2.heap.objs.size) [v10] (.ref s2.heap.objs.size) [uv] (fun _ H'=>H'=upd H10 s2.heap.objs.size (.lst (acc++[v10]))) I10 rfl (.cons r10 .nil) ⟨_,acc,v10,rfl,rfl,hD,hlt,rfl⟩) fun _ s11 ⟨_,H11,I11,_,e11⟩=>?_
    subst e11;exact again I11 hm w'
 exact codeAny_compStart_list (loop _ rfl) (T.self _ 0 _ _ _ st3 (loop _ rfl))
end
noncomputable abbrev st (l:List Nat):Str:=⟨l.toArray⟩
theorem jV (l:List Nat):(st l).length=l.length:=by simp [Str.length]
theorem de (l:List Nat):(st l).cps.toList=l:=rfl
theorem rk (l m:List Nat):st l++st m=st (l++m):=by
 show Str.append (st l) (st m)=_;simp [Str.append]
theorem rT {l m:List Nat}:st l=st m ↔ l=m:=by simp
theorem lg {ys:List Str}:∀ {us:List Value},Vals (ys.map V.str) us->StrsAre us ys:=by
 induction ys with
 | nil=>intro us r; cases r; exact .nil
 | cons y r ih=>
  intro us h;cases h with
  | cons r1 r2=>
   obtain ⟨t,rfl⟩:=r1;exact .cons y t (ih r2)
theorem jc (l:List Nat):Txt.join ⟨#[]⟩ (l.map fun k=>(⟨#[k]⟩:Str))=st l:=by
 have h:=join_plain_closes ⟨#[]⟩ (l.map fun k=>(⟨#[k]⟩:Str));rw [eq_of_beq h];exact join_ones l
section
variable {X:Cx}
noncomputable def rJoin (K:Frag):V->List V->Hp->VK->Prop:=fun x vs H Q=>∃ sep l ys,x=.str sep/\vs=[.ref l]/\SqL K H l (ys.map V.str)/\(ys.map (·.length)).sum+ys.length*sep.length<=16777216/\Q (.str (Txt.join sep ys)) H
theorem qY:MtR X "str.join" (rJoin X.K):=by
 intro pins s σ H x vs v us Q I rx rv h;obtain ⟨sep,l,ys,rfl,rfl,hq,hz,q⟩:=h;obtain ⟨t,rfl⟩:=rx;obtain ⟨u,rfl,ru⟩:=rv.one;cases ru;obtain ⟨its,r,pl,_⟩:=I.list hq;exact tokQ I.tk (join_list pl.isList (lg r) hz fun t' k (htk:0 < k)=>⟨.str _,H,I.tok _,⟨_,rfl⟩,q⟩)
theorem oR (l:List Nat):((l.map fun k=>(⟨#[k]⟩:Str)).map (·.length)).sum=l.length:=by
 induction l with
 | nil=>rfl
 | cons a r ih=>
  rw [List.map_cons,List.map_cons,List.sum_cons,ih,List.length_cons];show 1+r.length=r.length+1;omega
noncomputable def rJoin1 (K:Frag):V->List V->Hp->VK->Prop:=fun x vs H Q=>∃ l cs,x=.str (Str.ofString "")/\vs=[.ref l]/\SqL K H l (cs.map fun k=>V.str ⟨#[k]⟩)/\cs.length<=10000/\Q (.str (st cs)) H
theorem gC:Str.ofString "" = ⟨#[]⟩:=by decide +kernel
theorem oz:MtR X "str.join" (rJoin1 X.K):=by
 intro pins s σ H x vs v us Q I rx rv h;obtain ⟨l,cs,rfl,rfl,hq,hz,q⟩:=h;refine qY pins s σ H _ _ v us Q I rx rv ⟨_,l,cs.map fun k=>⟨#[k]⟩,rfl,rfl,?_,?_,?_⟩
 ·rw [List.map_map];exact hq
 ·rw [oR,List.length_map,gC];show cs.length+cs.length*0<=16777216;omega
 ·rw [gC,jc];exact q
noncomputable def rSlS:V->Option Int->Option Int->Hp->VK->Prop:=fun x lo hi H Q=>∃ z,x=.str z/\z.length<=sizeLine/\Q (.str (Txt.slice z lo hi)) H
theorem nI:SlR X rSlS:=by
 intro pins s σ H x v vl vu lo hi sl Q I rx hs pl pu h;obtain ⟨z,rfl,hz,q⟩:=h;obtain ⟨t,rfl⟩:=rx;have fin:∀ t' k,0 < k->EP X pins σ Q (.str (Txt.slice z lo hi) t') { s with toks:=k }:=fun t' k htk=>⟨.str _,H,I.tok _,⟨_,rfl⟩,q⟩
 refine ⟨"str",_,F.slot_str_getitem.lookup,typeIs_str _ _ _,tokQ I.tk ?_⟩;obtain ⟨o,e1,e2,e3⟩:=id hs;cases pl with
 | none=>
  cases pu with
  | none=>exact wpAny_getItem_str_slice (l:=none) (u:=none) (st:=none) ⟨o,e1,e2,e3⟩ rfl (post_val_or_str ⟨Nat.le_trans (Txt.slice_le z _ _) hz,fin⟩)
  | int j tj=>exact wpAny_getItem_str_slice (l:=none) (u:=some (j,tj)) (st:=none) ⟨o,e1,e2,e3⟩ rfl (post_val_or_str ⟨Nat.le_trans (Txt.slice_le z _ _) hz,fin⟩)
 | int i ti=>
  cases pu with
  | none=>exact wpAny_getItem_str_slice (l:=some (i,ti)) (u:=none) (st:=none) ⟨o,e1,e2,e3⟩ rfl (post_val_or_str ⟨Nat.le_trans (Txt.slice_le z _ _) hz,fin⟩)
  | int j tj=>exact wpAny_getItem_str_slice (l:=some (i,ti)) (u:=some (j,tj)) (st:=none) ⟨o,e1,e2,e3⟩ rfl (post_val_or_str ⟨Nat.le_trans (Txt.slice_le z _ _) hz,fin⟩)
theorem oK (l:List Nat) (k:Nat) (h:k<=l.length):Txt.slice (st l) none (some (k:Int))=st (l.take k):=by
 have q:=slice_closes_to (x:=st l) (j:=(k:Int)) ⟨by omega,by simpa using h⟩;rw [eq_of_beq q];simp
theorem lm (l:List Nat) (k:Nat) (h:k<=l.length):Txt.slice (st l) (some (k:Int)) none=st (l.drop k):=by
 have q:=slice_from_eq (x:=st l) (i:=(k:Int)) (b:=(l.length:Int)) (by omega) (by simpa [Str.length] using h) (by simp [Str.length]);rw [q];simp only [de,Int.toNat_natCast];rw [List.take_of_length_le (by rw [List.length_drop]; omega)]
theorem kY:OpR X (binaryOp .Mult) (fun x y H Q=>∃ z n,x=.str z/\y=.int n/\MulOk z n/\Q (.str (Txt.mul z n)) H):=by
 intro pins s σ H x y v u Q I rx ry h;obtain ⟨z,n,rfl,rfl,hok,q⟩:=h;obtain ⟨t,rfl⟩:=rx;obtain ⟨t',rfl⟩:=ry;exact tokQ I.tk (SB.mul hok fun t' k (htk:0 < k)=>⟨.str _,H,I.tok _,⟨_,rfl⟩,q⟩)
theorem mul1 (k n:Nat):Txt.mul ⟨#[k]⟩ (n:Int)=st (List.replicate n k):=by
 have q:=mul_one_list k (n:Int);rw [Int.toNat_natCast] at q;have e:∀ x:Str,x=⟨x.cps.toList.toArray⟩:=fun x=>by simp
 rw [e (Txt.mul ⟨#[k]⟩ (n:Int)),q]
theorem kK:CallR X (.builtin "isinstance") (fun xs H Q=>∃ x n t b,xs=[x,.ty n]/\TyOf X.K H x t/\PySem.W.kitOne X.K t (.type n)=some b/\Q (.bl b) H):=by
 intro pins s σ H xs us Q I r h;obtain ⟨x,n,t,b,rfl,ty,e,q⟩:=h;obtain ⟨u,w',rfl,r1,r2⟩:=vals2 r;cases r2;exact tokQ I.tk (mS I r1 ty e fun tk (htk:0 < tk)=>⟨.bl b,H,I.tok _,rfl,q⟩)
end
def Fn (K:Frag) (mg:Str->Option Value) (x:Str) (st:Stmt):Prop:=∃ f fd,Fun K x x st f fd/\mg x=some (.ref f)
def Callee (P:Program) (w:World) (K:Frag) (mg:Str->Option Value) (base:Heap) (k:Nat) (x:Str) (ps:List Str) (sp:Sp):Prop:=
 ∃ f fd,FnOk P w K mg base CX0 k f fd ps sp/\Binds K fd ps []/\keepIn K (.ref f)=true/\mg x=some (.ref f)
theorem Callee.mono {P:Program} {w:World} {K:Frag} {mg:Str->Option Value} {base:Heap} {j k:Nat} {x:Str} {ps:List Str} {sp:Sp} (C:Callee P w K mg base j x ps sp) (h:j<=k):Callee P w K mg base k x ps sp:=by
 obtain ⟨f,fd,F,r⟩:=C;exact ⟨f,fd,F.mono h,r⟩
theorem Fn.cal {P:Program} {w:World} {K:Frag} {mg:Str->Option Value} {base:Heap} {x:Str} {st:Stmt} {N ps:List Str} {k:Nat} {sp:Sp} (F:Fn K mg x st) (S:FnScope N ps (defScope st)) (len:∀ vs H Q E,sp vs H Q E->vs.length=ps.length)
  (hb:∀ (kV doc pm:Value) (an:Option Addr) (cdv ct:Value) (us:List Value),us.length=ps.length->bindArgs (fnOf x x (defArgs st) (defBody st) (defScope st) .none kV doc pm an cdv ct) ⟨us,[]⟩=pure (ps.zip us))
  (hbody:∀ (f:Addr) (cdv:Value) (A:Around) (outer:List Env) (s:Shared) (H:Hp) (vs:List V) (Q:VK) (E:XK),Room k (A.deeper (envOfC x (defScope st) s.heap.objs.size f cdv))->sp vs H Q E ->
   ∃ t,PSs (cxOf CX0 P w K mg base N x (defScope st) f cdv A outer s H E).nox (defBody st) t/\t { nx:=fun _ H'=>Q .non H',rt:=Q } (start N vs) H):Callee P w K mg base (k+1) x ps sp:=by
 obtain ⟨f,fd,F,m⟩:=F;exact ⟨f,fd,F.ok S len (hbody f),F.binds hb,F.kp,m⟩
section
variable {X:Cx} {k:Nat} {x:Str} {ps:List Str} {sp:Sp} {p pos:Pos} {e:Expr} {es:List Expr} {t:TA}
theorem av (C:Callee X.prog X.w X.K X.mg X.base k x ps sp) (hr:Room k X.A) (hg:Gl X x) (ha:PA X (e::es) t)
  (he:starEach (e::es) X.env=(false,eval e X.env)::starEach es X.env:=by rfl) (hpl:(backTo pos (starEach es X.env)).any (·.1)=false:=by rfl) (hd:(x == ("__debug__" : Str))=false:=by decide):PE X (.Call (.Name x p) (e::es) [] pos) (tCall sp [] E0 t):=by
 obtain ⟨f,fd,F,b,kp,m⟩:=C;exact lV F hr hg m kp b .nil pass0 ha (hdb:=hd) (he:=he) (hpl:=hpl)
end
noncomputable def tJoin (t u:TS):TS:=fun D σ H=>∃ J:St->Hp->Prop,t { D with nx:=J } σ H/\∀ σ' H',J σ' H'->u D σ' H'
theorem bV {X:Cx} {st:Stmt} {rest:List Stmt} {t u:TS} (h1:PS X st t) (h2:PSs X rest u):PSs X (st::rest) (tJoin t u):=by
 intro pins s σ H D I h;obtain ⟨J,hj,hr⟩:=h;refine wpAny_execs_cons (thn (h1 pins s σ H { D with nx:=J } I hj) fun f s1 q=>?_);cases f with
 | next=>
  obtain ⟨σ',H',I',q⟩:=q;exact h2 pins s1 σ' H' D I' (hr σ' H' q)
 | ret v=>exact q
 | brk=>exact q
 | cont=>exact q
theorem ae {H:Hp} {p:Addr} (h:H p=none) (o:HO):Same H (upd H p o):=fun b u q=>by rw [au (bc q h)]; exact q
theorem aL {H H':Hp} {p:Addr} {o:HO} (s:Same H H') (h:H p=none):Same H (upd H' p o):=fun b u q=>by rw [au (bc q h)]; exact s b u q
theorem sizeBig {n:Nat} (h:n<=100000):n < sizeLine:=Nat.lt_of_le_of_lt h (by decide)
def RowL (l:List Nat):Prop:=∀ c ∈ l,c=48\/c=49\/c=45
theorem RowL.nil:RowL []:=fun _ h=>nomatch h
theorem RowL.snoc {l:List Nat} {c:Nat} (h:RowL l) (hc:c=48\/c=49\/c=45):RowL (l++[c]):=fun d hd=>by
 rcases List.mem_append.mp hd with q | q
 ·exact h d q
 ·rw [List.mem_singleton.mp q];exact hc
section
variable {X:Cx}
theorem PE.imp {e:Expr} {t t':TE} (h:PE X e t) (k:∀ σ H Q,t' σ H Q->t σ H Q):PE X e t':=fun pins s σ H Q I q=>h pins s σ H Q I (k σ H Q q)
theorem PT.imp {e:Expr} {t t':TT} (h:PT X e t) (k:∀ σ H Q,t' σ H Q->t σ H Q):PT X e t':=fun pins s σ H Q I q=>h pins s σ H Q I (k σ H Q q)
theorem PI.imp {tg e:Expr} {t t':TI} (h:PI X tg e t) (k:∀ σ H Q,t' σ H Q->t σ H Q):PI X tg e t':=fun pins s σ H Q I q=>h pins s σ H Q I (k σ H Q q)
theorem PG.imp {e:Expr} {t t':TG} (h:PG X e t) (k:∀ v σ H Q,t' v σ H Q->t v σ H Q):PG X e t':=fun pins s σ H v u Q I r q=>h pins s σ H v u Q I r (k v σ H Q q)
theorem OpR.imp {f:Value->Value->Sem Value} {r r':R2} (h:OpR X f r) (k:∀ x y H Q,r' x y H Q->r x y H Q):OpR X f r':=fun pins s σ H x y v u Q I rx ry q=>h pins s σ H x y v u Q I rx ry (k x y H Q q)
theorem CallR.imp {f:Value} {r r':List V->Hp->VK->Prop} (h:CallR X f r) (k:∀ xs H Q,r' xs H Q->r xs H Q):CallR X f r':=fun pins s σ H xs us Q I r q=>h pins s σ H xs us Q I r (k xs H Q q)
theorem IxR.imp {r r':R2} (h:IxR X r) (k:∀ x y H Q,r' x y H Q->r x y H Q):IxR X r':=fun a b pins s σ H x y v u Q I rx ry q=>h a b pins s σ H x y v u Q I rx ry (k x y H Q q)
theorem MtR.imp {id:String} {r r':V->List V->Hp->VK->Prop} (h:MtR X id r) (k:∀ x xs H Q,r' x xs H Q->r x xs H Q):MtR X id r':=fun pins s σ H x xs v us Q I rx r q=>h pins s σ H x xs v us Q I rx r (k x xs H Q q)
theorem SlR.imp {r r':V->Option Int->Option Int->Hp->VK->Prop} (h:SlR X r) (k:∀ x a b H Q,r' x a b H Q->r x a b H Q):SlR X r':=fun pins s σ H x v vl vu lo hi sl Q I rx hs pl pu q=>h pins s σ H x v vl vu lo hi sl Q I rx hs pl pu (k x lo hi H Q q)
noncomputable def cVar (i:Nat):TE:=fun σ H Q=>match σ[i]? with | some (some v)=>Q v H | _=>False
theorem qv (i:Nat) {x:Str} {pos:Pos} (hN:X.N[i]? = some x:=by rfl) (hv:Vis X.env.scope x:=by first | exact Or.inl rfl | exact Or.inr (Or.inl rfl) | exact Or.inr (Or.inr rfl)) (hd:(x == ("__debug__" : Str))=false:=by decide)
  (hcd:(x == ("__classdict__" : Str))=false:=by decide):PE X (.Name x pos) (cVar i):=(oF hN hv hd hcd).imp fun σ H Q q=>by
 unfold cVar at q;split at q
 ·exact ⟨_,by assumption,q⟩
 ·exact q.elim
theorem qs (l:List Nat) {x:Str} {j pos} (h:x=st l:=by decide +kernel):PE X (.Constant (.str x) j pos) (tC (.str (st l))):=by
 rw [<- h];exact nC
theorem cy (a:Str):st a.cps.toList=a:=by simp
noncomputable def kAdd:R2:=fun x y H Q=>match x,y with
 | .int i,.int j=>Q (.int (i+j)) H
 | .str a,.str b=>a.cps.toList.length+b.cps.toList.length<=100000/\Q (.str (st (a.cps.toList++b.cps.toList))) H
 | .ref l,.ref b=>∃ xs zs,H l=some (.lst xs)/\H b=some (.lst zs)/\xs.length+zs.length<=sizeLine/\∀ p,H p=none->Q (.ref p) (upd H p (.lst (xs++zs)))
 | _,_=>False
theorem ah:OpR X (binaryOp .Add) kAdd:=by
 intro pins s σ H x y v u Q I rx ry q;unfold kAdd at q;split at q
 ·exact rz pins s σ H _ _ v u Q I rx ry ⟨_,_,rfl,rfl,q⟩
 ·obtain ⟨h,q⟩:=q;refine lA pins s σ H _ _ v u Q I rx ry ⟨_,_,rfl,rfl,?_,?_⟩
  ·have:(100000:Nat)<=sizeLine:=by decide
   simp only [Array.length_toList] at h;simp only [Str.length];omega
  ·rename_i a b;have e:a++b=st (a.cps.toList++b.cps.toList):=by
    rw [<- rk,cy,cy]
   rw [e];exact q
 ·obtain ⟨xs,zs,h1,h2,h3,q⟩:=q;exact tz pins s σ H _ _ v u Q I rx ry ⟨_,_,_,_,rfl,rfl,h1,h2,h3,q⟩
 ·exact q.elim
noncomputable def kI (C:Int->Int->Prop) (g:Int->Int->V):R2:=fun x y H Q=>match x,y with
 | .int i,.int j=>C i j/\Q (g i j) H
 | _,_=>False
noncomputable def kI0 (g:Int->Int->V):R2:=fun x y H Q=>match x,y with
 | .int i,.int j=>Q (g i j) H
 | _,_=>False
theorem oT {C:Int->Int->Prop} {g:Int->Int->V}:∀ x y H Q,kI C g x y H Q->rI C g x y H Q:=fun x y H Q q=>by
 unfold kI at q;split at q
 ·exact ⟨_,_,rfl,rfl,q.1,q.2⟩
 ·exact q.elim
theorem jX {g:Int->Int->V}:∀ x y H Q,kI0 g x y H Q->rI0 g x y H Q:=fun x y H Q q=>by
 unfold kI0 at q;split at q
 ·exact ⟨_,_,rfl,rfl,q⟩
 ·exact q.elim
noncomputable abbrev kSub:R2:=kI0 fun i j=>.int (i - j)
noncomputable abbrev kMod:R2:=kI (fun _ j=>0 < j) fun i j=>.int (i % j)
noncomputable abbrev kFdiv:R2:=kI CDiv fun i j=>.int (i / j)
theorem qa:OpR X (binaryOp .Sub) kSub:=rY.imp jX
theorem dw:OpR X (binaryOp .Mod) kMod:=sM.imp oT
theorem oG:OpR X (binaryOp .FloorDiv) kFdiv:=qt.imp oT
noncomputable def kMul:R2:=fun x y H Q=>match x,y with
 | .int i,.int j=>CMul i j/\Q (.int (i*j)) H
 | .str a,.int n=>∃ c,a.cps.toList=[c]/\0<=n/\n<=10000/\Q (.str (st (List.replicate n.toNat c))) H
 | .ref l,.int k=>∃ xs,H l=some (.lst xs)/\0<=k/\k<=10000/\xs.length=1/\∀ p,H p=none->Q (.ref p) (upd H p (.lst (List.replicate k.toNat xs).flatten))
 | _,_=>False
theorem mR (k n:Nat) (hn:n<=10000):MulOk ⟨#[k]⟩ (n:Int):=by
 have hl:(⟨#[k]⟩:Str).length=1:=rfl;refine ⟨?_,fun _ _=>?_,fun _ _=>?_⟩
 ·rw [decide_eq_false (by omega),decide_eq_false (by omega)];rfl
 ·rw [hl];intro z;have:(2 ^ 63 - 1) / (n:Int) < 1:=by omega
  have h2:(n:Int)<=10000:=by omega
  have h1:¬ (n:Int) < 1:=by assumption
  have h3:1<=(2 ^ 63 - 1) / (n:Int):=by
   rw [Int.le_ediv_iff_mul_le (by omega)];omega
  omega
 ·rw [hl];unfold PySem.Builtin.Str.tooLong sizeLine;exact decide_eq_false (by rw [Int.toNat_natCast]; have:(2:Nat) ^ 24=16777216:=(by decide); omega)
theorem bj:OpR X (binaryOp .Mult) kMul:=by
 intro pins s σ H x y v u Q I rx ry q;unfold kMul at q;split at q
 ·exact rP pins s σ H _ _ v u Q I rx ry ⟨_,_,rfl,rfl,q.1,q.2⟩
 ·obtain ⟨c,e,h0,h1,q⟩:=q;rename_i a n;obtain ⟨k,rfl⟩:∃ k:Nat,n=k:=⟨n.toNat,by omega⟩;have ea:a=⟨#[c]⟩:=by rw [<- cy a,e]
  subst ea;refine kY pins s σ H _ _ v u Q I rx ry ⟨_,_,rfl,rfl,mR c k (by omega),?_⟩;rw [mul1];exact q
 ·obtain ⟨xs,h1,h2,h3,h4,q⟩:=q;refine rA pins s σ H _ _ v u Q I rx ry ⟨_,_,_,rfl,rfl,h1,by omega,by omega,?_,q⟩;have:(10000:Nat)<=sizeLine:=by decide
  rw [h4];omega
 ·exact q.elim
noncomputable def kEq (neg:Bool):R2:=fun x y H Q=>match x,y with
 | .int i,.int j=>Q (.bl (neg ^^ decide (i=j))) H
 | .str a,.str b=>Q (.bl (neg ^^ decide (a.cps.toList=b.cps.toList))) H
 | .bl a,.bl b=>Q (.bl (neg ^^ decide (a=b))) H
 | .non,.non=>Q (.bl (neg ^^ true)) H
 | .non,.int _=>Q (.bl (neg ^^ false)) H
 | .int _,.non=>Q (.bl (neg ^^ false)) H
 | .non,.str _=>Q (.bl (neg ^^ false)) H
 | .str _,.non=>Q (.bl (neg ^^ false)) H
 | _,_=>False
theorem kG (a b:Str):decide (V.str a=V.str b)=decide (a.cps.toList=b.cps.toList):=by
 by_cases h:a.cps.toList=b.cps.toList
 ·have:a=b:=by rw [<- cy a,h,cy]
  subst this;simp
 ·rw [decide_eq_false h,decide_eq_false (fun z=>h (by cases z; rfl))]
theorem sR:∀ x y H Q,kEq false x y H Q->rEq x y H Q:=fun x y H Q q=>by
 unfold kEq at q;split at q <;> first
  | exact q.elim
  | (refine ⟨rfl,?_⟩; first | (rw [kG]; simpa using q) | simpa using q)
theorem si:∀ x y H Q,kEq true x y H Q->rNe x y H Q:=fun x y H Q q=>by
 unfold kEq at q;split at q <;> first
  | exact q.elim
  | (refine ⟨rfl,?_⟩; first | (rw [kG]; simpa using q) | simpa using q)
theorem gf:OpR X (compareOp .Eq) (kEq false):=tQ.imp sR
theorem pb:OpR X (compareOp .NotEq) (kEq true):=tN.imp si
noncomputable abbrev kLt:R2:=kI0 fun i j=>.bl (decide (i < j))
noncomputable abbrev kGt:R2:=kI0 fun i j=>.bl (decide (j < i))
theorem sE:OpR X (compareOp .Lt) kLt:=tG.imp jX
theorem ka:OpR X (compareOp .Gt) kGt:=tS.imp jX
noncomputable def kIn (K:Frag) (neg:Bool):R2:=fun x y H Q=>match x,y with
 | .str a,.str b=>∃ c,a.cps.toList=[c]/\Q (.bl (neg ^^ decide (c ∈ b.cps.toList))) H
 | x,.ref p=>∃ xs,(SqL K H p xs\/SqT K H p xs)/\flatV x=true/\xs.all flatV=true/\Q (.bl (neg ^^ inV x xs)) H
 | _,_=>False
theorem sH:OpR X (compareOp .In) (kIn X.K false):=by
 intro pins s σ H x y v u Q I rx ry q;unfold kIn at q;split at q
 ·obtain ⟨c,e,q⟩:=q;rename_i a b;have ea:a=⟨#[c]⟩:=by rw [<- cy a,e]
  subst ea;refine nz pins s σ H _ _ v u Q I rx ry ⟨_,_,rfl,rfl,?_⟩;rw [StrLaws.found_one];simpa using q
 ·obtain ⟨xs,h1,h2,h3,q⟩:=q;exact mF pins s σ H _ _ v u Q I rx ry ⟨_,_,rfl,h1,h2,h3,by simpa using q⟩
 ·exact q.elim
theorem mx:OpR X (compareOp .NotIn) (kIn X.K true):=by
 intro pins s σ H x y v u Q I rx ry q;unfold kIn at q;split at q
 ·obtain ⟨c,e,q⟩:=q;rename_i a b;have ea:a=⟨#[c]⟩:=by rw [<- cy a,e]
  subst ea;refine jS pins s σ H _ _ v u Q I rx ry ⟨_,_,rfl,rfl,?_⟩;rw [StrLaws.found_one];simpa using q
 ·obtain ⟨xs,h1,h2,h3,q⟩:=q;exact jR pins s σ H _ _ v u Q I rx ry ⟨_,_,rfl,h1,h2,h3,by simpa using q⟩
 ·exact q.elim
noncomputable def kIx (K:Frag):R2:=fun x y H Q=>match x,y with
 | .str z,.int i=>z.cps.toList.length<=100000/\∃ c,atI z.cps.toList i=some c/\Q (.str (st [c])) H
 | .ref p,.int i=>∃ xs v,(SqL K H p xs\/SqT K H p xs)/\atI xs i=some v/\Q v H
 | _,_=>False
theorem big5:(100000:Nat)<=sizeLine:=by decide
theorem strlen (z:Str):z.length=z.cps.toList.length:=by simp [Str.length]
theorem ua:IxR X (kIx X.K):=rR.imp fun x y H Q q=>by
 unfold kIx at q;split at q
 ·obtain ⟨h,c,e,q⟩:=q;exact .inr (.inr ⟨_,_,c,rfl,rfl,by rw [strlen]; exact Nat.le_trans h big5,e,q⟩)
 ·obtain ⟨xs,v,h | h,e,q⟩:=q
  ·exact .inl ⟨_,_,_,_,rfl,rfl,h,e,q⟩
  ·exact .inr (.inl ⟨_,_,_,_,rfl,rfl,h,e,q⟩)
 ·exact q.elim
noncomputable def kLen (K:Frag):List V->Hp->VK->Prop:=fun xs H Q=>match xs with
 | [.str z]=>z.cps.toList.length<=100000/\Q (.int z.cps.toList.length) H
 | [.ref p]=>∃ ys,(SqL K H p ys\/SqT K H p ys)/\Q (.int ys.length) H
 | _=>False
theorem nq:CallR X (.builtin "len") (kLen X.K):=by
 intro pins s σ H xs us Q I r q;unfold kLen at q;split at q
 ·obtain ⟨h,q⟩:=q;refine jZ pins s σ H _ us Q I r ⟨_,rfl,by rw [strlen]; exact Nat.le_trans h big5,?_⟩;rw [strlen];exact q
 ·obtain ⟨ys,h,q⟩:=q;exact jW pins s σ H _ us Q I r ⟨_,_,rfl,h,q⟩
 ·exact q.elim
noncomputable def up (t:TE):TE:=fun σ H Q=>∃ Q0:VK,t σ H Q0/\∀ v H',Q0 v H'->Q v H'
noncomputable def up2 (r:R2):R2:=fun x y H Q=>∃ Q0:VK,r x y H Q0/\∀ v H',Q0 v H'->Q v H'
theorem EP.imp {pins:List (Addr × Obj)} {σ:St} {Q Q':VK} {u:Value} {s:Shared} (h:EP X pins σ Q u s) (k:∀ v H',Q v H'->Q' v H'):EP X pins σ Q' u s:=by
 obtain ⟨v,H',I,r,q⟩:=h;exact ⟨v,H',I,r,k v H' q⟩
theorem PE.mono {e:Expr} {t:TE} (h:PE X e t):PE X e (up t):=fun pins s σ H Q I ⟨Q0,q,k⟩=>thn (h pins s σ H Q0 I q) fun u s' z=>z.imp k
theorem OpR.mono {f:Value->Value->Sem Value} {r:R2} (h:OpR X f r):OpR X f (up2 r):=fun pins s σ H x y v u Q I rx ry ⟨Q0,q,k⟩=>thn (h pins s σ H x y v u Q0 I rx ry q) fun u s' z=>z.imp k
noncomputable def blK (Q:Bool->Hp->Prop):VK:=fun x H'=>match x with | .bl k=>Q k H' | _=>False
theorem nE {Q:Bool->Hp->Prop} {x:V} {H':Hp} (h:blK Q x H'):∃ k,x=.bl k/\Q k H':=by
 unfold blK at h;split at h
 ·exact ⟨_,rfl,h⟩
 ·exact h.elim
noncomputable def cTest (t:TE):TT:=fun σ H Q=>t σ H (blK Q)
theorem iG {e:Expr} {t:TE} (h:PE X e t) (he:∀ whole,isTrue e X.env whole=(do let v <- whole; standAt e.pos; holding [v] (truthy v)):=by intro _; rfl):PT X e (cTest t):=
 (rq h.mono he).imp fun σ H Q q=>⟨_,q,fun v H' z=>nE z⟩
variable {a b c:Expr} {ta tb tc:TE} {pos:Pos} {rest:List Expr}
theorem aV {op:CmpOp} {r:R2} (ho:OpR X (compareOp op) r) (ha:PE X a ta) (hb:PE X b tb) (hm:behindInMarks op b=false:=by first | exact nomark _ | rfl):PT X (.Compare a [op] [b] pos) (cTest (tOp r ta tb)):=
 (qo ho.mono ha.mono hb.mono hm).imp fun σ H Q q=>⟨_,q,fun x H1 z=>⟨_,z,fun y H2 z2=>⟨_,z2,fun v H' z3=>nE z3⟩⟩⟩
theorem oB {op:CmpOp} {r:R2} (ho:OpR X (compareOp op) r) (ha:PE X a ta) (hb:PE X b tb) (hm:behindInMarks op b=false:=by first | exact nomark _ | rfl):PE X (.Compare a [op] [b] pos) (tOp r ta tb):=qW ho ha hb hm
variable {o e:Expr} {to te:TE} {apos cpos:Pos}
noncomputable def cApp (to te:TE):TE:=fun σ H Q=>to σ H fun x H1=>match x with
 | .ref l=>(∃ xs,H1 l=some (.lst xs))/\te σ H1 fun y H2=>∃ xs,H2 l=some (.lst xs)/\xs.length < sizeLine/\Q .non (upd H2 l (.lst (xs++[y])))
 | _=>False
theorem aD (ho:PE X o to) (he:PE X e te) (hbase:attributeBase o "append" X.env (eval o X.env)=eval o X.env:=by rfl)
  (hfew:((backTo cpos (starEach [e] X.env)).all (fun x=>!x.1) && (backToKw cpos (keywordEach [] X.env)).all (fun x=>x.1.isSome)
   && decide ([e].length+([]:List Keyword).length+(if ([]:List Keyword).isEmpty then 0 else 1) < 30))=true:=by rfl)
  (hline:(apos.endLine == cpos.line)=true:=by rfl) (hs:starEach [e] X.env=(false,eval e X.env)::starEach [] X.env:=by rfl) (hplain:(backTo cpos (starEach [] X.env)).any (·.1)=false:=by rfl):
  PE X (.Call (.Attribute o "append" apos) [e] [] cpos) (cApp to te):=
 (lX PySem.F.plainAttrs_list PySem.F.slot_list_append PySem.F.type_list_append gS ho.mono (aa he.mono ad hs) hbase hfew hline hs hplain).imp fun σ H Q q=>⟨_,q,fun x H1 z=>by
  split at z
  ·rename_i l;obtain ⟨⟨xs,h⟩,z⟩:=z;refine ⟨.inl ⟨rfl,_,SqL.of h⟩,_,z,fun y H2 z2=>?_⟩;obtain ⟨xs2,h2,h3,z3⟩:=z2;exact ⟨l,xs2,y,rfl,rfl,h2,h3,z3⟩
  ·exact z.elim⟩
noncomputable def cJoin1 (K:Frag) (te:TE):TE:=fun σ H Q=>te σ H fun x H1=>match x with
 | .ref l=>∃ cs:List Nat,SqL K H1 l (cs.map fun k=>V.str (st [k]))/\cs.length<=10000/\Q (.str (st cs)) H1
 | _=>False
theorem nW {j:Nat} {p1:Pos} (he:PE X e te) (hfew:((backTo cpos (starEach [e] X.env)).all (fun x=>!x.1) && (backToKw cpos (keywordEach [] X.env)).all (fun x=>x.1.isSome)
   && decide ([e].length+([]:List Keyword).length+(if ([]:List Keyword).isEmpty then 0 else 1) < 30))=true:=by rfl)
  (hline:(apos.endLine == cpos.line)=true:=by rfl) (hs:starEach [e] X.env=(false,eval e X.env)::starEach [] X.env:=by rfl) (hplain:(backTo cpos (starEach [] X.env)).any (·.1)=false:=by rfl)
  (hbase:attributeBase (.Constant (.str (Str.ofString "")) j p1) "join" X.env (eval (.Constant (.str (Str.ofString "")) j p1) X.env)=eval (.Constant (.str (Str.ofString "")) j p1) X.env:=by rfl):
  PE X (.Call (.Attribute (.Constant (.str (Str.ofString "")) j p1) "join" apos) [e] [] cpos) (cJoin1 X.K te):=
 (lX PySem.F.plainAttrs_str PySem.F.slot_str_join PySem.F.type_str_join oz nC (aa he.mono ad hs) hbase hfew hline hs hplain).imp fun σ H Q q=>⟨rfl,_,q,fun x H1 z=>by
  split at z
  ·obtain ⟨cs,h,h2,z⟩:=z;exact ⟨_,cs,rfl,rfl,h,h2,z⟩
  ·exact z.elim⟩
end
section
variable {X:Cx} {tg a b e:Expr} {te ta tb:TE} {pos p:Pos}
noncomputable def cIter (K:Frag) (te:TE):TI:=fun σ H R=>te σ H fun x H1=>match x with
 | .str z=>R (Its z) H1
 | .ref a=>((∃ xs,SqL K H1 a xs)/\R (Itl K a) H1)\/((∃ xs,SqT K H1 a xs)/\R (Itt K a) H1)
 | _=>False
theorem qh (he:PE X e te):PI X tg e (cIter X.K te):=by
 intro pins s σ H R I h;refine thn (he pins s σ H _ I h) fun v s1 ⟨y,H1,I1,r1,q1⟩=>?_
 dsimp only at q1;split at q1
 ·rename_i x;obtain ⟨t,rfl⟩:=r1;refine wpAny_pyIter_strU ?_;refine ⟨s1.heap.objs.size,[s1.heap.objs.size],_,Its x,H1,rfl,I1.kept (t':=s1.toks) fun b o e=>Heap.get?_push_of_some _ e,oo x t _,⟨_,Heap.get?_push_size _ rfl,rfl,rfl⟩,fun b hb=>?_,q1⟩;have e:b=s1.heap.objs.size:=by simpa using hb
  subst e;exact I1.fpOk (Nat.le_refl _) (I1.hok.fresh (Nat.le_refl _))
 ·rename_i l;cases r1;rcases q1 with ⟨⟨xs,hq⟩,q⟩ | ⟨⟨xs,hq⟩,q⟩
  ·obtain ⟨its,rv,p,hz⟩:=I1.list hq;refine wpAny_pyIter_list p.isList ?_;refine ⟨s1.heap.objs.size,[s1.heap.objs.size],_,_,H1,rfl,I1.kept (t':=s1.toks) fun b o e=>Heap.get?_push_of_some _ e,mC l _,⟨_,Heap.get?_push_size _ rfl,rfl,rfl⟩,fun b hb=>?_,q⟩;have e:b=s1.heap.objs.size:=by simpa using hb
   subst e;exact I1.fpOk (Nat.le_refl _) (I1.hok.fresh (Nat.le_refl _))
  ·obtain ⟨its,rv,p,hz⟩:=I1.tuple hq;refine wpAny_pyIter_tuple (show s1.heap.IsTuple l its.toArray from p) ?_;refine ⟨s1.heap.objs.size,[s1.heap.objs.size],_,_,H1,rfl,I1.kept (t':=s1.toks) fun b o e=>Heap.get?_push_of_some _ e,ln l _,⟨_,Heap.get?_push_size _ rfl,rfl,rfl⟩,fun b hb=>?_,q⟩;have e:b=s1.heap.objs.size:=by simpa using hb
   subst e;exact I1.fpOk (Nat.le_refl _) (I1.hok.fresh (Nat.le_refl _))
 ·exact q1.elim
noncomputable def cRng1 (te:TE):TI:=fun σ H R=>te σ H fun x H1=>match x with
 | .int j=>-1000000<=j/\j<=1000000/\R (Itr 0 j.toNat) H1
 | _=>False
theorem aR (hg:Gl X "range") (hm:X.mg "range" = none) (ha:PE X a ta) (hs:starEach [a] X.env=[(false,eval a X.env)]:=by rfl):PI X tg (.Call (.Name "range" p) [a] [] pos) (cRng1 ta):=
 (nk hg hm (aa ha.mono ad hs) hs).imp fun σ H R q=>⟨_,q,fun x H1 z=>by
  split at z
  ·exact ⟨_,rfl,by omega,by omega,z.2.2⟩
  ·exact z.elim⟩
def srcK (K:Frag) (H:Hp) (v:V) (R:Src->Prop):Prop:=match v with
 | .str x=>R (.str x)
 | .ref a=>(∃ xs,SqL K H a xs)/\R (.lst a)
 | _=>False
theorem mh {K:Frag} {H:Hp} {v:V} {R:Src->Prop} (h:srcK K H v R):∃ S,SrcOf K H S v/\R S:=by
 unfold srcK at h;split at h
 ·exact ⟨.str _,rfl,h⟩
 ·exact ⟨.lst _,⟨rfl,h.1⟩,h.2⟩
 ·exact h.elim
end
def loopW (J:It) (g:TG) (tb:TS) (D:Ends) (σ:St) (H:Hp):Prop:=∃ W:Nat->Nat->St->Hp->Prop,(∃ m,W 0 m σ H)/\∀ i m σ H,W i m σ H ->
 (J.stop i H/\D.nx σ H)\/(J.go i H/\∃ N:St->Hp->Prop,(∀ σ' H',N σ' H'->∃ m',m' < m/\W (i+1) m' σ' H')/\∀ x H',J.yld i H x H'->g x σ H' fun σ2 H2=>tb { D with nx:=N,ct:=N,bk:=D.nx } σ2 H2)
noncomputable def cFor (wi:TI) (g:TG) (tb:TS):TS:=fun D σ H=>wi σ H fun J H1=>loopW J g tb D σ H1
theorem dh {X:Cx} {tg iter:Expr} {body:List Stmt} {wi:TI} {g:TG} {tb:TS} {pos:Pos} (hp:PassesOwn (model X.prog X.w) X.A X.env X.xe) (hc:X.calm=true) (hi:PI X tg iter wi) (hg:PG X tg g) (hb:PSs X body tb)
  (hs:∀ x,foldedSetIterable iter X.env x=pure x:=by intro _; rfl):PS X (.For tg iter body [] pos) (cFor wi g tb):=rC hp hc hi hg hb hs
section
variable {K:Frag} {g:TG} {tb:TS} {D:Ends} {σ:St} {H:Hp}
noncomputable abbrev Ends.turn (D:Ends) (N:St->Hp->Prop):Ends:={ D with nx:=N,ct:=N,bk:=D.nx }
theorem dU {p:Addr} {xs:List V} (Pv:Nat->St->Hp->Prop) (h0:Pv 0 σ H) (hl:∀ i σ H,i<=xs.length->Pv i σ H->SqL K H p xs)
  (hs:∀ i x σ H,xs[i]? = some x->Pv i σ H->g x σ H fun σ2 H2=>tb (D.turn (Pv (i+1))) σ2 H2) (hd:∀ σ H,Pv xs.length σ H->D.nx σ H):loopW (Itl K p) g tb D σ H:=nG Pv h0 hl hs hd
theorem kU {α:Type} (item:α -> V) (xs:List α) {p:Addr} (Pv:Nat->St->Hp->Prop) (h0:Pv 0 σ H) (hl:∀ i σ H,i<=xs.length->Pv i σ H->SqL K H p (xs.map item))
  (hs:∀ i x σ H,xs[i]? = some x->Pv i σ H->g (item x) σ H fun σ2 H2=>tb (D.turn (Pv (i+1))) σ2 H2) (hd:∀ σ H,Pv xs.length σ H->D.nx σ H):loopW (Itl K p) g tb D σ H:=
 dU (xs:=xs.map item) Pv h0 (fun i σ H hi=>hl i σ H (by simpa using hi)) (fun i x σ H hx p=>by
  rw [List.getElem?_map] at hx;obtain ⟨y,hy,rfl⟩:=Option.map_eq_some_iff.mp hx;exact hs i y σ H hy p) (fun σ H p=>hd σ H (by simpa using p))
theorem cB {lo:Int} {n:Nat} (Pv:Nat->St->Hp->Prop) (h0:Pv 0 σ H) (hs:∀ i σ H,i < n->Pv i σ H->g (.int (lo+i)) σ H fun σ2 H2=>tb (D.turn (Pv (i+1))) σ2 H2) (hd:∀ σ H,Pv n σ H->D.nx σ H):
  loopW (Itr lo n) g tb D σ H:=mV Pv h0 hs hd
noncomputable def SrcVals (K:Frag) (H:Hp):Src->List V->Prop
 | .str x,xs=>xs=x.cps.toList.map fun c=>V.str (st [c])
 | .lst a,xs=>SqL K H a xs
theorem SrcVals.go {S:Src} {xs:List V} {i:Nat} (h:SrcVals K H S xs) (hi:i < xs.length):SrcGo K H S i:=by
 cases S with
 | str x=>
  have e:xs=x.cps.toList.map fun c=>V.str (st [c]):=h
  subst e;show i < x.cps.size;simpa using hi
 | lst a=>exact ⟨xs,xs[i],h,by simp [hi]⟩
theorem SrcVals.stop {S:Src} {xs:List V} {i:Nat} (h:SrcVals K H S xs) (hi:xs.length<=i):SrcEnd K H S i:=by
 cases S with
 | str x=>
  have e:xs=x.cps.toList.map fun c=>V.str (st [c]):=h
  subst e;show x.cps.size<=i;simpa using hi
 | lst a=>exact ⟨xs,h,hi⟩
theorem SrcVals.at {S:Src} {xs:List V} {i:Nat} {v:V} (h:SrcVals K H S xs) (q:SrcAt K H S i v):xs[i]? = some v:=by
 cases S with
 | str x=>
  have e:xs=x.cps.toList.map fun c=>V.str (st [c]):=h
  subst e;obtain ⟨c,hc,rfl⟩:=q;simp [hc]
 | lst a=>exact q xs h
theorem SqT.upd_same {p:Addr} {xs:List V}:SqT K (upd H p (.tup xs)) p xs:=SqT.of L2.upd_same
end
def compW (J:It) (g:TG) (tc:TT) (te:TE) (σc:St) (D:Addr) (Q:VK) (H:Hp):Prop:=
 ∃ W:Nat->Nat->List V->Hp->Prop,(∃ m,W 0 m [] (upd H D (.lst [])))/\∀ i m acc H2,W i m acc H2 ->
  (J.stop i H2/\Q (.ref D) H2)\/(J.go i H2/\∀ x H3,J.yld i H2 x H3->g x σc H3 fun σ4 H4=>tc σ4 H4 fun b H5=>if b=true then
   te σ4 H5 fun v H6=>H6 D=some (.lst acc)/\acc.length < sizeLine/\∃ m',m' < m/\W (i+1) m' (acc++[v]) (upd H6 D (.lst (acc++[v]))) else ∃ m',m' < m/\W (i+1) m' acc H5)
noncomputable def cComp (nt:Nat) (fi:List Nat) (wi:TI) (g:TG) (tc:TT) (te:TE):TE:=fun σ H Q=>wi σ H fun J H1=>∀ D,H1 D=none->compW J g tc te (compσ nt fi σ) D Q H1
theorem bn {X:Cx} {elt tg iter:Expr} {ifs:List Expr} {scope:Scope} {pos:Pos} {wi:TI} {g:TG} {tc:TT} {te:TE} {nt:Nat} {fi:List Nat} {N':List Str} (hcalm:X.calm=true)
  (S:CScope scope) (cn:CNames X scope nt fi N') (gk:GK nt g) (hi:PI X tg iter wi)
  (hg:∀ cl C s H ex,PG (cxC X scope cl N' C s H ex) tg g) (hc:∀ cl C s H ex,PIf (cxC X scope cl N' C s H ex) ifs tc) (he:∀ cl C s H ex,PE (cxC X scope cl N' C s H ex) elt te)
  (hs:∀ x,foldedSetIterable iter X.env x=pure x:=by intro _; rfl):PE X (.ListComp elt [⟨tg,iter,ifs,0⟩] scope pos) (cComp nt fi wi g tc te):=qP hcalm S cn gk hi hg hc he hs
section
variable {K:Frag} {J:It} {g:TG} {tc:TT} {te:TE} {σc:St} {D:Addr} {Q:VK} {H:Hp}
theorem cM {α:Type} (f:Nat->List α) (n:Nat):(List.range (n+1)).flatMap f=(List.range n).flatMap f++f n:=by
 rw [List.range_succ,List.flatMap_append];simp
theorem iH {α:Type} (f:Nat->List α) (hf:∀ i,(f i).length<=1) (n:Nat):((List.range n).flatMap f).length<=n:=by
 induction n with
 | zero=>simp
 | succ n ih=>
  rw [cM,List.length_append];have:=hf n;omega
theorem lZ {n:Nat} (f:Nat->List V) (hfree:H D=none) (hn:n<=100000) (hf:∀ i,(f i).length<=1) (hy:∀ i H x H',J.yld i H x H'->Same H H')
  (hgo:∀ i H',i < n->Same H H'->J.go i H') (hst:∀ H',Same H H'->J.stop n H')
  (hs:∀ i H1 x H2 (out:VK) (non:Hp->Prop),i < n->Same H H1->J.yld i H1 x H2->(∀ v H6,f i=[v]->Same H2 H6->out v H6)->(∀ H5,f i=[]->Same H2 H5->non H5) ->
   g x σc H2 fun σ4 H4=>tc σ4 H4 fun b H5=>if b=true then te σ4 H5 out else non H5)
  (hq:∀ H',Same H H'->H' D=some (.lst ((List.range n).flatMap f))->Q (.ref D) H'):compW J g tc te σc D Q H:=by
 refine ⟨fun i m acc H2=>m=n - i/\i<=n/\acc=(List.range i).flatMap f/\Same H H2/\H2 D=some (.lst acc),⟨n,by simp,Nat.zero_le _,by simp,ae hfree _,upd_same⟩,?_⟩;rintro i m acc H2 ⟨rfl,hi,rfl,sm,hD⟩;by_cases hlt:i < n
 ·refine .inr ⟨hgo i H2 hlt sm,fun x H3 y=>?_⟩;have s23:=hy i H2 x H3 y;refine hs i H2 x H3 _ _ hlt sm y (fun v H6 e s6=>?_) fun H5 e s5=>?_
  ·refine ⟨s6 _ _ (s23 _ _ hD),Nat.lt_of_le_of_lt (iH f hf i) (sizeBig (by omega)),n - (i+1),by omega,rfl,hlt,?_,?_,upd_same⟩
   ·rw [cM,e]
   ·exact aL (sm.trans (s23.trans s6)) hfree
  ·refine ⟨n - (i+1),by omega,rfl,hlt,?_,sm.trans (s23.trans s5),s5 _ _ (s23 _ _ hD)⟩;rw [cM,e,List.append_nil]
 ·have e:i=n:=by omega
  subst e;exact .inl ⟨hst H2 sm,hq H2 sm hD⟩
noncomputable def atH {α β:Type} (xs:List α) (h:α -> List β) (i:Nat):List β:=((xs[i]?).map h).getD []
theorem oh {α β:Type} {xs:List α} {h:α -> List β} {i:Nat} {x:α} (e:xs[i]? = some x):atH xs h i=h x:=by simp [atH,e]
theorem qq {α β:Type} {xs:List α} {h:α -> List β} (hf:∀ x,(h x).length<=1) (i:Nat):(atH xs h i).length<=1:=by
 unfold atH;cases xs[i]? with
 | none=>simp
 | some x=>simpa using hf x
theorem pT {α β:Type} (xs:List α) (h:α -> List β):(List.range xs.length).flatMap (atH xs h)=xs.flatMap h:=by
 induction xs with
 | nil=>rfl
 | cons a xs ih=>
  rw [List.length_cons,List.range_succ_eq_map,List.flatMap_cons,List.flatMap_map,List.flatMap_cons,<- ih];rfl
section
variable {α:Type} (item:α -> V) (xs:List α) (h:α -> List V)
theorem cV {p:Addr} (hfree:H D=none) (hl:SqL K H p (xs.map item)) (hn:xs.length<=100000) (hf:∀ x,(h x).length<=1)
  (hs:∀ x H1 (out:VK) (non:Hp->Prop),x ∈ xs->Same H H1->(∀ v H6,h x=[v]->Same H1 H6->out v H6)->(∀ H5,h x=[]->Same H1 H5->non H5) ->
   g (item x) σc H1 fun σ4 H4=>tc σ4 H4 fun b H5=>if b=true then te σ4 H5 out else non H5)
  (hq:∀ H',Same H H'->H' D=some (.lst (xs.flatMap h))->Q (.ref D) H'):compW (Itl K p) g tc te σc D Q H:=by
 refine lZ (n:=xs.length) (atH xs h) hfree hn (qq hf) (fun i H x H' y=>?_) (fun i H' hi s=>?_) (fun H' s=>?_) (fun i H1 x H2 out non hi s y ho hnn=>?_) fun H' s q=>?_
 ·rw [y.1];exact Same.refl _
 ·exact ⟨_,item xs[i],s.seq hl,by simp [hi]⟩
 ·exact ⟨_,s.seq hl,by simp⟩
 ·obtain ⟨rfl,y⟩:=y;have e:=y _ (s.seq hl);rw [List.getElem?_map,List.getElem?_eq_getElem hi] at e;have e2:item xs[i]=x:=Option.some.inj e;subst e2;simp only [oh (List.getElem?_eq_getElem hi)] at ho hnn;exact hs xs[i] _ out non (List.getElem_mem hi) s ho hnn
 ·rw [pT] at q;exact hq H' s q
theorem iY {lo:Int} {n:Nat} {h:Nat->List V} (hfree:H D=none) (hn:n<=100000) (hf:∀ x,(h x).length<=1)
  (hs:∀ i H1 (out:VK) (non:Hp->Prop),i < n->Same H H1->(∀ v H6,h i=[v]->Same H1 H6->out v H6)->(∀ H5,h i=[]->Same H1 H5->non H5) ->
   g (.int (lo+i)) σc H1 fun σ4 H4=>tc σ4 H4 fun b H5=>if b=true then te σ4 H5 out else non H5)
  (hq:∀ H',Same H H'->H' D=some (.lst ((List.range n).flatMap h))->Q (.ref D) H'):compW (Itr lo n) g tc te σc D Q H:=by
 refine lZ (n:=n) h hfree hn hf (fun i H x H' y=>?_) (fun i H' hi s=>hi) (fun H' s=>Nat.le_refl _) (fun i H1 x H2 out non hi s y ho hnn=>?_) hq
 ·rw [y.1];exact Same.refl _
 ·obtain ⟨rfl,rfl⟩:=y;exact hs i _ out non hi s ho hnn
end
end
noncomputable def cnOk (N:List Str) (sc scope:Scope) (nt:Nat) (fi:List Nat) (N':List Str):Bool:=
 N'.length == nt+fi.length && ((List.range fi.length).all fun k=>match fi[k]? with
  | some j=>match N'[nt+k]?,N[j]? with
   | some x,some y=>x == y && scope.names.lookup x == some NameKind.free
   | _,_=>false
  | none=>false) && scope.names.all fun y=>y.2 != NameKind.free || (sc.names.lookup y.1 == some NameKind.cell || sc.names.lookup y.1 == some NameKind.free)
theorem cnames {X:Cx} {N:List Str} {sc scope:Scope} {nt:Nat} {fi:List Nat} {N':List Str} (hN:X.N=N) (hsc:X.env.scope=sc) (h:cnOk N sc scope nt fi N'=true):CNames X scope nt fi N':=by
 unfold cnOk at h;simp only [Bool.and_eq_true,List.all_eq_true,List.mem_range,beq_iff_eq] at h;obtain ⟨⟨h1,h2⟩,h3⟩:=h;refine ⟨h1,fun k j e=>?_,fun y hy e=>?_⟩
 ·have hk:k < fi.length:=(List.getElem?_eq_some_iff.mp e).1;have q:=h2 k hk;rw [e] at q;dsimp only at q;split at q
  ·rename_i x y e1 e2;simp only [Bool.and_eq_true,beq_iff_eq] at q;obtain ⟨rfl,q⟩:=q;exact ⟨_,e1,by rw [hN]; exact e2,q⟩
  ·cases q
 ·have q:=h3 y hy;rw [e] at q;rw [hsc];simpa using q
theorem cscope {scope:Scope} (hk:scope.kind=.function) (h:(scope.names.all fun y=>y.2 != NameKind.cell && (y.2 != NameKind.local || scope.names.lookup y.1 == some NameKind.local))=true):CScope scope:=by
 simp only [List.all_eq_true,Bool.and_eq_true] at h;refine ⟨hk,fun y hy e=>?_,fun y hy e=>?_⟩
 ·have:=(h y hy).1;rw [e] at this;exact absurd this (by decide)
 ·have:=(h y hy).2;rw [e] at this;simpa using this
theorem bL:bootBuiltins "len" = some (.builtin "len"):=by decide +kernel
theorem r6:bootBuiltins "sum" = some (.builtin "sum"):=by decide +kernel
theorem oP:bootBuiltins "max" = some (.builtin "max"):=by decide +kernel
theorem fM:bootBuiltins "isinstance" = some (.builtin "isinstance"):=by decide +kernel
theorem ck:bootBuiltins "list" = some (.type "list"):=by decide +kernel
theorem om:bootBuiltins "tuple" = some (.type "tuple"):=by decide +kernel
inductive Ty where
 | bool | int | str | list | tuple
noncomputable def Ty.nm:Ty->String
 | .bool => "bool" | .int => "int" | .str => "str" | .list => "list" | .tuple => "tuple"
noncomputable def Ty.isBl:Ty->Bool
 | .bool=>true | .int=>true | _=>false
noncomputable def Ty.isInt:Ty->Bool
 | .int=>true | _=>false
noncomputable def Ty.isStr:Ty->Bool
 | .str=>true | _=>false
noncomputable def Ty.isLst:Ty->Bool
 | .list=>true | _=>false
noncomputable def Ty.isTup:Ty->Bool
 | .tuple=>true | _=>false
section
variable {K:Frag}
theorem py (n:Ty):PySem.W.kitOne K (.type "NoneType") (.type n.nm)=some false:=by cases n <;> with_unfolding_all rfl
theorem r9 (n:Ty):PySem.W.kitOne K (.type "bool") (.type n.nm)=some n.isBl:=by cases n <;> with_unfolding_all rfl
theorem qr (n:Ty):PySem.W.kitOne K (.type "int") (.type n.nm)=some n.isInt:=by cases n <;> with_unfolding_all rfl
theorem qN (n:Ty):PySem.W.kitOne K (.type "str") (.type n.nm)=some n.isStr:=by cases n <;> with_unfolding_all rfl
theorem qU (n:Ty):PySem.W.kitOne K (.type "list") (.type n.nm)=some n.isLst:=by cases n <;> with_unfolding_all rfl
theorem pC (n:Ty):PySem.W.kitOne K (.type "tuple") (.type n.nm)=some n.isTup:=by cases n <;> with_unfolding_all rfl
end
section
variable {X:Cx} {a b e:Expr} {ta tb te:TE} {pos p p2:Pos}
theorem re {x:Str} {n:String} (hg:Gl X x) (hm:X.mg x=none) (hv:bootBuiltins x=some (.type n)) (hn:x ≠ "__name__" := by decide) (hd:(x == ("__debug__" : Str))=false:=by decide):PE X (.Name x pos) (tC (.ty n)):=qH (v:=.ty n) hg hm hv rfl hn hd
noncomputable def cIsI (n:Ty) (ta:TE):TE:=fun σ H Q=>ta σ H fun x H1=>match x with
 | .non=>Q (.bl false) H1
 | .bl _=>Q (.bl n.isBl) H1
 | .int _=>Q (.bl n.isInt) H1
 | .str _=>Q (.bl n.isStr) H1
 | .ref p=>((∃ xs,H1 p=some (.lst xs))/\Q (.bl n.isLst) H1)\/((∃ xs,H1 p=some (.tup xs))/\Q (.bl n.isTup) H1)
 | _=>False
theorem mt {x:Str} (n:Ty) (hg:Gl X "isinstance") (hm:X.mg "isinstance" = none) (ha:PE X a ta) (hg2:Gl X x) (hm2:X.mg x=none) (hv2:bootBuiltins x=some (.type n.nm)) (hn2:x ≠ "__name__" := by decide) (hd2:(x == ("__debug__" : Str))=false:=by decide)
  (hs:starEach [a,.Name x p2] X.env=(false,eval a X.env)::starEach [.Name x p2] X.env:=by rfl) (hpl:(backTo pos (starEach [.Name x p2] X.env)).any (·.1)=false:=by rfl):PE X (.Call (.Name "isinstance" p) [a,.Name x p2] [] pos) (cIsI n ta):=
 (aB kK hg hm fM (aa ha.mono (aa (re hg2 hm2 hv2 hn2 hd2) ad) hs) (he:=hs) (hpl:=hpl)).imp fun σ H Q q=>⟨_,q,fun v H1 z=>by
  show ∃ x n t b,[v,V.ty _]=[x,.ty n]/\TyOf X.K H1 x t/\PySem.W.kitOne X.K t (.type n)=some b/\Q (.bl b) H1;split at z
  ·exact ⟨_,_,_,_,rfl,.non,py n,z⟩
  ·exact ⟨_,_,_,_,rfl,.bl _,r9 n,z⟩
  ·exact ⟨_,_,_,_,rfl,.int _,qr n,z⟩
  ·exact ⟨_,_,_,_,rfl,.str _,qN n,z⟩
  ·rcases z with ⟨⟨xs,h⟩,z⟩ | ⟨⟨xs,h⟩,z⟩
   ·exact ⟨_,_,_,_,rfl,.lst h,qU n,z⟩
   ·exact ⟨_,_,_,_,rfl,.tup h,pC n,z⟩
  ·exact z.elim⟩
noncomputable def kSl (K:Frag):V->Option Int->Option Int->Hp->VK->Prop:=fun x lo hi H Q=>match x with
 | .str z=>match lo,hi with
  | none,some j=>z.cps.toList.length<=100000/\0<=j/\j<=z.cps.toList.length/\Q (.str (st (z.cps.toList.take j.toNat))) H
  | some i,none=>z.cps.toList.length<=100000/\0<=i/\i<=z.cps.toList.length/\Q (.str (st (z.cps.toList.drop i.toNat))) H
  | _,_=>False
 | .ref a=>∃ xs,SqL K H a xs/\∀ p,H p=none->Q (.ref p) (upd H p (.lst (cutV xs lo hi)))
 | _=>False
theorem tZ:SlR X (kSl X.K):=by
 refine (SlR.or nI qx).imp fun x lo hi H Q q=>?_
 unfold kSl at q;split at q
 ·rename_i z;split at q
  ·obtain ⟨h,h0,h1,q⟩:=q;rename_i j;obtain ⟨k,rfl⟩:∃ k:Nat,j=k:=⟨j.toNat,by omega⟩;refine .inl ⟨z,rfl,by rw [strlen]; exact Nat.le_trans h big5,?_⟩;have e:=oK z.cps.toList k (by omega);rw [cy] at e;rw [e];simpa using q
  ·obtain ⟨h,h0,h1,q⟩:=q;rename_i j;obtain ⟨k,rfl⟩:∃ k:Nat,j=k:=⟨j.toNat,by omega⟩;refine .inl ⟨z,rfl,by rw [strlen]; exact Nat.le_trans h big5,?_⟩;have e:=lm z.cps.toList k (by omega);rw [cy] at e;rw [e];simpa using q
  ·exact q.elim
 ·obtain ⟨xs,h,q⟩:=q;exact .inr ⟨_,_,rfl,h,q⟩
 ·exact q.elim
theorem hu1 {k:Nat} {A:Around} (hr:Room k A):A.units < cLine:=hr.units0
noncomputable def cNeg (ta:TE):TE:=fun σ H Q=>ta σ H fun x H1=>match x with
 | .int i=>Q (.int (-i)) H1
 | _=>False
theorem iC (ha:PE X a ta):PE X (.UnaryOp .USub a pos) (cNeg ta):=(tF sj ha.mono).imp fun σ H Q q=>⟨_,q,fun v H1 z=>by
 split at z
 ·exact ⟨_,rfl,z⟩
 ·exact z.elim⟩
end
section
variable {X:Cx} {a b e:Expr} {ta tb te:TE} {pos p apos cpos:Pos}
theorem ixE (K:Frag) (h:X.K=K):IxR X (kIx K):=by subst h; exact ua
theorem slE (K:Frag) (h:X.K=K):SlR X (kSl K):=by subst h; exact tZ
theorem lenE (K:Frag) (h:X.K=K):CallR X (.builtin "len") (kLen K):=by subst h; exact nq
theorem inE (K:Frag) (h:X.K=K):OpR X (compareOp .In) (kIn K false):=by subst h; exact sH
theorem notinE (K:Frag) (h:X.K=K):OpR X (compareOp .NotIn) (kIn K true):=by subst h; exact mx
theorem joinE (K:Frag) (h:X.K=K) {j:Nat} {p1:Pos} (he:PE X e te) (hfew:((backTo cpos (starEach [e] X.env)).all (fun x=>!x.1) && (backToKw cpos (keywordEach [] X.env)).all (fun x=>x.1.isSome)
   && decide ([e].length+([]:List Keyword).length+(if ([]:List Keyword).isEmpty then 0 else 1) < 30))=true:=by rfl)
  (hline:(apos.endLine == cpos.line)=true:=by rfl) (hs:starEach [e] X.env=(false,eval e X.env)::starEach [] X.env:=by rfl) (hplain:(backTo cpos (starEach [] X.env)).any (·.1)=false:=by rfl)
  (hbase:attributeBase (.Constant (.str (Str.ofString "")) j p1) "join" X.env (eval (.Constant (.str (Str.ofString "")) j p1) X.env)=eval (.Constant (.str (Str.ofString "")) j p1) X.env:=by rfl):
  PE X (.Call (.Attribute (.Constant (.str (Str.ofString "")) j p1) "join" apos) [e] [] cpos) (cJoin1 K te):=by subst h; exact nW he hfew hline hs hplain hbase
theorem iterE (K:Frag) (h:X.K=K) {tg:Expr} (he:PE X e te):PI X tg e (cIter K te):=by subst h; exact qh he
theorem tupE (K:Frag) (h:X.K=K) {es:List Expr} {k:Nat} {t:TGs} {n:Nat} (hc:X.calm=true) (hp:PGs X es t) (hn:(assignEach es X.env).length=n:=by rfl) (hst:(assignEach es X.env).findIdx? (·.1)=none:=by rfl):PG X (.Tuple es k pos) (gTup K n t):=by subst h; exact oY hc hp hn hst
end
section
variable {t u:TS} {te ta tb:TE} {tc:TT} {D:Ends} {σ:St} {H:Hp} {Q:VK} {R:Bool->Hp->Prop} {i:Nat} {v:V}
theorem sI:cVar i σ H Q=(match σ[i]? with | some (some v)=>Q v H | _=>False):=rfl
theorem tY:tC v σ H Q=Q v H:=rfl
theorem tI {r:R2}:tOp r ta tb σ H Q=ta σ H fun x H1=>tb σ H1 fun y H2=>r x y H2 Q:=rfl
theorem qj {a b:Int}:kAdd (.int a) (.int b) H Q=Q (.int (a+b)) H:=rfl
theorem qy {a b:List Nat}:kAdd (.str (st a)) (.str (st b)) H Q=(a.length+b.length<=100000/\Q (.str (st (a++b))) H):=rfl
theorem qL {a b:Addr}:kAdd (.ref a) (.ref b) H Q=∃ xs zs,H a=some (.lst xs)/\H b=some (.lst zs)/\xs.length+zs.length<=sizeLine/\∀ p,H p=none->Q (.ref p) (upd H p (.lst (xs++zs))):=rfl
theorem ub {C:Int->Int->Prop} {g:Int->Int->V} {a b:Int}:kI C g (.int a) (.int b) H Q=(C a b/\Q (g a b) H):=rfl
theorem tH {g:Int->Int->V} {a b:Int}:kI0 g (.int a) (.int b) H Q=Q (g a b) H:=rfl
theorem pU {a b:Int}:kMul (.int a) (.int b) H Q=(CMul a b/\Q (.int (a*b)) H):=rfl
theorem pW {c:Nat} {n:Int}:kMul (.str (st [c])) (.int n) H Q=(0<=n/\n<=10000/\Q (.str (st (List.replicate n.toNat c))) H):=by
 show (∃ d,[c]=[d]/\0<=n/\n<=10000/\Q (.str (st (List.replicate n.toNat d))) H)=_;refine propext ⟨?_,fun h=>⟨c,rfl,h⟩⟩;rintro ⟨d,e,h⟩;cases e;exact h
theorem sJ {n:Bool} {a b:Int}:kEq n (.int a) (.int b) H Q=Q (.bl (n ^^ decide (a=b))) H:=rfl
theorem tq {n:Bool} {a b:List Nat}:kEq n (.str (st a)) (.str (st b)) H Q=Q (.bl (n ^^ decide (a=b))) H:=rfl
theorem sW {n:Bool} {a b:Bool}:kEq n (.bl a) (.bl b) H Q=Q (.bl (n ^^ decide (a=b))) H:=rfl
theorem qS {n:Bool} {b:Str}:kEq n .non (.str b) H Q=Q (.bl (n ^^ false)) H:=rfl
theorem qm {n:Bool} {b:Str}:kEq n (.str b) .non H Q=Q (.bl (n ^^ false)) H:=rfl
theorem qb {n:Bool}:kEq n .non .non H Q=Q (.bl (n ^^ true)) H:=rfl
theorem rZ {K:Frag} {n:Bool} {c:Nat} {b:List Nat}:kIn K n (.str (st [c])) (.str (st b)) H Q=Q (.bl (n ^^ decide (c ∈ b))) H:=by
 show (∃ d,[c]=[d]/\Q (.bl (n ^^ decide (d ∈ b))) H)=_;refine propext ⟨?_,fun h=>⟨c,rfl,h⟩⟩;rintro ⟨d,e,h⟩;cases e;exact h
theorem tD {K:Frag} {n:Bool} {x:V} {p:Addr}:kIn K n x (.ref p) H Q=∃ xs,(SqL K H p xs\/SqT K H p xs)/\flatV x=true/\xs.all flatV=true/\Q (.bl (n ^^ inV x xs)) H:=by
 cases x <;> rfl
theorem rF {K:Frag} {l:List Nat} {j:Int}:kIx K (.str (st l)) (.int j) H Q=(l.length<=100000/\∃ c,atI l j=some c/\Q (.str (st [c])) H):=rfl
theorem rN {K:Frag} {p:Addr} {j:Int}:kIx K (.ref p) (.int j) H Q=∃ xs v,(SqL K H p xs\/SqT K H p xs)/\atI xs j=some v/\Q v H:=rfl
theorem ql {K:Frag} {l:List Nat}:kLen K [.str (st l)] H Q=(l.length<=100000/\Q (.int l.length) H):=rfl
theorem qz {K:Frag} {p:Addr}:kLen K [.ref p] H Q=∃ ys,(SqL K H p ys\/SqT K H p ys)/\Q (.int ys.length) H:=rfl
theorem qk {K:Frag} {l:List Nat} {j:Int}:kSl K (.str (st l)) none (some j) H Q=(l.length<=100000/\0<=j/\j<=l.length/\Q (.str (st (l.take j.toNat))) H):=rfl
theorem nj {K:Frag} {l:List Nat} {j:Int}:kSl K (.str (st l)) (some j) none H Q=(l.length<=100000/\0<=j/\j<=l.length/\Q (.str (st (l.drop j.toNat))) H):=rfl
theorem sw {K:Frag} {p:Addr} {lo hi:Option Int}:kSl K (.ref p) lo hi H Q=∃ xs,SqL K H p xs/\∀ q,H q=none->Q (.ref q) (upd H q (.lst (cutV xs lo hi))):=rfl
theorem tT {r:V->Option Int->Option Int->Hp->VK->Prop} {tl th:TO}:tSl r te tl th σ H Q=te σ H fun x H1=>tl σ H1 fun l H2=>th σ H2 fun u H3=>r x l u H3 Q:=rfl
theorem mJ {Q:Option Int->Hp->Prop}:tNoPart σ H Q=Q none H:=rfl
noncomputable def cPart (t:TE):TO:=fun σ H Q=>t σ H fun x H1=>match x with | .int i=>Q (some i) H1 | _=>False
theorem qM {Q:Option Int->Hp->Prop}:cPart te σ H Q=te σ H fun x H1=>match x with | .int i=>Q (some i) H1 | _=>False:=rfl
theorem sL:cNeg ta σ H Q=ta σ H fun x H1=>match x with | .int i=>Q (.int (-i)) H1 | _=>False:=rfl
theorem sK {n:Ty}:cIsI n ta σ H Q=ta σ H fun x H1=>match x with
 | .non=>Q (.bl false) H1
 | .bl _=>Q (.bl n.isBl) H1
 | .int _=>Q (.bl n.isInt) H1
 | .str _=>Q (.bl n.isStr) H1
 | .ref p=>((∃ xs,H1 p=some (.lst xs))/\Q (.bl n.isLst) H1)\/((∃ xs,H1 p=some (.tup xs))/\Q (.bl n.isTup) H1)
 | _=>False:=rfl
theorem qf:cTest te σ H R=te σ H (blK R):=rfl
theorem tR {b:Bool}:blK R (.bl b) H=R b H:=rfl
theorem se {t u:TT}:tAnd t u σ H R=t σ H fun c H1=>if c=true then u σ H1 R else R false H1:=rfl
theorem tU {t u:TT}:tOr t u σ H R=t σ H fun c H1=>if c=true then R true H1 else u σ H1 R:=rfl
theorem rD {t:TT}:tNot t σ H R=t σ H fun c H1=>R (!c) H1:=rfl
theorem sC:tYes σ H R=R true H:=rfl
theorem tO:tIf tc ta tb σ H Q=tc σ H fun c H1=>if c=true then ta σ H1 Q else tb σ H1 Q:=rfl
theorem sP:cApp ta te σ H Q=ta σ H fun x H1=>match x with
 | .ref l=>(∃ xs,H1 l=some (.lst xs))/\te σ H1 fun y H2=>∃ xs,H2 l=some (.lst xs)/\xs.length < sizeLine/\Q .non (upd H2 l (.lst (xs++[y])))
 | _=>False:=rfl
theorem oj {K:Frag}:cJoin1 K te σ H Q=te σ H fun x H1=>match x with
 | .ref l=>∃ cs:List Nat,SqL K H1 l (cs.map fun k=>V.str (st [k]))/\cs.length<=10000/\Q (.str (st cs)) H1
 | _=>False:=rfl
theorem sQ {R:List V->Hp->Prop}:tNil σ H R=R [] H:=rfl
theorem qI {t:TA} {R:List V->Hp->Prop}:tCons ta t σ H R=ta σ H fun x H1=>t σ H1 fun xs H2=>R (x::xs) H2:=rfl
theorem pM {sp:Sp} {E:XK} {t:TA}:tCall sp [] E t σ H Q=t σ H fun vs H1=>sp vs H1 Q E:=by
 unfold tCall;simp only [List.append_nil]
theorem tE {r:List V->Hp->VK->Prop} {t:TA}:tCB r t σ H Q=t σ H fun vs H1=>r vs H1 Q:=rfl
theorem rX {t:TA}:tLst t σ H Q=t σ H fun xs H1=>xs.length<=sizeLine/\∀ p,H1 p=none->Q (.ref p) (upd H1 p (.lst xs)):=rfl
theorem sX {t:TA}:tTup t σ H Q=t σ H fun xs H1=>xs.length<=sizeLine/\∀ p,H1 p=none->Q (.ref p) (upd H1 p (.tup xs)):=rfl
theorem qG:tNext D σ H=D.nx σ H:=rfl
theorem rL:tSeq t u D σ H=t { D with nx:=u D } σ H:=rfl
theorem qF:tDrop te D σ H=te σ H fun _ H1=>D.nx σ H1:=rfl
theorem sU:tRet te D σ H=te σ H D.rt:=rfl
theorem rV:tIfS tc t u D σ H=tc σ H fun b H1=>if b=true then t D σ H1 else u D σ H1:=rfl
theorem sk {g:TG}:tAsg te g D σ H=te σ H fun x H1=>g x σ H1 D.nx:=rfl
theorem qX {R:St->Hp->Prop}:gName i v σ H R=R (σ.set i (some v)) H:=rfl
theorem qd:tJoin t u D σ H=∃ J:St->Hp->Prop,t { D with nx:=J } σ H/\∀ σ' H',J σ' H'->u D σ' H':=rfl
theorem rO {wi:TI} {g:TG}:cFor wi g t D σ H=wi σ H fun J H1=>loopW J g t D σ H1:=rfl
theorem pN {K:Frag} {R:It->Hp->Prop}:cIter K te σ H R=te σ H fun x H1=>match x with
 | .str z=>R (Its z) H1
 | .ref a=>((∃ xs,SqL K H1 a xs)/\R (Itl K a) H1)\/((∃ xs,SqT K H1 a xs)/\R (Itt K a) H1)
 | _=>False:=rfl
theorem qJ {R:It->Hp->Prop}:cRng1 te σ H R=te σ H fun x H1=>match x with
 | .int j=>-1000000<=j/\j<=1000000/\R (Itr 0 j.toNat) H1
 | _=>False:=rfl
theorem pX {K:Frag} {z:Str} {R:Src->Prop}:srcK K H (.str z) R=R (.str z):=rfl
theorem qu {K:Frag} {p:Addr} {R:Src->Prop}:srcK K H (.ref p) R=((∃ xs,SqL K H p xs)/\R (.lst p)):=rfl
theorem pF {nt:Nat} {fi:List Nat} {wi:TI} {g:TG}:cComp nt fi wi g tc te σ H Q=wi σ H fun J H1=>∀ D,H1 D=none->compW J g tc te (compσ nt fi σ) D Q H1:=rfl
end
theorem tJ {CX:CXT} {P:Program} {w:World} {K:Frag} {mg:Str->Option Value} {base:Heap} {N:List Str} {qual:Str} {scope:Scope} {f:Addr} {cd:Value} {A:Around} {outer:List Env} {s:Shared} {H:Hp} {E:XK}:(cxOf CX P w K mg base N qual scope f cd A outer s H E).K=K:=rfl
theorem rB {X:Cx} {scope:Scope} {cl:List (Str × Addr)} {N':List Str} {C:Addr} {s:Shared} {H:Hp} {ex:List Addr}:(cxC X scope cl N' C s H ex).K=X.K:=rfl
theorem tK {a b:Nat}:(([a]:List Nat)=[b])=(a=b):=by simp
theorem bo {X:Cx} {e:Expr} {te:TE} (h:PE X e te):PO X (some e) (cPart te):=fun pins s σ H Q I q=>qc h.mono pins s σ H Q I ⟨_,q,fun v H1 z=>by
 split at z
 ·exact ⟨_,rfl,z⟩
 ·exact z.elim⟩
end L2
namespace Mir
open PySem L2
noncomputable def cell (ns:List Int) (k:Nat):Int:=(ns[k]?).getD 0
noncomputable def num (c:Int):Nat->Int
 | 0=>c % 2147483647+1
 | i+1=>(num c i*48271+7*(i:Int)*(i:Int)+3) % 2147483647
noncomputable def stream (c:Int) (n:Nat):List Int:=(List.range n).map fun i=>num c (i+1) / 16
noncomputable def bit (m:Int):Nat:=if m % 2=0 then 48 else 49
noncomputable def rowSign (l e:Int):Nat:=if e % l > 0 then 45 else bit (e / 64)
noncomputable def row (c:Int) (w:Nat) (l:Int):List Nat:=(stream c w).map (rowSign l)
noncomputable def within (one other:List Nat):Bool:=(one.zip other).all fun p=>p.2 == 45 || p.2 == p.1
end Mir
namespace L2
open PySem PySem.Spec PyProof.Rows
theorem z_pos {K:Params->Frag} {as:List Addr} {n t:Nat} {w:World} {s:Shared} (y:PySem.W.X.obsZ as s=PySem.W.X.valZ K n t w) (e:∀ P,as=(K P).map (·.1)) (ht:0 < t):(K w.params).In s.heap/\0 < s.toks:=by
 obtain ⟨_,h,_,q⟩:=PySem.W.X.z_facts e y;exact ⟨h,by rw [q]; exact ht⟩
section
variable {prog:Program} {w:World} {A:Around} {E:Value->Shared->Prop} {s:Shared}
theorem IsList.extBut' {h h':Heap} {a l:Addr} {items:Array Value} (hl:h.IsList l items) (he:Heap.ExtBut a h h') (hne:l≠a):h'.IsList l items:=by
 obtain ⟨o,ho,r⟩:=hl;exact ⟨o,he l o hne ho,r⟩
theorem kw {it t:Addr} {items:Array Value} (apart:t≠it):∀ (mid front back:List Value) (s:Shared) (Q:List Value->Shared->Prop),items.toList=front++(mid++back)->s.heap.IsListIter it t front.length->s.heap.IsList t items ->
  (∀ g:Heap,g.IsListIter it t (front.length+mid.length)->Heap.SameBut it s.heap g->Q mid { s with heap:=g })->wpAny (model prog w) A (draw (.ref it) mid.length) Q E s
 | [],front,_,s,Q,_,at0,_,k=>wpAny_pure (k s.heap at0 (Heap.SameBut.refl ..))
 | x::mid,front,back,s,Q,e,at0,il,k=>by
  have here:items[front.length]? = some x:=by
   rw [<- Array.getElem?_toList,e,List.getElem?_append_right (Nat.le_refl _),Nat.sub_self];rfl
  refine wpAny_bind (m:=pyNext (.ref it)) (wpAny_pyNext_list_item at0 il here fun g1 at1 t1=>?_);refine wpAny_bind (wpAny_holding (kw apart mid (front++[x]) back _ _ (by rw [e]; simp) (by rw [List.length_append]; exact at1) (IsList.extBut' il t1.extBut apart) fun g2 at2 t2=>wpAny_pure (k g2 ?_ (t1.trans t2))));have sum:(front++[x]).length+mid.length=front.length+(x::mid).length:=by
   simp only [List.length_append,List.length_cons,List.length_nil];omega
  rw [sum] at at2;exact at2
theorem gR {t:Addr} {items:Array Value} {Q:List Value->Shared->Prop} (hh:A.handled=none) (ht:s.heap.IsList t items)
  (k:∀ g,Heap.ExtBut s.heap.objs.size s.heap g->Q items.toList { s with heap:=g }):wpAny (model prog w) A (unpackItems (.ref t) items.size none) Q E s:=by
 have below:t≠s.heap.objs.size:=Nat.ne_of_lt (let ⟨_,q,_⟩:=ht; Heap.lt_size q);have still:(s.heap.push { cls:=.type "list_iterator",data:=.fields #[.ref t,.int 0 0] }).IsList t items:=let ⟨o,q,r⟩:=ht; ⟨o,Heap.get?_push_of_some _ q,r⟩
 unfold unpackItems notIterableAtAll;refine wpAny_bind (wpAny_bind (wpAny_specialOf ht.typeIs slot_list_iter.lookup (wpAny_pure ?_)));rw [if_neg (by decide)];refine wpAny_bind (wpAny_holding (wpAny_pyIter_list ht ?_));have whole:=kw (prog:=prog) (w:=w) (A:=A) (E:=E) (items:=items) below items.toList [] [] { s with heap:=s.heap.push { cls:=.type "list_iterator",data:=.fields #[.ref t,.int 0 0] } };rw [Array.length_toList] at whole;refine wpAny_bind (wpAny_holding (whole _ (by simp) ⟨_,Heap.get?_push_size _ rfl,rfl,rfl⟩ still fun g1 at1 t1=>?_));rw [if_neg (by simp)];refine wpAny_bind (wpAny_holding (wpAny_pyNext_list_end hh at1 (IsList.extBut' still t1.extBut below) (by simp) fun g2 t2=>?_));rw [if_neg (by simp)];exact wpAny_pure (k g2 fun b o nb q=>t2 b o nb (t1.extBut b o nb (Heap.get?_push_of_some _ q)))
theorem gu {env:Env} {elts:List Expr} {x1} {pos:Pos} {t:Addr} {items:Array Value} {Q:Unit->Shared->Prop} (hh:A.handled=none) (ht:s.heap.IsList t items)
  (hn:(assignEach elts env).length=items.size) (hstar:(assignEach elts env).findIdx? (·.1)=none)
  (h:∀ h',Heap.ExtBut s.heap.objs.size s.heap h'->wpAny (model prog w) A (assignInOrder ((assignEach elts env).map (·.2)) items.toList) Q E { s with heap:=h' }):
  wpAny (model prog w) A (assign (.Tuple elts x1 pos) env (.ref t)) Q E s:=by
 rw [assign_Tuple];refine wpAny_bind (wpAny_standAt ?_);unfold unpack;rw [hn,hstar];exact wpAny_bind (wpAny_holding (gR hh ht h))
end
section
variable {X:Cx} {pos:Pos}
noncomputable def gSeq (K:Frag) (n:Nat) (t:TGs):TG:=fun v σ H Q=>match v with
 | .ref a=>∃ xs,(SqL K H a xs\/SqT K H a xs)/\xs.length=n/\t xs σ H Q
 | _=>False
theorem seqE (K:Frag) (hK:X.K=K) {es:List Expr} {k:Nat} {t:TGs} {n:Nat} (hc:X.calm=true) (h:PGs X es t)
  (hn:(assignEach es X.env).length=n:=by rfl) (hst:(assignEach es X.env).findIdx? (·.1)=none:=by rfl):PG X (.Tuple es k pos) (gSeq K n t):=by
 subst hK;intro pins s σ H v u Q I r hw;unfold gSeq at hw;split at hw
 ·rename_i a;obtain ⟨xs,hq,hl,hw⟩:=hw;rcases hq with hq | hq
  ·cases r;obtain ⟨its,rv,ht,hz⟩:=I.list hq;refine gu (I.ok.hd hc) ht.isList (by simp [hn,<- hl,rv.length]) hst fun h' hx=>?_
   have I1:Inv X pins σ H { s with heap:=h' }:=I.kept (t':=s.toks) fun b o e=>hx b o (Nat.ne_of_lt (Heap.lt_size e)) e
   exact h pins _ σ H xs _ Q I1 (by simpa using rv) hw
  ·exact oY hc h hn hst pins s σ H _ u Q I r ⟨_,xs,rfl,hq,hl,hw⟩
 ·exact hw.elim
end
section
variable {t:TG} {u:TGs} {σ:St} {H:Hp} {Q:St->Hp->Prop} {v:V} {r:List V} {K:Frag} {n:Nat} {p:Addr}
theorem qD:gCons t u (v::r) σ H Q=t v σ H fun σ' H'=>u r σ' H' Q:=by
 refine propext ⟨?_,fun h=>⟨v,r,rfl,h⟩⟩;rintro ⟨v',r',e,h⟩;cases e;exact h
theorem rE:gNil [] σ H Q=Q σ H:=propext ⟨fun h=>h.2,fun h=>⟨rfl,h⟩⟩
theorem sZ:gSeq K n u (.ref p) σ H Q=∃ xs,(SqL K H p xs\/SqT K H p xs)/\xs.length=n/\u xs σ H Q:=rfl
end
noncomputable def rep (c d:Nat) (l:List Nat):List Nat:=l.map fun k=>if k=c then d else k
section
variable {X:Cx} {o e:Expr} {to te:TE} {apos cpos p1 p2:Pos} {j1 j2:Nat}
noncomputable def kList (K:Frag):List V->Hp->VK->Prop:=fun xs H Q=>match xs with
 | [.str z]=>z.cps.toList.length<=100000/\∀ p,H p=none->Q (.ref p) (upd H p (.lst (z.cps.toList.map fun c=>V.str (st [c]))))
 | [.ref a]=>∃ ys,(SqL K H a ys\/SqT K H a ys)/\∀ p,H p=none->Q (.ref p) (upd H p (.lst ys))
 | _=>False
theorem kW {x:Str} {acc:Array Value} (h:ItemsOf (SignAt x) acc x.cps.size):Vals (x.cps.toList.map fun c=>V.str (st [c])) acc.toList:=by
 obtain ⟨hs,hi⟩:=h;have key:∀ (l:List Nat) (us:List Value),l.length=us.length->(∀ (j:Nat) (v:Value),us[j]? = some v->∃ (c:Nat) (u:Tok),l[j]? = some c/\v=Value.str ⟨#[c]⟩ u)->Vals (l.map fun c=>V.str (st [c])) us:=by
  intro l
  induction l with
  | nil=>
   intro us hl _;cases us with
   | nil=>exact .nil
   | cons=>cases hl
  | cons a l ih=>
   intro us hl hq;cases us with
   | nil=>cases hl
   | cons v us=>
    obtain ⟨c,u,e,rfl⟩:=hq 0 v rfl;cases e;exact .cons ⟨u,rfl⟩ (ih us (by simpa using hl) fun j w hj=>hq (j+1) w hj)
 refine key _ _ (by simp [hs]) fun j v hj=>?_
 obtain ⟨c,u,e,rfl⟩:=hi j v (by simpa using hj);exact ⟨c,u,by simpa using e,rfl⟩
theorem bB (K:Frag) (hK:X.K=K) (hc:X.calm=true):CallR X (.type "list") (kList K):=by
 subst hK;intro pins s σ H xs us Q I r q;unfold kList at q;split at q
 ·obtain ⟨hl,q⟩:=q;rename_i z;obtain ⟨u,rfl,t,rfl⟩:=vals1 r;have hz:z.cps.size<=sizeLine:=by
   have:=big5;simp only [Array.length_toList] at hl;omega
  refine tokQ I.tk (call_list_str (I.ok.hd hc) z t (fun h' tk acc c' kp ho hi (htk:0 < tk)=>?_) hz);refine ⟨.ref s.heap.objs.size,_,I.laid (a:=s.heap.objs.size) (o:=.lst (z.cps.toList.map fun c=>V.str (st [c]))) kp (Nat.le_refl _) ⟨?_,acc.toList,c',kW hi,by simpa using ho⟩,rfl,q _ I.fresh⟩;rw [List.length_map];simpa using hz
 ·obtain ⟨ys,h,q⟩:=q;exact j7 pins s σ H _ us Q I r ⟨_,ys,rfl,h,q⟩
 ·exact q.elim
theorem oE {K:Frag} {l:List Nat} {H:Hp} {Q:VK}:kList K [.str (st l)] H Q=(l.length<=100000/\∀ p,H p=none->Q (.ref p) (upd H p (.lst (l.map fun c=>V.str (st [c]))))):=rfl
theorem oH {K:Frag} {a:Addr} {H:Hp} {Q:VK}:kList K [.ref a] H Q=∃ ys,(SqL K H a ys\/SqT K H a ys)/\∀ p,H p=none->Q (.ref p) (upd H p (.lst ys)):=rfl
end
section
variable {X:Cx} {a:Expr} {ta:TE} {p pos:Pos}
end
section
variable {X:Cx}
noncomputable def kSum (K:Frag):List V->Hp->VK->Prop:=fun xs H Q=>match xs with
 | [.ref p]=>∃ ns:List Int,SqL K H p (ns.map V.int)/\Q (.int ns.sum) H
 | _=>False
theorem mY (K:Frag) (hK:X.K=K) (hc:X.calm=true):CallR X (.builtin "sum") (kSum K):=by
 subst hK;intro pins s σ H xs us Q I r q;unfold kSum at q;split at q
 ·obtain ⟨ns,hq,q⟩:=q;obtain ⟨u,rfl,ru⟩:=vals1 r;cases ru;obtain ⟨its,rv,pl,_⟩:=I.list hq;have hi:=lG rv;obtain ⟨xs,e⟩:=hi.allInts.items;have hn:=hi.numsOf;refine tokQ I.tk (sum_intListG (I.ok.hd hc) (xs:=xs) (by rw [<- e]; exact pl.isList) fun h' tk t' kp (htk:0 < tk)=>?_);have e2:preSum (numAt xs) xs.size=ns.sum:=by
   rw [preSum_eq,List.take_of_length_le (by simp),<- nums_intItems,<- e];show (numsOf its).sum=ns.sum;rw [hn]
  rw [e2];exact ⟨.int ns.sum,H,I.kept kp,⟨_,rfl⟩,q⟩
 ·exact q.elim
theorem sd {K:Frag} {p:Addr} {H:Hp} {Q:VK}:kSum K [.ref p] H Q=∃ ns:List Int,SqL K H p (ns.map V.int)/\Q (.int ns.sum) H:=rfl
end
theorem lO (t:SetTable) (es:Array (Int × Value)) (h:Int) (x:Value):(layNew t es h x).2.1.led=t.led/\(t.plain=false->(layNew t es h x).2.1.plain=false):=by
 unfold layNew;split
 ·rename_i slot wd e;show ((t.put slot).1.orStandIn _).led=_/\(_->((t.put slot).1.orStandIn _).plain=false);unfold SetTable.orStandIn;split
  ·exact ⟨rfl,fun q=>q⟩
  ·exact ⟨rfl,fun _=>rfl⟩
 ·exact ⟨rfl,fun _=>rfl⟩
theorem oM {mask finger moves:Nat} {led plain:Bool} {hs:Array Int} {r:SetTable × Array Nat} (h:SetTable.laid mask finger moves led plain hs=some r):r.1.led=led/\r.1.plain=plain:=by
 unfold SetTable.laid at h;cases q:SetTable.layClean mask hs with
 | none=>rw [q] at h; cases h
 | some ow=>
  rw [q] at h;cases h;exact ⟨rfl,rfl⟩
theorem jx (t:SetTable) (es:Array (Int × Value)) (n:Nat):(relayAll t es n).2.1.led=t.led/\(t.plain=false->(relayAll t es n).2.1.plain=false):=by
 unfold relayAll;split
 ·rename_i t' order e;have q:=oM e;dsimp only;split
  ·exact ⟨q.1,fun z=>q.2.trans z⟩
  ·exact ⟨rfl,fun _=>rfl⟩
 ·exact ⟨rfl,fun _=>rfl⟩
noncomputable def txtOf:Value->Str
 | .str x _=>x
 | _=>⟨#[]⟩
def IsTexts (w:World) (h:Heap) (a:Addr) (led:Bool) (ss:List Str):Prop:=
 ∃ es ep t,h.get? a=some { cls:=.type "set",dict:=none,data:=.set es ep t,slots:=#[] }/\(∀ e ∈ es.toList,∃ x u,e=(hashStr w x,Value.str x u)) /\
  (es.toList.map fun e=>txtOf e.2).Perm ss/\t.fits es.size=true/\t.led=led/\(es.size≠0->t.plain=false)
section
variable {prog:Program} {w:World} {A:Around} {E:Value->Shared->Prop} {s:Shared}
noncomputable def addT (ss:List Str) (x:Str):List Str:=if x ∈ ss then ss else ss++[x]
theorem iu {a:Addr} {es es':Array (Int × Value)} {ep:Nat} {t t':SetTable} (ho:s.heap.get? a=some { cls:=.type "set",dict:=none,data:=.set es ep t,slots:=#[] }):
  (s.heap.update a (Obj.putSet es' t')).get? a=some { cls:=.type "set",dict:=none,data:=.set es' (ep+1) t',slots:=#[] }:=
 Heap.get?_update_self (Obj.putSet es' t') ho rfl
end
noncomputable def dd (l:List Str):List Str:=l.foldl addT []
theorem IsTexts.at {w:World} {h h':Heap} {a:Addr} {led:Bool} {ss:List Str} (x:IsTexts w h a led ss) (k:∀ o,h.get? a=some o->h'.get? a=some o):IsTexts w h' a led ss:=by
 obtain ⟨es,ep,t,ho,r⟩:=x;exact ⟨es,ep,t,k _ ho,r⟩
section
variable {prog:Program} {w:World} {A:Around} {R:Result->Shared->Prop} {I:Addr} {fp wr:List Addr} {G:Array GenState->Array GenState->Prop} {n:Nat} {P:Nat->Value->Prop} {St:Nat->Shared->Prop}
end
section
variable {prog:Program} {w:World} {A:Around} {E:Value->Shared->Prop} {s:Shared}
end
theorem fZ {α:Type}:∀ {l:List α} {i:Nat} (hi:i < l.length),(l[i]::l.eraseIdx i).Perm l
 | _::_,0,_=>List.Perm.refl _
 | x::l,i+1,hi=>by
  have:=fZ (l:=l) (i:=i) (Nat.lt_of_succ_lt_succ hi);simp only [List.getElem_cons_succ,List.eraseIdx_cons_succ];exact (List.Perm.swap x _ _).trans (List.Perm.cons x this)
section
variable {M:Model} {A:Around} {E:Value->Shared->Prop}
end
section
variable {prog:Program} {w:World} {A:Around} {E:Value->Shared->Prop} {s:Shared}
theorem lz {α:Type} {Q:α -> Shared->Prop} (hh:A.handled=none)
  (h:∀ h' e,(∀ b o,s.heap.get? b=some o->h'.get? b=some o)->(∃ o,h'.get? e=some o/\o.cls=.type "StopIteration")->E (.ref e) { s with heap:=h' }):
  wpAny (model prog w) A (newExc (.type "StopIteration") []>>=fun e=>(raiseNew e:Sem α)) Q E s:=by
 refine wpAny_bind ?_;simp only [newExc,newTuple];refine wpAny_bind (wpAny_newObj_type ?_ (by size_fits));refine wpAny_bind (m:=firstArgMember _ _) (wpAny_of_eq (a:=Value.none) (by first | rfl | (simp only [firstArgMember]; rfl)) ?_);refine wpAny_newObj_type ?_ (by size_fits);simp only [raiseNew];refine wpAny_bind (wpAny_handled ?_);rw [hh];exact wpAny_bind (wpAny_pure (wpAny_throw (h _ _ (fun b o e=>Heap.get?_push_of_some _ (Heap.get?_push_of_some _ e)) ⟨_,Heap.get?_push_size _ rfl,rfl⟩)))
end
section
variable {prog:Program} {w:World} {A:Around} {E:Value->Shared->Prop} {s:Shared} {it a:Addr} {es:Array (Int × Value)} {n ep i:Nat} {t:SetTable}
end
section
variable {prog:Program} {w:World} {A:Around} {E:Value->Shared->Prop} {s:Shared} {it a:Addr} {es:Array (Int × Value)} {n ep i:Nat} {t:SetTable}
end
section
variable {prog:Program} {w:World} {A:Around} {E:Value->Shared->Prop} {s:Shared} {it a:Addr} {es:Array (Int × Value)} {n ep i:Nat} {t:SetTable}
end
section
variable {prog:Program} {w:World} {A:Around} {E:Value->Shared->Prop} {s:Shared}
end
section
variable {prog:Program} {w:World} {A:Around} {E:Value->Shared->Prop} {s:Shared}
end
noncomputable def ins (x:List Nat):List (List Nat)->List (List Nat)
 | []=>[x]
 | y::r=>if x=y then y::r else if x < y then x::y::r else y::ins x r
section
variable {prog:Program} {w:World} {A:Around} {E:Value->Shared->Prop} {s:Shared}
end
section
variable {X:Cx}
end
inductive D where
 | f (v:V) | l (xs:List D) | t (xs:List D)
mutual
noncomputable def eqD:D->D->Bool
 | .f x,.f y=>eqV x y
 | .l xs,.l ys=>eqDs xs ys
 | .t xs,.t ys=>eqDs xs ys
 | .f _,.l _=>false
 | .f _,.t _=>false
 | .l _,.f _=>false
 | .l _,.t _=>false
 | .t _,.f _=>false
 | .t _,.l _=>false
noncomputable def eqDs:List D->List D->Bool
 | [],[]=>true
 | x::xs,y::ys=>eqD x y && eqDs xs ys
 | [],_::_=>false
 | _::_,[]=>false
end
noncomputable def Deep (K:Frag) (H:Hp):Nat->V->D->Prop
 | 0,v,d=>d=.f v/\flatV v=true
 | n+1,v,d=>(d=.f v/\flatV v=true)\/(∃ a vs ds,v=.ref a/\d=.l ds/\SqL K H a vs/\Paired (Deep K H n) vs ds)\/(∃ a vs ds,v=.ref a/\d=.t ds/\SqT K H a vs/\Paired (Deep K H n) vs ds)
theorem dR:∀ {xs ys:List D},xs.length≠ys.length->eqDs xs ys=false
 | [],[],h=>absurd rfl h
 | [],_::_,_=>by rw [eqDs]
 | _::_,[],_=>by rw [eqDs]
 | x::xs,y::ys,h=>by
  rw [eqDs,dR (xs:=xs) (ys:=ys) (fun e=>h (by simp [e])),Bool.and_false]
theorem kH {v:V} (h:flatV v=true):eqV v v=true:=by
 cases v <;> simp_all [flatV,eqV]
section
variable {X:Cx} {pins:List (Addr × Obj)} {σ:St} {H:Hp} {s:Shared}
theorem mr {A:Around} {l:Addr} {items:Array Value} {y:V} {v:Value} (hl:s.heap.IsList l items) (hu:A.units < cLine) (r:RelV y v) (f:flatV y=true):SeqAt.EqAt A s (.ref l) v false:=by
 cases y with
 | non=>cases r; exact .list_none hl hu
 | bl b=>cases r; exact .list_bool b hl hu
 | int i=>obtain ⟨t,rfl⟩:=r; exact .list_int i t hl hu
 | str x=>obtain ⟨t,rfl⟩:=r; exact .list_str x t hl hu
 | _=>exact absurd (show false=true from f) Bool.false_ne_true
theorem mK {A:Around} {l:Addr} {items:Array Value} {y:V} {v:Value} (hl:s.heap.IsList l items) (hu:A.units < cLine) (r:RelV y v) (f:flatV y=true):SeqAt.EqAt A s v (.ref l) false:=by
 cases y with
 | non=>cases r; exact .none_list hl hu
 | bl b=>cases r; exact .bool_list b hl hu
 | int i=>obtain ⟨t,rfl⟩:=r; exact .int_list i t hl hu
 | str x=>obtain ⟨t,rfl⟩:=r; exact .str_list x t hl hu
 | _=>exact absurd (show false=true from f) Bool.false_ne_true
theorem li {A:Around} {l:Addr} {items:Array Value} {y:V} {v:Value} (hl:s.heap.IsTuple l items) (hu:A.units < cLine) (r:RelV y v) (f:flatV y=true):SeqAt.EqAt A s (.ref l) v false:=by
 cases y with
 | non=>cases r; exact .tuple_none hl hu
 | bl b=>cases r; exact .tuple_bool b hl hu
 | int i=>obtain ⟨t,rfl⟩:=r; exact .tuple_int i t hl hu
 | str x=>obtain ⟨t,rfl⟩:=r; exact .tuple_str x t hl hu
 | _=>exact absurd (show false=true from f) Bool.false_ne_true
theorem lQ {A:Around} {l:Addr} {items:Array Value} {y:V} {v:Value} (hl:s.heap.IsTuple l items) (hu:A.units < cLine) (r:RelV y v) (f:flatV y=true):SeqAt.EqAt A s v (.ref l) false:=by
 cases y with
 | non=>cases r; exact .none_tuple hl hu
 | bl b=>cases r; exact .bool_tuple b hl hu
 | int i=>obtain ⟨t,rfl⟩:=r; exact .int_tuple i t hl hu
 | str x=>obtain ⟨t,rfl⟩:=r; exact .str_tuple x t hl hu
 | _=>exact absurd (show false=true from f) Bool.false_ne_true
theorem ki (I:Inv X pins σ H s) {a:Addr} {vs ws:List V} (h:SqL X.K H a vs) (k:SqT X.K H a ws):False:=by
 obtain ⟨_,_,p1,_⟩:=I.list h;obtain ⟨_,_,p2,_⟩:=I.tuple k;exact SeqAt.ne_of_list_tuple p1.isList p2 rfl
theorem g9 (I:Inv X pins σ H s):∀ (n:Nat) (v:V) (d d':D),Deep X.K H n v d->Deep X.K H n v d'->eqD d d'=true
 | 0,v,d,d',⟨e,f⟩,⟨e',_⟩=>by subst e; subst e'; rw [eqD]; exact kH f
 | n+1,v,d,d',h,h'=>by
  have pr:∀ (vs:List V) (ds ds':List D),Paired (Deep X.K H n) vs ds->Paired (Deep X.K H n) vs ds'->eqDs ds ds'=true:=by
   intro vs
   induction vs with
   | nil=>intro ds ds' p q; cases p; cases q; rw [eqDs]
   | cons v vs ih=>
    intro ds ds' p q;cases p with
    | cons p1 p2=>cases q with
     | cons q1 q2=>rw [eqDs,g9 I n v _ _ p1 q1,ih _ _ p2 q2]; rfl
  rcases h with ⟨e,f⟩ | ⟨a,vs,ds,rfl,rfl,ha,p⟩ | ⟨a,vs,ds,rfl,rfl,ha,p⟩
  ·rcases h' with ⟨e',_⟩ | ⟨a',vs',ds',rfl,_⟩ | ⟨a',vs',ds',rfl,_⟩
   ·subst e; subst e'; rw [eqD]; exact kH f
   ·exact absurd (show false=true from f) Bool.false_ne_true
   ·exact absurd (show false=true from f) Bool.false_ne_true
  ·rcases h' with ⟨_,f⟩ | ⟨a',vs',ds',e,rfl,ha',p'⟩ | ⟨a',vs',ds',e,rfl,ha',p'⟩
   ·exact absurd (show false=true from f) Bool.false_ne_true
   ·cases e;obtain rfl:=I.list_inj ha ha';rw [eqD]; exact pr vs ds ds' p p'
   ·cases e;exact (ki I ha ha').elim
  ·rcases h' with ⟨_,f⟩ | ⟨a',vs',ds',e,rfl,ha',p'⟩ | ⟨a',vs',ds',e,rfl,ha',p'⟩
   ·exact absurd (show false=true from f) Bool.false_ne_true
   ·cases e;exact (ki I ha' ha).elim
   ·cases e;obtain rfl:=I.tuple_inj ha ha';rw [eqD]; exact pr vs ds ds' p p'
noncomputable def eqNth (ds ds':List D) (j:Nat):Bool:=match ds[j]?,ds'[j]? with
 | some d,some d'=>eqD d d'
 | _,_=>true
theorem cU:∀ {ds ds':List D},ds.length=ds'.length->(List.range ds.length).all (eqNth ds ds')=eqDs ds ds'
 | [],[],_=>by rw [eqDs]; rfl
 | d::ds,d'::ds',h=>by
  have ih:=cU (ds:=ds) (ds':=ds') (by simpa using h);rw [List.length_cons,List.range_succ_eq_map,List.all_cons,List.all_map,eqDs];have e:eqNth (d::ds) (d'::ds') 0=eqD d d':=rfl;have e2:(eqNth (d::ds) (d'::ds') ∘ Nat.succ)=eqNth ds ds':=funext fun j=>by simp [eqNth]
  rw [e,e2,ih]
theorem bp {α β:Type} {F:α -> β -> Prop}:∀ {l:List α} {m:List β},Paired F l m->∀ {j:Nat} {x:α},l[j]? = some x->∃ y,m[j]? = some y/\F x y
 | _,_,.nil,j,x,h=>by simp at h
 | _,_,.cons p r,0,x,h=>by simp at h; subst h; exact ⟨_,rfl,p⟩
 | _,_,.cons p r,j+1,x,h=>by simpa using bp r (j:=j) (by simpa using h)
theorem jJ (I:Inv X pins σ H s):∀ (n:Nat) (A:Around) (x y:V) (dx dy:D) (u v:Value),A.units+n < cLine->Deep X.K H n x dx->Deep X.K H n y dy->RelV x u->RelV y v->SeqAt.EqAt A s u v (eqD dx dy)
 | 0,A,x,y,dx,dy,u,v,_,⟨e,f⟩,⟨e',f'⟩,ru,rv=>by subst e; subst e'; rw [eqD]; exact lN ru rv f f'
 | n+1,A,x,y,dx,dy,u,v,hu,hx,hy,ru,rv=>by
  have hu0:A.units < cLine:=by omega
  have items:∀ (vs ws:List V) (ds ds':List D) (us us':List Value),Paired (Deep X.K H n) vs ds->Paired (Deep X.K H n) ws ds'->Vals vs us->Vals ws us' ->
    ∀ j (h1:j < us.toArray.size) (h2:j < us'.toArray.size),SeqAt.EqAt A.in1 s us.toArray[j] us'.toArray[j] (eqNth ds ds' j):=by
   intro vs ws ds ds' us us' p q r r' j h1 h2;have l1:=r.length;have l2:=r'.length;simp only [List.size_toArray] at h1 h2;have g1:vs[j]? = some (vs[j]'(by omega)):=List.getElem?_eq_getElem _;have g2:ws[j]? = some (ws[j]'(by omega)):=List.getElem?_eq_getElem _;obtain ⟨d,hd,fd⟩:=bp p g1;obtain ⟨d',hd',fd'⟩:=bp q g2;obtain ⟨c,hc,rc⟩:=r.get g1;obtain ⟨c',hc',rc'⟩:=r'.get g2;have e1:us.toArray[j]=c:=by rw [List.getElem?_eq_getElem h1] at hc; simpa using hc
   have e2:us'.toArray[j]=c':=by rw [List.getElem?_eq_getElem h2] at hc'; simpa using hc'
   rw [e1,e2];unfold eqNth;rw [hd,hd'];exact jJ I n A.in1 _ _ d d' c c' (by rw [Around.in1_units]; omega) fd fd' rc rc'
  rcases hx with ⟨e,f⟩ | ⟨a,vs,ds,rfl,rfl,ha,p⟩ | ⟨a,vs,ds,rfl,rfl,ha,p⟩
  ·subst e;rcases hy with ⟨e',f'⟩ | ⟨b,ws,ds',rfl,rfl,hb,q⟩ | ⟨b,ws,ds',rfl,rfl,hb,q⟩
   ·subst e'; rw [eqD]; exact lN ru rv f f'
   ·cases rv;obtain ⟨_,_,pl,_⟩:=I.list hb;rw [eqD]; exact mK pl.isList hu0 ru f
   ·cases rv;obtain ⟨_,_,pl,_⟩:=I.tuple hb;rw [eqD]; exact lQ pl hu0 ru f
  ·cases ru;obtain ⟨us,r1,pl,_⟩:=I.list ha;rcases hy with ⟨e',f'⟩ | ⟨b,ws,ds',rfl,rfl,hb,q⟩ | ⟨b,ws,ds',rfl,rfl,hb,q⟩
   ·subst e'; rw [eqD]; exact mr pl.isList hu0 rv f'
   ·cases rv;by_cases eab:a=b
    ·subst eab;have:=g9 I (n+1) (.ref a) (.l ds) (.l ds') (.inr (.inl ⟨a,vs,ds,rfl,rfl,ha,p⟩)) (.inr (.inl ⟨a,ws,ds',rfl,rfl,hb,q⟩));rw [this];exact SeqAt.EqAt.same _
    ·obtain ⟨us',r2,pl2,_⟩:=I.list hb;have l1:=r1.length;have l2:=r2.length;have l3:=p.length;have l4:=q.length;rw [eqD];by_cases el:ds.length=ds'.length
     ·rw [<- cU el,show ds.length=us.toArray.size by simp only [List.size_toArray]; omega];exact .of_refs eab (.lists pl.isList pl2.isList (by simp only [List.size_toArray]; omega) hu0 (items vs ws ds ds' us us' p q r1 r2))
     ·rw [dR el];exact .of_refs eab (.lists_lengths pl.isList pl2.isList (by simp only [List.size_toArray,bne_iff_ne,ne_eq]; omega) hu0)
   ·cases rv;obtain ⟨_,_,pl2,_⟩:=I.tuple hb;rw [eqD]; exact .list_tuple pl.isList pl2 hu0
  ·cases ru;obtain ⟨us,r1,pl,_⟩:=I.tuple ha;rcases hy with ⟨e',f'⟩ | ⟨b,ws,ds',rfl,rfl,hb,q⟩ | ⟨b,ws,ds',rfl,rfl,hb,q⟩
   ·subst e'; rw [eqD]; exact li pl hu0 rv f'
   ·cases rv;obtain ⟨_,_,pl2,_⟩:=I.list hb;rw [eqD]; exact .tuple_list pl pl2.isList hu0
   ·cases rv;by_cases eab:a=b
    ·subst eab;have:=g9 I (n+1) (.ref a) (.t ds) (.t ds') (.inr (.inr ⟨a,vs,ds,rfl,rfl,ha,p⟩)) (.inr (.inr ⟨a,ws,ds',rfl,rfl,hb,q⟩));rw [this];exact SeqAt.EqAt.same _
    ·obtain ⟨us',r2,pl2,_⟩:=I.tuple hb;have l1:=r1.length;have l2:=r2.length;have l3:=p.length;have l4:=q.length;rw [eqD];have key:eqDs ds ds'=((List.range (min us.toArray.size us'.toArray.size)).all (eqNth ds ds') && us.toArray.size == us'.toArray.size):=by
      by_cases el:ds.length=ds'.length
      ·rw [<- cU el,show min us.toArray.size us'.toArray.size=ds.length by simp only [List.size_toArray]; omega,show (us.toArray.size == us'.toArray.size)=true by simp only [List.size_toArray,beq_iff_eq]; omega,Bool.and_true]
      ·rw [dR el,show (us.toArray.size == us'.toArray.size)=false by simp only [List.size_toArray,beq_eq_false_iff_ne,ne_eq]; omega,Bool.and_false]
     rw [key];exact .of_refs eab (.tuples pl pl2 hu0 (items vs ws ds ds' us us' p q r1 r2))
end
section
variable {X:Cx} {pins:List (Addr × Obj)} {σ:St} {H:Hp} {s:Shared}
theorem ef (I:Inv X pins σ H s) {n:Nat} {A:Around} (hu:A.units+n+1 < cLine) {vs ws:List V} {ds ds':List D} {us us':List Value} (p:Paired (Deep X.K H n) vs ds) (q:Paired (Deep X.K H n) ws ds') (r:Vals vs us) (r':Vals ws us'):
  ∀ j (h1:j < us.toArray.size) (h2:j < us'.toArray.size),SeqAt.EqAt A.in1 s us.toArray[j] us'.toArray[j] (eqNth ds ds' j):=by
 intro j h1 h2;have l1:=r.length;have l2:=r'.length;simp only [List.size_toArray] at h1 h2;have g1:vs[j]? = some (vs[j]'(by omega)):=List.getElem?_eq_getElem _;have g2:ws[j]? = some (ws[j]'(by omega)):=List.getElem?_eq_getElem _;obtain ⟨d,hd,fd⟩:=bp p g1;obtain ⟨d',hd',fd'⟩:=bp q g2;obtain ⟨c,hc,rc⟩:=r.get g1;obtain ⟨c',hc',rc'⟩:=r'.get g2;have e1:us.toArray[j]=c:=by rw [List.getElem?_eq_getElem h1] at hc; simpa using hc
 have e2:us'.toArray[j]=c':=by rw [List.getElem?_eq_getElem h2] at hc'; simpa using hc'
 rw [e1,e2];unfold eqNth;rw [hd,hd'];exact jJ I n A.in1 _ _ d d' c c' (by rw [Around.in1_units]; omega) fd fd' rc rc'
noncomputable def kEqD (K:Frag) (neg:Bool):R2:=fun x y H Q=>match x,y with
 | .ref a,.ref b=>∃ n dx dy,n<=100/\Deep K H n (.ref a) dx/\Deep K H n (.ref b) dy/\Q (.bl (neg ^^ eqD dx dy)) H
 | _,_=>False
theorem jp {us us':List Value} {ds ds':List D} (l1:ds.length=us.length) (l2:ds'.length=us'.length):((List.range (min us.toArray.size us'.toArray.size)).all (eqNth ds ds') && us.toArray.size == us'.toArray.size)=eqDs ds ds':=by
 by_cases el:ds.length=ds'.length
 ·rw [<- cU el,show min us.toArray.size us'.toArray.size=ds.length by simp only [List.size_toArray]; omega,show (us.toArray.size == us'.toArray.size)=true by simp only [List.size_toArray,beq_iff_eq]; omega,Bool.and_true]
 ·rw [dR el,show (us.toArray.size == us'.toArray.size)=false by simp only [List.size_toArray,beq_eq_false_iff_ne,ne_eq]; omega,Bool.and_false]
theorem eqDE (K:Frag) (hK:X.K=K) {k:Nat} (hr:Room k X.A):OpR X (compareOp .Eq) (kEqD K false):=by
 subst hK;intro pins s σ H x y v u Q I rx ry h;unfold kEqD at h;split at h
 ·rename_i a b;obtain ⟨n,dx,dy,hn,hx,hy,q⟩:=h;cases rx;cases ry;simp only [Bool.false_bne] at q;have hu:=hr.un;cases n with
  | zero=>exact absurd (show false=true from hx.2) Bool.false_ne_true
  | succ n=>
   rcases hx with ⟨_,f⟩ | ⟨a',vs,ds,e,rfl,ha,p⟩ | ⟨a',vs,ds,e,rfl,ha,p⟩
   ·exact absurd (show false=true from f) Bool.false_ne_true
   ·cases e;obtain ⟨us,r1,pl,_⟩:=I.list ha;have l1:=r1.length;have l3:=p.length;rcases hy with ⟨_,f⟩ | ⟨b',ws,ds',e,rfl,hb,p'⟩ | ⟨b',ws,ds',e,rfl,hb,p'⟩
    ·exact absurd (show false=true from f) Bool.false_ne_true
    ·cases e;obtain ⟨us',r2,pl2,_⟩:=I.list hb;have l2:=r2.length;have l4:=p'.length;rw [eqD] at q;by_cases el:ds.length=ds'.length
     ·refine SeqAt.eq_listAt (e:=eqNth ds ds') pl.isList pl2.isList (by simp only [List.size_toArray]; omega) (by omega) (ef I (by omega) p p' r1 r2) ?_;rw [show us.toArray.size=ds.length by simp only [List.size_toArray]; omega,cU el];exact ⟨.bl _,H,I,rfl,q⟩
     ·refine SeqAt.eq_list_lengthsAt pl.isList pl2.isList (by simp only [List.size_toArray,bne_iff_ne,ne_eq]; omega) (by omega) ?_;rw [dR el] at q;exact ⟨.bl _,H,I,rfl,q⟩
    ·cases e;obtain ⟨us',r2,pl2,_⟩:=I.tuple hb;rw [eqD] at q;exact SeqAt.RcAt.list_tuple pl.isList pl2 (by omega) _ _ _ _ ⟨.bl _,H,I,rfl,q⟩
   ·cases e;obtain ⟨us,r1,pl,_⟩:=I.tuple ha;have l1:=r1.length;have l3:=p.length;rcases hy with ⟨_,f⟩ | ⟨b',ws,ds',e,rfl,hb,p'⟩ | ⟨b',ws,ds',e,rfl,hb,p'⟩
    ·exact absurd (show false=true from f) Bool.false_ne_true
    ·cases e;obtain ⟨us',r2,pl2,_⟩:=I.list hb;rw [eqD] at q;exact SeqAt.RcAt.tuple_list pl pl2.isList (by omega) _ _ _ _ ⟨.bl _,H,I,rfl,q⟩
    ·cases e;obtain ⟨us',r2,pl2,_⟩:=I.tuple hb;have l2:=r2.length;have l4:=p'.length;rw [eqD] at q;refine SeqAt.eq_tupleAt (e:=eqNth ds ds') pl pl2 (by omega) (ef I (by omega) p p' r1 r2) ?_;rw [jp (by omega) (by omega)];exact ⟨.bl _,H,I,rfl,q⟩
 ·exact h.elim
theorem neDE (K:Frag) (hK:X.K=K) {k:Nat} (hr:Room k X.A):OpR X (compareOp .NotEq) (kEqD K true):=by
 subst hK;intro pins s σ H x y v u Q I rx ry h;unfold kEqD at h;split at h
 ·rename_i a b;obtain ⟨n,dx,dy,hn,hx,hy,q⟩:=h;cases rx;cases ry;simp only [Bool.true_bne] at q;have hu:=hr.un;cases n with
  | zero=>exact absurd (show false=true from hx.2) Bool.false_ne_true
  | succ n=>
   rcases hx with ⟨_,f⟩ | ⟨a',vs,ds,e,rfl,ha,p⟩ | ⟨a',vs,ds,e,rfl,ha,p⟩
   ·exact absurd (show false=true from f) Bool.false_ne_true
   ·cases e;obtain ⟨us,r1,pl,_⟩:=I.list ha;have l1:=r1.length;have l3:=p.length;rcases hy with ⟨_,f⟩ | ⟨b',ws,ds',e,rfl,hb,p'⟩ | ⟨b',ws,ds',e,rfl,hb,p'⟩
    ·exact absurd (show false=true from f) Bool.false_ne_true
    ·cases e;obtain ⟨us',r2,pl2,_⟩:=I.list hb;have l2:=r2.length;have l4:=p'.length;rw [eqD] at q;by_cases el:ds.length=ds'.length
     ·refine SeqAt.RcNeAt.lists (e:=eqNth ds ds') pl.isList pl2.isList (by simp only [List.size_toArray]; omega) (by omega) (ef I (by omega) p p' r1 r2) _ _ _ _ ?_;rw [show us.toArray.size=ds.length by simp only [List.size_toArray]; omega,cU el];exact ⟨.bl _,H,I,rfl,q⟩
     ·refine SeqAt.RcNeAt.lists_lengths pl.isList pl2.isList (by simp only [List.size_toArray,bne_iff_ne,ne_eq]; omega) (by omega) _ _ _ _ ?_;rw [dR el] at q;exact ⟨.bl _,H,I,rfl,q⟩
    ·cases e;obtain ⟨us',r2,pl2,_⟩:=I.tuple hb;rw [eqD] at q;exact SeqAt.RcNeAt.list_tuple pl.isList pl2 (by omega) _ _ _ _ ⟨.bl _,H,I,rfl,q⟩
   ·cases e;obtain ⟨us,r1,pl,_⟩:=I.tuple ha;have l1:=r1.length;have l3:=p.length;rcases hy with ⟨_,f⟩ | ⟨b',ws,ds',e,rfl,hb,p'⟩ | ⟨b',ws,ds',e,rfl,hb,p'⟩
    ·exact absurd (show false=true from f) Bool.false_ne_true
    ·cases e;obtain ⟨us',r2,pl2,_⟩:=I.list hb;rw [eqD] at q;exact SeqAt.RcNeAt.tuple_list pl pl2.isList (by omega) _ _ _ _ ⟨.bl _,H,I,rfl,q⟩
    ·cases e;obtain ⟨us',r2,pl2,_⟩:=I.tuple hb;have l2:=r2.length;have l4:=p'.length;rw [eqD] at q;refine SeqAt.RcNeAt.tuples (e:=eqNth ds ds') pl pl2 (by omega) (ef I (by omega) p p' r1 r2) _ _ _ _ ?_;rw [jp (by omega) (by omega)];exact ⟨.bl _,H,I,rfl,q⟩
 ·exact h.elim
end
section
variable {X:Cx}
noncomputable def kNeNil (K:Frag):R2:=fun x y H Q=>match x,y with
 | .ref a,.ref b=>∃ xs,SqL K H a xs/\SqL K H b []/\Q (.bl (!decide (xs=[]))) H
 | _,_=>False
theorem neNilE (K:Frag) (hK:X.K=K) (hu:X.A.units < cLine):OpR X (compareOp .NotEq) (kNeNil K):=by
 subst hK;intro pins s σ H x y v u Q I rx ry h;unfold kNeNil at h;split at h
 ·obtain ⟨xs,ha,hb,q⟩:=h;cases rx;cases ry;obtain ⟨its,r1,p1,_⟩:=I.list ha;obtain ⟨its2,r2,p2,_⟩:=I.list hb;cases r2;cases r1 with
  | nil=>exact SeqAt.RcNeAt.lists (e:=fun _=>true) p1.isList p2.isList rfl hu (fun j h1 _=>absurd h1 (by simp)) _ _ _ _ ⟨.bl false,H,I,rfl,by simpa using q⟩
  | cons rx rr=>exact SeqAt.RcNeAt.lists_lengths p1.isList p2.isList (by simp) hu _ _ _ _ ⟨.bl true,H,I,rfl,by simpa using q⟩
 ·exact h.elim
theorem oC {K:Frag} {a b:Addr} {H:Hp} {Q:VK}:kNeNil K (.ref a) (.ref b) H Q=∃ xs,SqL K H a xs/\SqL K H b []/\Q (.bl (!decide (xs=[]))) H:=rfl
theorem tw {K:Frag} {n:Bool} {a b:Addr} {H:Hp} {Q:VK}:kEqD K n (.ref a) (.ref b) H Q=∃ k dx dy,k<=100/\Deep K H k (.ref a) dx/\Deep K H k (.ref b) dy/\Q (.bl (n ^^ eqD dx dy)) H:=rfl
end
section
variable {X:Cx}
end
theorem bE {K:Frag} {H:Hp} {v:V} (n:Nat) (f:flatV v=true):Deep K H n v (.f v):=by
 cases n with
 | zero=>exact ⟨rfl,f⟩
 | succ n=>exact .inl ⟨rfl,f⟩
noncomputable abbrev tx (l:List Nat):V:=V.str (st l)
section
variable {K:Frag} {g:TG} {tc:TT} {te:TE} {σc:St} {D:Addr} {Q:VK} {H:Hp}
theorem kx {α:Type} (item:α -> V) (xs:List α) (keep:α -> Bool) (R:α -> V->Hp->Prop) {p:Addr} (hfree:H D=none) (hl:SqL K H p (xs.map item)) (hn:xs.length<=100000)
  (mono:∀ x v H1 H2 acc,H1 D=some (.lst acc)->(∀ b o,b≠D->H1 b=some o->H2 b=some o)->R x v H1->R x v H2)
  (hs:∀ x H1 (out:VK) (non:Hp->Prop),x ∈ xs->Same H H1->(∀ v H6,keep x=true->Same H1 H6->R x v H6->out v H6)->(∀ H5,keep x=false->Same H1 H5->non H5) ->
   g (item x) σc H1 fun σ4 H4=>tc σ4 H4 fun b H5=>if b=true then te σ4 H5 out else non H5)
  (hq:∀ H' vs,Same H H'->H' D=some (.lst vs)->Paired (fun x v=>R x v H') (xs.filter keep) vs->Q (.ref D) H'):compW (Itl K p) g tc te σc D Q H:=by
 refine ⟨fun i m acc H2=>m=xs.length - i/\i<=xs.length/\Paired (fun x v=>R x v H2) ((xs.take i).filter keep) acc/\Same H H2/\H2 D=some (.lst acc),⟨xs.length,by simp,Nat.zero_le _,.nil,ae hfree _,upd_same⟩,?_⟩;rintro i m acc H2 ⟨rfl,hi,pr,sm,hD⟩;have len:acc.length<=i:=by
  have a:=pr.length;have b:=List.length_filter_le keep (xs.take i);rw [List.length_take] at b;omega
 by_cases hlt:i < xs.length
 ·refine .inr ⟨⟨_,item xs[i],sm.seq hl,by simp [hlt]⟩,fun x H3 y=>?_⟩;obtain ⟨rfl,y⟩:=y;have e:=y _ (sm.seq hl);rw [List.getElem?_map,List.getElem?_eq_getElem hlt] at e;have e2:item xs[i]=x:=Option.some.inj e;subst e2;have ht:xs.take (i+1)=xs.take i++[xs[i]]:=by rw [List.take_add_one,List.getElem?_eq_getElem hlt]; rfl
  refine hs xs[i] _ _ _ (List.getElem_mem hlt) sm (fun v H6 k s6 r=>?_) fun H5 k s5=>?_
  ·refine ⟨s6 _ _ hD,Nat.lt_of_le_of_lt len (sizeBig (by omega)),xs.length - (i+1),by omega,rfl,hlt,?_,?_,upd_same⟩
   ·have m1:∀ x v,R x v H6->R x v (upd H6 D (.lst (acc++[v]))):=fun x v r=>mono x v H6 _ acc (s6 _ _ hD) (fun b o nb q=>by rw [au nb]; exact q) r
    rw [ht,List.filter_append];have f1:[xs[i]].filter keep=[xs[i]]:=by simp [k]
    rw [f1];have lift:∀ {l:List α} {vs:List V},Paired (fun x v=>R x v H3) l vs->Paired (fun x v'=>R x v' (upd H6 D (.lst (acc++[v])))) l vs:=by
     intro l vs pp
     induction pp with
     | nil=>exact .nil
     | cons r _ ih=>exact .cons (mono _ _ H3 _ acc hD (fun b o nb q=>by rw [au nb]; exact s6 _ _ q) r) ih
    have app:∀ {l:List α} {vs:List V} {x:α} {v':V} {F:α -> V->Prop},Paired F l vs->F x v'->Paired F (l++[x]) (vs++[v']):=by
     intro l vs x v' F pp r
     induction pp with
     | nil=>exact .cons r .nil
     | cons r' _ ih=>exact .cons r' ih
    exact app (lift pr) (m1 _ _ r)
   ·exact aL (sm.trans s6) hfree
  ·refine ⟨xs.length - (i+1),by omega,rfl,hlt,?_,sm.trans s5,s5 _ _ hD⟩;rw [ht,List.filter_append];have f1:[xs[i]].filter keep=[]:=by simp [k]
   rw [f1,List.append_nil];have lift:∀ {l:List α} {vs:List V},Paired (fun x v=>R x v H3) l vs->Paired (fun x v'=>R x v' H5) l vs:=by
    intro l vs pp
    induction pp with
    | nil=>exact .nil
    | cons r _ ih=>exact .cons (mono _ _ H3 _ acc hD (fun b o _ q=>s5 _ _ q) r) ih
   exact lift pr
 ·have e:i=xs.length:=by omega
  subst e;rw [List.take_length] at pr;exact .inl ⟨⟨_,sm.seq hl,by simp⟩,hq H2 acc sm hD pr⟩
end
section
variable {X:Cx}
end
section
variable {X:Cx} {o e:Expr} {to te:TE} {apos cpos:Pos}
end
section
variable {X:Cx} {tg a b c:Expr} {ta tb tc:TE} {pos p:Pos}
end
section
variable {g:TG} {tb:TS} {D:Ends} {σ:St} {H:Hp}
end
section
variable {X:Cx} {a:Expr} {ta:TE} {p pos:Pos}
end
theorem lR:typeLookup (.type "list_reverseiterator") "__len__" = pure none:=by rw [typeLookup_type,builtinLookup_eq_fast]; kernel_rfl
theorem jf:typeLookup (.type "list_reverseiterator") "__length_hint__" = pure (some (.builtin "list_reverseiterator.__length_hint__")):=by rw [typeLookup_type,builtinLookup_eq_fast]; kernel_rfl
section
variable {prog:Program} {w:World} {A:Around} {E:Value->Shared->Prop} {s:Shared}
theorem nY {I l:Addr} {i:Int} {Q:Bool->Shared->Prop} (hit:s.heap.IsRevIter I l i) (h:Q false s):wpAny (model prog w) A (Builtin.List.listLengthHint (.ref I)) Q E s:=by
 unfold Builtin.List.listLengthHint;apply wpAny_bind;apply wpAny_specialOf hit.typeIs lR;show wpAny _ A (specialOf (Value.ref I) (Str.ofString "__length_hint__")>>=_) _ _ _;apply wpAny_bind;apply wpAny_specialOf hit.typeIs jf;generalize hid:("list_reverseiterator.__length_hint__" : String)=id0
 wp_delta
 rw [show splitId id0=some ("list_reverseiterator", "__length_hint__") from by subst hid; decide +kernel];subst hid;apply wpAny_bind;apply wpAny_isInstance (T := "list_reverseiterator") (b:=true) hit.typeIs (by rw [isSubtype_type]; kernel_rfl);refine wpAny_ite_split (fun z=>absurd z (by decide)) fun _=>?_
 refine wpAny_ite_split (fun _=>?_) fun z=>absurd (by decide +kernel) z
 refine wpAny_ite_split (fun z=>absurd z (by decide)) fun _=>?_
 exact wpAny_pure h
theorem kN {I l:Addr} {items:Array Value} {Q:Value->Shared->Prop} (hh:A.handled=none) (hne:l≠I) (hit:s.heap.IsRevIter I l ((items.size:Int) - 1)) (hl:s.heap.IsList l items) (hz:items.size<=sizeLine)
  (hQ:∀ h' tk acc c,(∀ b o,b≠I->s.heap.get? b=some o->h'.get? b=some o)->h'.get? s.heap.objs.size=some { cls:=.type "list",dict:=none,data:=.seq acc c,slots:=#[] } ->
   ItemsOf (fun i v=>items[items.size - 1 - i]? = some v) acc items.size->Q (.ref s.heap.objs.size) { s with heap:=h',toks:=tk }):
  wpAny (model prog w) A (call (.type "list") [.ref I]) Q E s:=by
 have W:=(Walks.listRev (prog:=prog) (w:=w) (A:=A.in1.in1) (by simp [hh]) I l hne items).toS;have hI:I < s.heap.objs.size:=by
  obtain ⟨o,ho,_⟩:=hit;exact Heap.lt_size ho
 have hL:l < s.heap.objs.size:=by
  obtain ⟨o,ho,_⟩:=hl;exact Heap.lt_size ho
 apply callType_codes (Q₁:=fun obj s₁=>obj=.ref s.heap.objs.size/\s₁ = { s with heap:=s.heap.push { cls:=.type "list",data:=.seq #[] } }) PySem.F.called_list (PySem.F.typeCall_list_1 _) PySem.F.entry_list_init (code_list_new _ ⟨rfl,rfl⟩);rintro obj s₁ ⟨rfl,rfl⟩;have hS:(s.heap.push { cls:=.type "list",data:=.seq #[] }).get? s.heap.objs.size=some { cls:=.type "list",data:=.seq #[] }:=Heap.get?_push_size _ rfl;refine ⟨⟨_,hS,rfl⟩,PySem.F.args_list_init_2 _ _,?_⟩;change wpAny _ _ (Builtin.List.listItems (.ref s.heap.objs.size)>>=_) _ _ _;apply wpAny_bind;unfold Builtin.List.listItems;apply wpAny_bind;apply wpAny_seqItems hS rfl;apply wpAny_pure;change wpAny _ _ (updateSeq s.heap.objs.size (fun _=>#[])>>=_) _ _ _;apply wpAny_bind;apply wpAny_updateSeq hS rfl;have o2:=Heap.get?_update_self (Obj.mapSeq fun _=>(#[]:Array Value)) hS rfl;have k2:∀ b o,s.heap.get? b=some o->((s.heap.push { cls:=.type "list",data:=.seq #[] }).update s.heap.objs.size (Obj.mapSeq fun _=>(#[]:Array Value))).get? b=some o:=fun b o e=>by
  rw [Heap.get?_update_other _ _ (Nat.ne_of_gt (Heap.lt_size e))];exact Heap.get?_push_of_some _ e
 generalize (s.heap.push { cls:=.type "list",data:=.seq #[] }).update s.heap.objs.size (Obj.mapSeq fun _=>(#[]:Array Value))=H2 at o2 k2 ⊢;apply wpAny_bind;apply wpAny_letGo;unfold Builtin.List.listExtendWith;have it2:H2.IsRevIter I l ((items.size:Int) - 1):=hit.at fun o e=>k2 _ _ e
 have l2:H2.IsList l items:=hl.at fun o e=>k2 _ _ e
 apply wpAny_bind;apply wpAny_typeOf (T := "list_reverseiterator") it2.typeIs;refine wpAny_ite_split (fun z=>?_) fun _=>?_
 ·exfalso;have n1:(s.heap.objs.size == I)=false:=by rw [beq_eq_false_iff_ne]; exact Nat.ne_of_gt hI
  have n2:Builtin.List.listSameRef (.ref s.heap.objs.size) (.ref I)=false:=n1;rw [n2] at z;exact absurd z (by decide)
 apply wpAny_bind;apply wpAny_pyIter_revIter it2;apply wpAny_bind;apply wpAny_holding;apply nY it2;refine wpAny_ite_split (fun z=>absurd z (by decide +kernel)) fun _=>?_
 apply wpAny_pure;refine ⟨plainId_quiet PySem.F.plain_extend_loop _,?_⟩;refine codeAny_extend_loopS W hz _ ?_ _ items.size 0 _ _ _ rfl (Nat.zero_le _) ⟨Nat.zero_le _,?_,l2⟩ o2 (ItemsOf.nil _) fun s' acc c hm hS' hacc=>?_
 ·intro z;rcases List.mem_cons.mp z with z | z
  ·exact Nat.ne_of_gt hI z
  ·exact Nat.ne_of_gt hL (List.mem_singleton.mp z)
 ·simpa using it2
 ·rw [Moved.eq_with hm];refine ⟨rfl,hQ s'.heap s'.toks acc c (fun b o hb e=>hm.heap b o (fun z=>?_) (k2 b o e)) hS' hacc⟩;rcases List.mem_cons.mp z with z | z
  ·exact Nat.ne_of_lt (Heap.lt_size e) z
  ·exact hb (List.mem_singleton.mp z)
end
section
variable {X:Cx}
noncomputable def cListRev (K:Frag) (te:TE):TE:=fun σ H Q=>te σ H fun x H1=>match x with
 | .ref a=>∃ ys,SqL K H1 a ys/\∀ p,H1 p=none->Q (.ref p) (upd H1 p (.lst ys.reverse))
 | _=>False
theorem n6 {ys:List V} {us:List Value} (r:Vals ys us) {acc:Array Value} (h:ItemsOf (fun i v=>us.toArray[us.toArray.size - 1 - i]? = some v) acc us.toArray.size):Vals ys.reverse acc.toList:=by
 obtain ⟨hs,hi⟩:=h;have e:acc.toList=us.reverse:=by
  apply List.ext_getElem?;intro i;by_cases hlt:i < us.length
  ·have h1:i < acc.size:=by rw [hs]; simpa using hlt
   have:=hi i acc[i] (by simp [h1]);rw [List.getElem?_reverse hlt];simp only [List.size_toArray,List.getElem?_toArray] at this;rw [this];simp [h1]
  ·rw [List.getElem?_eq_none (l:=acc.toList) (by simp [hs]; omega),List.getElem?_eq_none (by rw [List.length_reverse]; omega)]
 rw [e];clear e hi hs;have app:∀ {a b:List V} {c d:List Value},Vals a c->Vals b d->Vals (a++b) (c++d):=fun p q=>by
  induction p with
  | nil=>exact q
  | cons r _ ih=>exact .cons r ih
 induction r with
 | nil=>exact .nil
 | cons r _ ih=>
  rw [List.reverse_cons,List.reverse_cons];exact app ih (.cons r .nil)
theorem iI {K:Frag} (hK:X.K=K) {e:Expr} {te:TE} {p p2 pos pos2:Pos} (hc:X.calm=true) (hg:Gl X "list") (hm:X.mg "list" = none) (hg2:Gl X "reversed") (hm2:X.mg "reversed" = none) (he:PE X e te)
  (hs:starEach [e] X.env=[(false,eval e X.env)]:=by rfl)
  (hs2:starEach [Expr.Call (.Name "reversed" p2) [e] [] pos2] X.env=[(false,eval (Expr.Call (.Name "reversed" p2) [e] [] pos2) X.env)]:=by rfl):
  PE X (.Call (.Name "list" p) [.Call (.Name "reversed" p2) [e] [] pos2] [] pos) (cListRev K te):=by
 subst hK;intro pins s σ H Q I h;refine wpAny_Call_Name_kw (fW I hg hm ck ?_ (by decide) (by decide));refine PyProof.Rows.callWith_type1 ?_ hs2 rfl;rw [hs2];show wpAny _ _ (spliced [(false,eval (Expr.Call (.Name "reversed" p2) [e] [] pos2) X.env)]) _ _ s;refine Calls.spliced_cons ?_;refine wpAny_Call_Name_kw (fW I hg2 hm2 boot_reversed ?_ (by decide) (by decide));refine PyProof.Rows.callWith_type1 ?_ hs rfl;rw [hs];show wpAny _ _ (spliced [(false,eval e X.env)]) _ _ s;refine Calls.spliced_cons (thn (he pins s σ H _ I h) fun u s1 ⟨x,H1,I1,r1,q1⟩=>Calls.spliced_nil ?_)
 match x,r1,q1 with
 | .ref a,r1,⟨ys,hq,a3⟩=>
  cases r1;obtain ⟨its,rv,pl,hz⟩:=I1.list hq;have hl:=rv.length;have ha:a < s1.heap.objs.size:=by
   obtain ⟨o,ho,_⟩:=pl.isList;exact Heap.lt_size ho
  refine call_reversed_list pl.isList (Calls.spliced_nil ?_);refine tokQ I1.tk (kN (I1.ok.hd hc) (Nat.ne_of_lt ha) ⟨_,Heap.get?_push_size _ rfl,rfl,rfl⟩ (pl.isList.push _) (by simp only [List.size_toArray]; omega) fun h' tk acc c old ho hi (htk:0 < tk)=>?_);have old':∀ b o,s1.heap.get? b=some o->h'.get? b=some o:=fun b o e=>old b o (Nat.ne_of_lt (Heap.lt_size e)) (Heap.get?_push_of_some _ e)
  have fr:H1 (s1.heap.push (revObj a ((its.toArray.size:Int) - 1))).objs.size=none:=I1.hok.fresh (by rw [Heap.size_push]; exact Nat.le_succ _);refine ⟨.ref _,_,I1.laid (o:=.lst ys.reverse) (t':=tk) old' (by rw [Heap.size_push]; exact Nat.le_succ _) ⟨by rw [List.length_reverse]; exact hz,acc.toList,c,n6 rv hi,by simpa using ho⟩,rfl,a3 _ fr⟩
theorem lB {K:Frag} {te:TE} {σ:St} {H:Hp} {Q:VK}:cListRev K te σ H Q=te σ H fun x H1=>match x with
 | .ref a=>∃ ys,SqL K H1 a ys/\∀ p,H1 p=none->Q (.ref p) (upd H1 p (.lst ys.reverse))
 | _=>False:=rfl
end
end L2
namespace L2
open PySem PySem.Spec PyProof.Rows PySem.Builtin PySem.Builtin.Str
section
variable {X:Cx}
end
end L2
namespace L2
open PySem PySem.Spec PyProof.Rows
section
variable {X:Cx}
theorem cS {i:Nat} {x:Str} {pos' spos:Pos} {elt tg iter:Expr} {ifs:List Expr} {scope:Scope} {pos:Pos} {wi:TI} {g:TG} {tc:TT} {te:TE} {nt:Nat} {fi:List Nat} {N':List Str} (hN:X.N.Nodup) (hi0:X.N[i]? = some x) (hx:Loc X.env.scope x) (hcalm:X.calm=true)
  (S:CScope scope) (cn:CNames X scope nt fi N') (gk:GK nt g) (hi:PI X tg iter wi)
  (hg:∀ cl C s H ex,PG (cxC X scope cl N' C s H ex) tg g) (hc:∀ cl C s H ex,PIf (cxC X scope cl N' C s H ex) ifs tc) (he:∀ cl C s H ex,PE (cxC X scope cl N' C s H ex) elt te)
  (hsw:swapsWith (.ListComp elt [⟨tg,iter,ifs,0⟩] scope pos) (some (.Name x pos')) spos.line X.env=pure true:=by rfl)
  (hs:∀ x,foldedSetIterable iter X.env x=pure x:=by intro _; rfl) (hf:X.fn x=true\/X.env.scope.names.lookup x=some .local:=by first | exact .inl rfl | exact .inr rfl | assumption):
  PS X (.Assign [.Name x pos'] (.ListComp elt [⟨tg,iter,ifs,0⟩] scope pos) spos) (tAsg (cComp nt fi wi g tc te) (gName i)):=by
 intro pins s σ H D I h;have hfr:∀ y ∈ scope.names,y.2=.free->∃ c,X.env.cells.lookup y.1=some c:=fun y hy e=>I.ok.has y.1 (cn.fre y hy e)
 rw [exec_Assign_Name_used _ _ _ _ hsw];refine wpAny_bind (wpAny_standAt (wpAny_bind ?_));change wpAny _ X.A (do let _ <- comprehension (.ListComp elt [⟨tg,iter,ifs,0⟩] scope pos) scope X.env _ (newList []) false (eval iter X.env) (some (assign (.Name x pos') X.env))) _ _ s;refine wpAny_bind (thn (Q:=fun _ s'=>∃ σ' H',Inv X pins σ' H' s'/\D.nx σ' H') ?_ fun _ s' q=>wpAny_pure (wpAny_pure q));refine wpAny_comprehension_free (use:=some (assign (.Name x pos') X.env)) rfl hs (eJ hfr) S.kind S.loc (thn (hi pins s σ H _ I h) fun v s1 h1=>thn h1 fun itv s2 h2=>?_);obtain ⟨it,fp,tn,J,H2,e,I2,T,st2,f2,hW⟩:=h2;subst e;have fD:H2 s2.heap.objs.size=none:=I2.hok.fresh (Nat.le_refl _);obtain ⟨W,⟨m0,w0⟩,turn⟩:=hW s2.heap.objs.size fD;refine wpAny_newObj_type (wpAny_newFunctionEnv S.nocell (by intro y hy; simp at hy) (fun h₁ hns₁ hsb₁=>?_) S.kind);have I3:Inv X pins σ (upd H2 s2.heap.objs.size (.lst [])) { s2 with heap:=s2.heap.push { cls:=.type "list",dict:=none,data:=.seq ([]:List Value).toArray } }:=I2.lnew (its:=[]) (t':=s2.toks) .nil (Nat.zero_le _);generalize hs3:({ s2 with heap:=s2.heap.push { cls:=.type "list",dict:=none,data:=.seq ([]:List Value).toArray } }:Shared)=s3 at I3 hns₁ hsb₁ ⊢;have hsz:s3.heap.objs.size=s2.heap.objs.size+1:=by rw [<- hs3]; exact Heap.size_push ..
 have ob2:∀ b ∈ fp,∃ o,s3.heap.get? b=some o:=fun b hb=>by
  obtain ⟨o,e,_⟩:=T.obj _ _ st2 b hb;rw [<- hs3];exact ⟨o,Heap.get?_push_of_some _ e⟩
 have f3:∀ b ∈ fp,FpOk X pins (upd H2 s2.heap.objs.size (.lst [])) b:=fun b hb=>by
  obtain ⟨o,e,_⟩:=T.obj _ _ st2 b hb;refine ⟨?_,(f2 b hb).2⟩;rw [au (Nat.ne_of_lt (Heap.lt_size e))];exact (f2 b hb).1
 have kp:∀ b o,s3.heap.get? b=some o->h₁.get? b=some o:=fun b o e=>hsb₁.extBut b o (Nat.ne_of_lt (Heap.lt_size e)) (Heap.get?_push_of_some _ e)
 have st3:tn 0 h₁:=T.keep _ _ _ st2 fun b _ o e=>kp b o (by rw [<- hs3]; exact Heap.get?_push_of_some _ e)
 have J4:Inv (cxC X scope (clOf X.env.cells scope.names []) N' s3.heap.objs.size s3 (upd H2 s2.heap.objs.size (.lst [])) fp) (X.pn++pins) (compσ nt fi σ) (upd H2 s2.heap.objs.size (.lst [])) { s3 with heap:=h₁,toks:=s3.toks+([]:List (Str × Value)).length }:=
  ku I3 S cn f3 ob2 hns₁ kp I3.tk
 generalize hcl:clOf X.env.cells scope.names []=cl at J4 ⊢;generalize hH3:upd H2 s2.heap.objs.size (.lst [])=H3 at J4 I3 f3 w0;have stat:∀ {H':Hp},(∀ b ∈ fp,H' b=none)->∀ b ∈ fp,FpOk (cxC X scope cl N' s3.heap.objs.size s3 H3 fp) (X.pn++pins) H' b:=fun {H'} hn b hb=>by
  obtain ⟨g0,g1,g2,g3,g4,g5⟩:=f3 b hb;have ok:=J4.ok;refine ⟨hn b hb,(ok.exf b hb).1,ok.exfs b hb,.inl hb,(ok.exf b hb).2,fun p hp=>g5 p ?_⟩;have hp':p ∈ ([]:List (Addr × Obj))++(X.pn++pins):=hp;simpa using hp'
 have loop:∀ s₃:Shared,s₃ = { s3 with heap:=h₁,toks:=s3.toks+([]:List (Str × Value)).length } ->
   codeAny (model X.prog X.w) X.A (.compLoop (.ListComp elt [⟨tg,iter,ifs,0⟩] scope pos) 0 (.ref it) (.ref s2.heap.objs.size) (compEnvC scope cl s3.heap.objs.size X.env))
    (compPost (model X.prog X.w) X.A X.xe (some (assign (.Name x pos') X.env)) (fun _ s'=>∃ σ' H',Inv X pins σ' H' s'/\D.nx σ' H') (.ref s2.heap.objs.size) s3.heap.objs.size) s₃:=by
  rintro s₃ rfl;refine gn (fun n s'=>∃ i acc H',Inv (cxC X scope cl N' s3.heap.objs.size s3 H3 fp) (X.pn++pins) (compσ nt fi σ) H' s'/\tn i s'.heap/\(∀ b ∈ fp,H' b=none)/\W i n acc H') ?_ m0
   ⟨0,[],H3,J4,st3,fun b hb=>(f3 b hb).1,w0⟩
  rintro n s5 ⟨ii,acc,H5,I5,st5,fr5,w5⟩;rcases turn ii n acc H5 w5 with ⟨stop,qn⟩ | ⟨go,step⟩
  ·refine thn (T.done (cxC X scope cl N' s3.heap.objs.size s3 H3 fp) rfl rfl rfl hcalm ii (X.pn++pins) s5 (compσ nt fi σ) H5 (fun _ _=>False) I5 (stat fr5) st5 stop) fun r s6 ⟨hr,I6⟩=>?_
   subst hr;obtain ⟨m6,hn6,_⟩:=I6.loc;have I7:Inv X pins σ H5 s6:=kr I3 f3 (Nat.le_refl _) I6 (Heap.SameBut.refl _ s6.heap);have fC:FpOk X pins H5 s3.heap.objs.size:=I3.fpOk (Nat.le_refl _) I6.free;obtain ⟨c0,c1,c2,c3,c4,c5⟩:=fC;refine wpAny_assign_Name (jH I7 hN hi0 hx (v:=.ref s2.heap.objs.size) rfl (fun s8 I8 ⟨a,sb,ha⟩=>?_) hf);have na:a≠s3.heap.objs.size:=by
    rcases ha with rfl | ha
    ·exact c1.symm
    ·exact c4 x a ha
   refine ⟨m6,hn6.sameBut sb na.symm,fun h' sb'=>⟨_,H5,?_,qn⟩⟩;exact I8.turned (t':=s8.toks) (fun b o nb e=>(sb'.2 b nb).trans e) c0 c1 c3 c4 c5
  ·refine thn (T.item (cxC X scope cl N' s3.heap.objs.size s3 H3 fp) rfl rfl rfl hcalm ii (X.pn++pins) s5 (compσ nt fi σ) H5 (fun _ _=>False) I5 (stat fr5) st5 go) fun r s6 ⟨u,hr,h6⟩=>?_
   subst hr;refine thn h6 fun _ s7 ⟨y,H7,I7,r7,y7,st7,fr7⟩=>?_
   have I7':=I7.pinned (stat fr7) (T.obj _ _ st7);refine thn (hg _ _ _ _ _ _ s7 (compσ nt fi σ) H7 y u _ I7' r7 (gk _ _ _ _ (step y H7 y7))) fun _ s8 ⟨σ8,H8,I8,q8,l8,d8⟩=>?_
   refine thn (hc _ _ _ _ _ _ s8 σ8 H8 _ I8 q8) fun b s9 ⟨H9,I9,q9⟩=>?_
   have again:∀ {s':Shared} {H':Hp} {m':Nat} {acc':List V},Inv (cxC X scope cl N' s3.heap.objs.size s3 H3 fp) ((X.pn++pins)++pinsAt fp s7.heap) σ8 H' s'->m' < n->W (ii+1) m' acc' H' ->
     ∃ m,m < n/\∃ i acc H',Inv (cxC X scope cl N' s3.heap.objs.size s3 H3 fp) (X.pn++pins) (compσ nt fi σ) H' s'/\tn i s'.heap/\(∀ b ∈ fp,H' b=none)/\W i m acc H':=fun {s' H' m' acc'} I' hm w'=>by
    refine ⟨m',hm,ii+1,acc',H',I'.unpinned.weak l8.symm (compσ_weak l8 d8),T.keep _ _ _ st7 fun b hb o e=>(I'.pin (b,o) (List.mem_append_right _ (List.mem_append_right _ (cC hb e)))).1,fun b hb=>?_,w'⟩;obtain ⟨o,e,d⟩:=T.obj _ _ st7 b hb;exact (I'.pin (b,o) (List.mem_append_right _ (List.mem_append_right _ (cC hb e)))).2.1
   cases b with
   | false=>
    rw [if_neg Bool.false_ne_true] at q9 ⊢;obtain ⟨m',hm,w'⟩:=q9;exact again I9 hm w'
   | true=>
    rw [if_pos rfl] at q9 ⊢;refine thn (he _ _ _ _ _ _ s9 σ8 H9 _ I9 q9) fun uv s10 ⟨v10,H10,I10,r10,hD,hlt,m',hm,w'⟩=>?_
    refine thn (gS (X:=cxC X scope cl N' s3.heap.objs.size s3 H3 fp) _ s10 σ8 H10 (.ref s2.heap.objs.size) [v10] (.ref s2.heap.objs.size) [uv] (fun _ H'=>H'=upd H10 s2.heap.objs.size (.lst (acc++[v10]))) I10 rfl (.cons r10 .nil) ⟨_,acc,v10,rfl,rfl,hD,hlt,rfl⟩) fun _ s11 ⟨_,H11,I11,_,e11⟩=>?_
    subst e11;exact again I11 hm w'
 exact codeAny_compStart_list (loop _ rfl) (T.self _ 0 _ _ _ st3 (loop _ rfl))
end
structure Fly (P:Program) (w:World) (outer:List Env) (H H':Hp) (h h':Heap) (ea C:Addr):Prop where
 un:Un (frs outer) [] H H' h h'
 hok:HOk P w H' h'
 new:∀ b o,h.get? b=some o->b≠ea
 fr:H' ea=none
 fl:∃ B a0,Heap.FlyingW B outer ea (.ref C) a0 h'/\∀ b,((∃ o,h.get? b=some o)/\b ∉ frs outer)\/H' b≠none->∃ o,B.get? b=some o
noncomputable def XR (P:Program) (w:World):CXT:=fun outer H s E e s'=>
 ∃ ea C H',e=.ref ea/\0 < s'.toks/\s'.os=s.os/\AllBare s'.gens/\Fly P w outer H H' s.heap s'.heap ea C/\E (.ref C) none H'
theorem Fly.on {P:Program} {w:World} {outer:List Env} {H H':Hp} {h h' h2:Heap} {ea C:Addr} (F:Fly P w outer H H' h h' ea C) {B:Heap} {a0:Value}
  (fl1:Heap.FlyingW B outer ea (.ref C) a0 h') (inB:∀ b,((∃ o,h.get? b=some o)/\b ∉ frs outer)\/H' b≠none->∃ o,B.get? b=some o)
  (ff:∀ b ∈ frs outer,H b=none) (fl2:Heap.FlyingW B outer ea (.ref C) a0 h2) (up:h'.UpToSlots h2):Fly P w outer H H' h h2 ea C:=by
 have same:∀ b o,((∃ o,h.get? b=some o)/\b ∉ frs outer)\/H' b≠none->h'.get? b=some o->h2.get? b=some o:=fun b o hb e=>by
  obtain ⟨o',eB⟩:=inB b hb;have e1:=fl1.1 b o' eB;rw [e] at e1; cases e1;exact fl2.1 b o eB
 have sl:∀ b o,b ∈ frs outer->h'.get? b=some o->∃ sl,h2.get? b=some { o with slots:=sl }:=fun b o hb e=>by
  obtain ⟨_,o',ho',hd⟩:=fl1.2.2.1.mem hb;rw [e] at ho'; cases ho';exact up b o e hd
 refine ⟨⟨fun b o e n hf hx=>same b o (.inl ⟨⟨o,e⟩,hf⟩) (F.un.keep b o e n hf hx),fun b o e n hf hx=>?_,F.un.free,fun b o e hx=>?_,F.un.tups,F.un.frzs,F.un.tbls⟩,fun a o e=>?_,F.new,F.fr,B,a0,fl2,inB⟩
 ·obtain ⟨s1,e1⟩:=F.un.slot b o e n hf hx;obtain ⟨s2,e2⟩:=sl b _ hf e1;exact ⟨s2,e2⟩
 ·obtain ⟨o1,e1⟩:=F.un.there b o e hx;by_cases hf:b ∈ frs outer
  ·obtain ⟨s2,e2⟩:=sl b _ hf e1;exact ⟨_,e2⟩
  ·exact ⟨o1,same b o1 (.inl ⟨⟨o,e⟩,hf⟩) e1⟩
 ·refine (F.hok a o e).stay (fun b u hb q=>same b u (.inr ?_) q) (fun _ q=>q) fun _ _ q=>q
  rcases hb with rfl | hb
  ·rw [e]; simp
  ·rw [hb]; simp
section
variable {X:Cx} {pins:List (Addr × Obj)} {σ:St} {H:Hp} {s:Shared}
theorem kS {env:Env} {l:List Env} {L:Addr} (hf:env.frame=some L):frs (env::l)=L::frs l:=by unfold frs; rw [List.filterMap_cons,hf]
theorem Inv.leave (I:Inv X pins σ H s) (hex:X.ex=[]) {B h2:Heap} {ea C:Addr} {a0:Value} (hB:B.StaysIn s.heap) (up:s.heap.UpToSlots h2)
  (inB:∀ b,((∃ o,X.s₀.heap.get? b=some o)/\b ∉ frs X.outer)\/H b≠none->∃ o,B.get? b=some o) (fl:Heap.FlyingW B X.outer ea (.ref C) a0 h2)
  (new:∀ b o,X.s₀.heap.get? b=some o->b≠ea) (fr:H ea=none):Fly X.prog X.w X.outer X.H₀ H X.s₀.heap h2 ea C:=by
 have nx:∀ b:Addr,b ∉ X.ex:=fun b z=>by rw [hex] at z; cases z
 have same:∀ b o,((∃ o,X.s₀.heap.get? b=some o)/\b ∉ frs X.outer)\/H b≠none->s.heap.get? b=some o->h2.get? b=some o:=fun b o hb e=>by
  obtain ⟨o',eB⟩:=inB b hb;have e1:=hB b o' eB;rw [e] at e1; cases e1;exact fl.1 b o eB
 have sl:∀ b o,b ∈ frs X.outer->s.heap.get? b=some o->∃ sl,h2.get? b=some { o with slots:=sl }:=fun b o hb e=>by
  obtain ⟨_,o',ho',hd⟩:=I.funs.mem hb;rw [e] at ho'; cases ho';exact up b o e hd
 refine ⟨⟨fun b o e n hf _=>same b o (.inl ⟨⟨o,e⟩,hf⟩) (I.base.keep b o e n hf (nx b)),fun b o e n hf _=>?_,fun b o e n _=>I.base.free b o e n (nx b),fun b o e _=>?_,I.base.tups,I.base.frzs,I.base.tbls⟩,fun a o e=>?_,new,fr,B,a0,fl,inB⟩
 ·obtain ⟨s1,e1⟩:=I.base.slot b o e n hf (nx b);obtain ⟨s2,e2⟩:=sl b _ hf e1;exact ⟨s2,e2⟩
 ·obtain ⟨o1,e1⟩:=I.base.there b o e (nx b);by_cases hf:b ∈ frs X.outer
  ·obtain ⟨s2,e2⟩:=sl b _ hf e1;exact ⟨_,e2⟩
  ·exact ⟨o1,same b o1 (.inl ⟨⟨o,e⟩,hf⟩) e1⟩
 ·refine (I.hok a o e).stay (fun b u hb q=>same b u (.inr ?_) q) (fun _ q=>q) fun _ _ q=>q
  rcases hb with rfl | hb
  ·rw [e]; simp
  ·rw [hb]; simp
end
def Raises (X:Cx) (E:XK):Prop:=∀ (pins:List (Addr × Obj)) (σ:St) (H:Hp) (s:Shared) (h':Heap) (e C:Addr) (vs:List Value),
 Inv X pins σ H s->Heap.MadeExcOf s.heap h' e (.ref C) vs->E (.ref C) none H->X.xe (.ref e) { s with heap:=h' }
section
variable {P:Program} {w:World} {K:Frag} {mg:Str->Option Value} {base:Heap} {N:List Str} {qual:Str} {scope:Scope} {f:Addr} {cd:Value} {A:Around} {outer:List Env} {s₀:Shared} {H₀:Hp} {E:XK}
theorem fu:Raises (cxOf (XR P w) P w K mg base N qual scope f cd A outer s₀ H₀ E) E:=by
 intro pins σ H s h' e C vs I M q
 let X:Cx:=cxOf (XR P w) P w K mg base N qual scope f cd A outer s₀ H₀ E
 have I:Inv X pins σ H s:=I;have hf:X.env.frame=some X.env.locals:=rfl;have hst:X.stack=X.env::X.outer:=rfl;show wpAny (model P w) X.A (leaving X.env (.ref e)) (fun _ s''=>XR P w outer H₀ s₀ E (.ref e) s'') (fun e' s''=>XR P w outer H₀ s₀ E e' s'') { s with heap:=h' };have hin:∀ env ∈ X.stack,∀ a,env.frame=some a->a ∈ frs X.stack:=fun env he a ha=>List.mem_filterMap.mpr ⟨env,he,ha⟩
 refine wpAny_leaves_madeW (s:={ s with heap:=h' }) (base:=PySem.W.hideAll s.heap (frs X.stack)) (h:=s.heap) (env:=X.env) (outer:=X.outer) (L:=X.env.locals) I.ok.frames hf (fun b o z=>PySem.W.of_hideAll _ z) (PySem.W.funFrames_hide I.stack hin) M fun h2 t fl _ _ up=>?_
 have up1:s.heap.UpToSlots h2:=(Heap.UpToSlots.of_keeps M.keeps).trans up;have ne:∀ b o,s.heap.get? b=some o->b≠e:=fun b o q z=>by rw [z,M.new] at q; cases q
 refine ⟨e,C,H,rfl,I.tk,I.os,I.bare,I.leave rfl (fun b o z=>PySem.W.of_hideAll _ z) up1 (fun b hb=>?_) fl (fun b o z=>?_) ?_,q⟩
 ·rcases hb with ⟨⟨o,eo⟩,nf⟩ | hb
  ·obtain ⟨o1,e1⟩:=I.base.there b o eo (by intro z; cases z);refine ⟨o1,PySem.W.hideAll_get _ e1 ?_⟩;rw [hst,kS hf];intro z;rcases List.mem_cons.mp z with z | z
   ·exact absurd (Nat.lt_of_lt_of_le (Heap.lt_size eo) I.ok.above) (by rw [z]; exact Nat.lt_irrefl _)
   ·exact nf z
  ·cases eb:H b with
   | none=>exact absurd eb hb
   | some u=>
    have lt:=I.hok.lt eb;cases eo:s.heap.get? b with
    | none=>
     exfalso;have:=(I.hok b u eb);cases u with
     | lst xs=>obtain ⟨_,_,_,_,e⟩:=this; rw [eo] at e; cases e
     | tup xs=>obtain ⟨_,_,_,_,e,_⟩:=this; rw [eo] at e; cases e
     | dK kvs=>obtain ⟨_,_,_,_,o,_,_,e,_⟩:=this; rw [eo] at e; cases e
     | dT kvs=>obtain ⟨_,_,_,_,o,_,_,e,_⟩:=this; rw [eo] at e; cases e
     | set S n=>obtain ⟨o,_,_,_,e,_⟩:=this; rw [eo] at e; cases e
     | ins C dx fs=>obtain ⟨_,_,_,e,_⟩:=this; rw [eo] at e; cases e
     | own y=>obtain ⟨_,e⟩:=this; rw [eo] at e; cases e
     | xd fs=>obtain ⟨_,⟨_,_,_,e,_⟩,_⟩:=this; rw [eo] at e; cases e
     | rng lo hi=>obtain ⟨_,_,_,e⟩:=this; rw [eo] at e; cases e
     | frz ob u=>obtain ⟨e,_⟩:=this; rw [eo] at e; cases e
     | tbl ps=>obtain ⟨_,e,_⟩:=this; rw [eo] at e; cases e
     | met f y=>have e:s.heap.get? b=some _:=this; rw [eo] at e; cases e
     | ext φ=>obtain ⟨_,⟨_,e⟩,_⟩:=this; rw [eo] at e; cases e
    | some o=>
     refine ⟨o,PySem.W.hideAll_get _ eo fun z=>?_⟩;exact hb (I.stkFree b z)
 ·obtain ⟨o1,e1⟩:=I.base.there b o z (by intro z; cases z);exact ne b o1 e1
 ·cases eb:H e with
  | none=>rfl
  | some u=>
   exfalso;have:=(I.hok e u eb);have eo:=M.new;cases u with
   | lst xs=>obtain ⟨_,_,_,_,e⟩:=this; rw [eo] at e; cases e
   | tup xs=>obtain ⟨_,_,_,_,e,_⟩:=this; rw [eo] at e; cases e
   | dK kvs=>obtain ⟨_,_,_,_,o,_,_,e,_⟩:=this; rw [eo] at e; cases e
   | dT kvs=>obtain ⟨_,_,_,_,o,_,_,e,_⟩:=this; rw [eo] at e; cases e
   | set S n=>obtain ⟨o,_,_,_,e,_⟩:=this; rw [eo] at e; cases e
   | ins C dx fs=>obtain ⟨_,_,_,e,_⟩:=this; rw [eo] at e; cases e
   | own y=>obtain ⟨_,e⟩:=this; rw [eo] at e; cases e
   | xd fs=>obtain ⟨_,⟨_,_,_,e,_⟩,_⟩:=this; rw [eo] at e; cases e
   | rng lo hi=>obtain ⟨_,_,_,e⟩:=this; rw [eo] at e; cases e
   | frz ob u=>obtain ⟨e,_⟩:=this; rw [eo] at e; cases e
   | tbl ps=>obtain ⟨_,e,_⟩:=this; rw [eo] at e; cases e
   | met f y=>have e:s.heap.get? _=some _:=this; rw [eo] at e; cases e
   | ext φ=>obtain ⟨_,⟨_,e⟩,_⟩:=this; rw [eo] at e; cases e
theorem jt:Passes (XR P w) (cxOf (XR P w) P w K mg base N qual scope f cd A outer s₀ H₀ E) E:=by
 intro pins σ H s e s' I h
 let X:Cx:=cxOf (XR P w) P w K mg base N qual scope f cd A outer s₀ H₀ E
 have I:Inv X pins σ H s:=I;obtain ⟨ea,C,H',rfl,tk,os,bare,F,q⟩:=h;have hf:X.env.frame=some X.env.locals:=rfl;have hst:X.stack=X.env::X.outer:=rfl;show wpAny (model P w) X.A (leaving X.env (.ref ea)) (fun _ s''=>XR P w outer H₀ s₀ E (.ref ea) s'') (fun e' s''=>XR P w outer H₀ s₀ E e' s'') s';obtain ⟨B,a0,fl,inB⟩:=F.fl;have I2:Inv X pins σ H' s':=I.call' os F.un F.hok bare (fun b z=>nomatch z) tk;refine wpAny_leaves_onW (env:=X.env) (outer:=X.outer) (L:=X.env.locals) I.ok.frames hf fl fun h2 fl2 up=>?_
 refine ⟨ea,C,H',rfl,tk,os.trans I.os,bare,I2.leave rfl fl.1 up (fun b hb=>inB b ?_) fl2 (fun b o z=>?_) F.fr,q⟩
 ·rcases hb with ⟨⟨o,eo⟩,nf⟩ | hb
  ·obtain ⟨o1,e1⟩:=I.base.there b o eo (by intro z; cases z);refine .inl ⟨⟨o1,e1⟩,?_⟩;show b ∉ frs X.stack;rw [hst,kS hf];intro z;rcases List.mem_cons.mp z with z | z
   ·exact absurd (Nat.lt_of_lt_of_le (Heap.lt_size eo) I.ok.above) (by rw [z]; exact Nat.lt_irrefl _)
   ·exact nf z
  ·exact .inr hb
 ·obtain ⟨o1,e1⟩:=I.base.there b o z (by intro z; cases z);exact F.new b o1 e1
end
abbrev bmV:List Value:=[.type "ValueError",.type "Exception",.type "BaseException",.type "object"]
structure XCl (K:Frag) (C:Addr):Prop where
 ex:PySem.W.excIn K C bmV "ValueError.__new__" = true
 ty:PySem.W.typeIn K (.ref C)=some (.type "type")
 mb:PySem.W.mroIn K C (.type "BaseException")=some true
 ga:findIn K (.ref C) "__getattribute__" = some (some (.builtin "BaseException.__getattribute__"))
 gh:findIn K (.ref C) "__getattr__" = some none
 ca:findIn K (.ref C) "__class__" = some (some (.builtin "object.__class__"))
 gt:PySem.W.specialIn K (.builtin "object.__class__") "__get__" = some (some (.builtin "getset_descriptor.__get__"))
 tk:PySem.W.takesIn K (.builtin "object.__class__")=some true
 mo:PySem.W.mroIn K C (.type "object")=some true
theorem XCl.own {K:Frag} {h:Heap} {C:Addr} (c:XCl K C) (X:K.In h):OwnCls "x" C bmV "ValueError.__new__" (fun _=>some (.ref C)) h:=by
 have q:=c.ex;refine ⟨rfl,?_⟩;revert q;unfold PySem.W.excIn;rcases hk:K.lookup C with _ | ⟨oc,odd,oda,osl⟩
 ·intro q; cases q
 ·intro q;split at q
  case h_2=>cases q
  case h_1 dd cdt sl eo=>
   cases eo;split at q
   case h_2=>cases q
   case h_1 C' bm a0 a1 a2 a3 n a5 em es=>
    simp only [Bool.and_eq_true,beq_iff_eq,Bool.not_eq_true'] at q;obtain ⟨⟨⟨⟨⟨e1,e2⟩,e3⟩,e4⟩,e5⟩,e6⟩:=q;subst e1 e2;obtain ⟨f1,f2,f3,f4,f5,f6,f7,f8,f9,f10,f11⟩:=cdt;dsimp only at em e3 e5 e6;subst em e3;have el:osl=#[a0,a1,a2,a3,some (.builtin "ValueError.__new__"),a5]:=by
     rcases osl with ⟨l⟩
     simp only at es;rw [es]
    subst el;exact ⟨bm,f4,f1,f5,f2,f6,f7,f8,f9,f10,odd,a0,a1,a2,a3,a5,_,X _ _ hk,.of_isNs (PySem.W.isNs_of_in X e5),PySem.W.nsMap_none_of_in X e5 e6,PySem.W.tail_of_in X e4⟩
section
variable {X:Cx} {x:Str} {C:Addr} {np cpos pos:Pos} {e:Expr} {es:List Expr} {t:TA} {E:XK}
noncomputable def tRaise (C:Addr) (E:XK) (t:TA):TS:=fun _ σ H=>t σ H fun vs H1=>vs.length<=sizeLine/\E (.ref C) none H1
theorem gm (hc:X.calm=true) (hx:Raises X E) (hg:Gl X x) (hm:X.mg x=some (.ref C)) (c:XCl X.K C) (ha:PA X (e::es) t) (hdb:(x == ("__debug__" : Str))=false:=by decide)
  (he:starEach (e::es) X.env=(false,eval e X.env)::starEach es X.env:=by rfl) (hpl:(backTo cpos (starEach es X.env)).any (·.1)=false:=by rfl):
  PS X (.Raise (some (.Call (.Name x np) (e::es) [] cpos)) none pos) (tRaise C E t):=by
 intro pins s σ H D I h;obtain ⟨tl,N,nm,q,bs,hdct,sn,sub,ab,col,dd,k0,k1,k2,k3,k5,mN,hC,hN,hni,T⟩:=(c.own I.mod.kin).obj;refine wpAny_Raise_call_subU (k5:=k5) (k3:=k3) (k2:=k2) (k1:=k1) (k0:=k0) (dd:=dd) (col:=col) (ab:=ab) (sub:=sub) (sn:=sn) (hdct:=hdct) (bs:=bs) (q:=q) (C:=C) (nm:=nm) (N:=N) (bm:=tl) (mN:=mN) PySem.F.excBase_ValueError (by decide) PySem.F.excBase_ValueError (T.hasType PySem.F.excBase_ValueError.hasBase) (I.ok.hd hc) ?_ hni (gE I hg hm ⟨rfl,?_⟩ hdb)
 ·rw [he];show (false || (backTo cpos (starEach es X.env)).any (·.1))=false;rw [hpl]; rfl
 ·have hp:=ha cpos pins s σ H _ I h;rw [he] at hp ⊢;refine Calls.evalArgs_plain (wpAny_mono hp (fun us s2 hq=>?_) fun _ _ y=>y);obtain ⟨vs,H1,I1,r,z,q1⟩:=hq;exact ⟨rfl,by rw [<- r.length]; exact z,I1.bk _ _ hC,hN.keeps I1.bk,T.keeps I1.bk,fun h' ea M=>hx pins σ H1 s2 h' ea C us I1 M q1⟩
end
section
variable {K:Frag} {M:Model} {h:Heap} {C D e:Addr}
theorem XCl.isType (d:XCl K D) (X:K.In h):PySem.W.Looks M h (isType (.ref D)) true:=by
 obtain ⟨tl,N,nm,q,bs,hdct,sn,sub,ab,col,dd,k0,k1,k2,k3,k5,mN,hC,hN,hni,T⟩:=(d.own X).obj;intro A Q E s k z;unfold PySem.isType loadHead;exact wpAny_bind (wpAny_loadPart (k D _ hC) (wpAny_pure z))
theorem gX (X:K.In h) (d:XCl K D) (m:PySem.W.mroIn K C (.ref D)=some true) (he:∃ o,h.get? e=some o/\o.cls=.ref C):PySem.W.Looks M h (excMatches (.ref e) (.ref D)) true:=by
 obtain ⟨oe,e1,e2⟩:=he;have T:PySem.W.Looks M h (typeOf (.ref e)) (.ref C):=e2 ▸ (PySem.W.Looks.ld e1).andThen .now;have TD:PySem.W.Looks M h (typeOf (.ref D)) (.type "type"):=PySem.W.looks_typeIn X d.ty;have S:=PySem.W.looks_mroIn (M:=M) X m;have SB:=PySem.W.looks_mroIn (M:=M) X d.mb;have NT:PySem.W.Looks M h (isInstance (.ref D) (.type "tuple")) false:=TD.andThen (.of_pure tc_notTuple);have IE:PySem.W.Looks M h (isExcClass (.ref D)) true:=by
  intro A Q E s k z;unfold isExcClass;refine wpAny_bind (d.isType X A _ E s k ?_);exact SB A Q E s k z
 intro A Q E s k q;unfold excMatches;refine wpAny_bind (NT A _ E s k ?_);simp only [Bool.false_eq_true,if_false];refine wpAny_bind (wpAny_pure ?_);simp only [List.forIn_cons,List.forIn_nil];refine wpAny_bind (wpAny_bind (wpAny_bind (IE A _ E s k ?_)));simp only [Bool.not_true,Bool.false_eq_true,if_false];refine wpAny_pure (wpAny_pure (wpAny_bind (T A _ E s k ?_)));refine wpAny_bind (wpAny_bind (wpAny_bind (S A _ E s k ?_)));simp only [if_true];exact wpAny_pure (wpAny_pure (wpAny_pure q))
end
noncomputable def Cx.tries (X:Cx) (W:St->XK) (p:List (Addr × Obj)):Cx:=
 { X with pn:=X.pn++p,xe:=fun e s'=>∃ σ H s,Inv X p σ H s/\XR X.prog X.w X.stack H s (W σ) e s' }
noncomputable def Cx.hand (X:Cx) (ea:Addr):Cx:={ X with A:=X.A.mark (some (.ref ea)),calm:=false,xe:=fun _ _=>False }
section
variable {X:Cx} {W:St->XK} {p pins:List (Addr × Obj)} {σ:St} {H:Hp} {s:Shared}
theorem Cx.Ok.tries (k:X.Ok):(X.tries W p).Ok:=
 ⟨k.mod,k.kind,k.glob,k.blt,k.above,k.inj,k.has,k.cab,k.hd,k.frames,k.stk,k.exf,k.bs,k.bsz,k.noex,k.exfs,k.funs,k.frf⟩
theorem Cx.Ok.untries (k:(X.tries W p).Ok):X.Ok:=
 ⟨k.mod,k.kind,k.glob,k.blt,k.above,k.inj,k.has,k.cab,k.hd,k.frames,k.stk,k.exf,k.bs,k.bsz,k.noex,k.exfs,k.funs,k.frf⟩
theorem Inv.tries (I:Inv X p σ H s):Inv (X.tries W p) [] σ H s:=
 ⟨I.ok.tries,I.os,I.bare,I.base,I.loc,I.cell,I.free,I.freeC,fun q hq=>I.pin q (by rw [List.append_nil] at hq; exact hq),I.hok,I.len,I.tk⟩
theorem Inv.untries (I:Inv (X.tries W p) pins σ H s):Inv X p σ H s:=
 ⟨I.ok.untries,I.os,I.bare,I.base,I.loc,I.cell,I.free,I.freeC,fun q hq=>I.pin q (List.mem_append_left _ hq),I.hok,I.len,I.tk⟩
theorem Cx.Ok.hand (k:X.Ok) (ea:Addr):(X.hand ea).Ok:=
 ⟨k.mod,k.kind,k.glob,k.blt,k.above,k.inj,k.has,k.cab,fun z=>(nomatch z),k.frames,k.stk,k.exf,k.bs,k.bsz,k.noex,k.exfs,k.funs,k.frf⟩
theorem Inv.hand (I:Inv X p σ H s) (ea:Addr):Inv (X.hand ea) p σ H s:=
 ⟨I.ok.hand ea,I.os,I.bare,I.base,I.loc,I.cell,I.free,I.freeC,I.pin,I.hok,I.len,I.tk⟩
theorem Inv.unhand {ea:Addr} (k:X.Ok) (I:Inv (X.hand ea) p σ H s):Inv X p σ H s:=
 ⟨k,I.os,I.bare,I.base,I.loc,I.cell,I.free,I.freeC,I.pin,I.hok,I.len,I.tk⟩
end
def PassesT (CX:CXT) (X:Cx) (W:St->XK):Prop:=∀ (pins:List (Addr × Obj)) (σ:St) (H:Hp) (s:Shared) (e:Value) (s':Shared),Inv X pins σ H s->CX X.stack H s (W σ) e s'->X.xe e s'
theorem passesT {X:Cx} {W:St->XK} {p:List (Addr × Obj)}:PassesT (XR X.prog X.w) (X.tries W p) W:=fun _ σ H s _ _ I h=>⟨σ,H,s,I.untries,h⟩
section
variable {X:Cx} {CX:CXT} {k:Nat} {f:Addr} {fd:FuncData} {ps:List Str} {sp:Sp} {dvs:List V} {ds:List Value} {W:St->XK} {x:Str} {p pos:Pos} {e:Expr} {es:List Expr} {t:TA}
noncomputable def tCallT (sp:Sp) (dvs:List V) (W:St->XK) (t:TA):TE:=fun σ H Q=>t σ H fun vs H1=>sp (vs++dvs) H1 Q (W σ)
theorem pJ {pins:List (Addr × Obj)} {σ:St} {H:Hp} {s:Shared} {Q:VK} {us:List Value} {vs:List V} (F:FnOk X.prog X.w X.K X.mg X.base CX k f fd ps sp) (hr:Room k X.A) (hb:Binds X.K fd ps ds) (hd:Vals dvs ds) (hx:PassesT CX X W)
  (I:Inv X pins σ H s) (r:Vals vs us) (h:sp (vs++dvs) H Q (W σ)):wpAny (model X.prog X.w) X.A (call (.ref f) us) (EP X pins σ Q) X.xe s:=by
 have r2:Vals (vs++dvs) (us++ds):=r.append hd;have hl:ps.length=(us++ds).length:=(F.len _ _ _ _ h).symm.trans r2.length;have R:=F.run X.A X.stack s H ⟨us,[]⟩ (us++ds) (vs++dvs) Q (W σ) hr I.env0 (hb s us I.kIn hl.symm) r2 h;refine wpAny_call (codeAny_mono R fun r s' hq=>?_);rcases r with er | fl
 ·exact hx pins σ H s er s' I hq
 ·cases fl with
  | ret u=>exact I.after hq
  | _=>exact hq.elim
theorem oA (F:FnOk X.prog X.w X.K X.mg X.base CX k f fd ps sp) (hr:Room k X.A) (hg:Gl X x) (hm:X.mg x=some (.ref f)) (hk:keepIn X.K (.ref f)=true) (hb:Binds X.K fd ps ds) (hd:Vals dvs ds) (hx:PassesT CX X W)
  (ha:PA X (e::es) t) (hdb:(x == ("__debug__" : Str))=false:=by decide) (he:starEach (e::es) X.env=(false,eval e X.env)::starEach es X.env:=by rfl) (hpl:(backTo pos (starEach es X.env)).any (·.1)=false:=by rfl):
  PE X (.Call (.Name x p) (e::es) [] pos) (tCallT sp dvs W t):=fun pins s σ H Q I h=>
 wpAny_Call_Name_kw (gE I hg hm (PySem.W.callWith_K (h₀:=X.base) I.ok.mod.kin hk (thn (ha pos pins s σ H _ I h) fun us s1 ⟨vs,H1,I1,r,q⟩=>⟨I1.kIn,pJ F hr hb hd hx I1 r q⟩) he hpl) hdb)
end
noncomputable def XO (C ea:Addr):HO:=.ext fun h=>∃ o,h.get? ea=some o/\o.cls=.ref C
theorem XO.ok {P:Program} {w:World} {H:Hp} {h:Heap} {C ea:Addr} (e:∃ o,h.get? ea=some o/\o.cls=.ref C):ObjOk P w H h ea (XO C ea):=
 ⟨e,let ⟨o,e1,_⟩:=e; ⟨o,e1⟩,fun _ _ ⟨o,e1,e2⟩ k=>⟨o,k o e1,e2⟩⟩
structure Caught (K:Frag) (C D:Addr):Prop where
 sub:PySem.W.mroIn K C (.ref D)=some true
noncomputable def tTryAs (K:Frag) (D:Addr) (i:Nat) (tb:(St->XK)->TS) (th:Addr->TS):TS:=fun R σ H=>
 tb (fun σ' cv _ H'=>∃ C,cv=.ref C/\Caught K C D/\∀ ea,H' ea=none ->
  th ea { nx:=fun σ2 H2=>R.nx (σ2.set i none) H2,rt:=R.rt,bk:=fun σ2 H2=>R.bk (σ2.set i none) H2,ct:=fun σ2 H2=>R.ct (σ2.set i none) H2 } (σ'.set i (some (.ref ea))) (upd H' ea (XO C ea))) R σ H
theorem Inv.unname {M:Model} {A:Around} {E:Value->Shared->Prop} {X:Cx} {pins:List (Addr × Obj)} {σ:St} {H:Hp} {s:Shared} {i:Nat} {n:Str} {pos:Pos} {Q:Unit->Shared->Prop} (I:Inv X pins σ H s) (hN:X.N.Nodup) (hi:X.N[i]? = some n) (hl:X.env.kindOf n=some .local)
  (h:∀ s',Inv X pins (σ.set i none) H s'->Q () s'):wpAny M A (do bindName X.env n .none; unbindBehindTheSuite X.env n pos) Q E s:=by
 obtain ⟨m,hn,hv⟩:=id I.loc;have hiσ:i < σ.length:=by rw [I.len]; exact (List.getElem?_eq_some_iff.mp hi).1
 refine wpAny_nameGoes_keeps hl hn (by rw [I.ok.kind]; rfl) fun h' v hn' hs=>h _ ?_
 obtain ⟨oL,_,_,hoL,_⟩:=id hn;have out:∀ b,b < X.s₀.heap.objs.size->b≠X.env.locals:=fun b z q=>absurd (Nat.lt_of_lt_of_le z I.ok.above) (by rw [q]; exact Nat.lt_irrefl _)
 refine ⟨I.ok,I.os,I.bare,⟨fun b o e z hb hx=>(hs.2 b (out b (Heap.lt_size e))).trans (I.base.keep b o e z hb hx),fun b o e z hb hx=>?_,I.base.free,fun b o e hx=>?_,I.base.tups,I.base.frzs,I.base.tbls⟩,⟨_,hn',fun j y v' e1 e2 e3=>?_⟩,fun y c e=>?_,I.free,I.freeC,fun q hq=>?_,fun b ob e=>?_,by simpa using I.len,Nat.succ_pos _⟩
 ·obtain ⟨sl,e1⟩:=I.base.slot b o e z hb hx;exact ⟨sl,(hs.2 b (out b (Heap.lt_size e))).trans e1⟩
 ·obtain ⟨o',e1⟩:=I.base.there b o e hx;exact ⟨o',(hs.2 b (out b (Heap.lt_size e))).trans e1⟩
 ·have hj:j≠i:=fun z=>by subst z; rw [List.getElem?_set_self hiσ] at e2; cases e2
  rw [List.getElem?_set_ne (Ne.symm hj)] at e2;obtain ⟨u',r',q⟩:=hv j y v' e1 e2 e3;refine ⟨u',r',?_⟩;rcases q with ⟨k,e⟩ | ⟨k,c,e,z⟩
  ·refine .inl ⟨k,?_⟩;have:y≠n:=fun e=>hj (iS hN e1 (e ▸ hi))
   simp [this,e]
  ·exact .inr ⟨k,c,e,z.sameBut hs (I.cne y c e)⟩
 ·obtain ⟨w',z⟩:=I.cell y c e;exact ⟨w',z.sameBut hs (I.cne y c e)⟩
 ·obtain ⟨e,z,ne,nf,d⟩:=I.pin q hq;exact ⟨(hs.2 q.1 ne).trans e,z,ne,nf,d⟩
 ·refine (I.hok b ob e).stay (fun c w' hc q=>(hs.2 c ?_).trans q) (fun _ q=>q) fun _ _ q=>q
  rintro rfl;rcases hc with rfl | hc
  ·rw [I.free] at e; cases e
  ·rw [I.free] at hc; cases hc
theorem oZ {X:Cx} {body suite:List Stmt} {b₀:Stmt} {x n:Str} {np hpos pos:Pos} {D:Addr} {i:Nat} {tb:(St->XK)->TS} {th:Addr->TS} (hb:∀ W p,PSs (X.tries W p) body (tb W)) (hh:∀ ea,PSs (X.hand ea) (b₀ :: suite) (th ea))
  (hst:X.stack=X.env::X.outer) (hfr:X.env.frame=some X.env.locals) (hg:Gl X x) (hm:X.mg x=some (.ref D)) (d:XCl X.K D) (hN:X.N.Nodup) (hi:X.N[i]? = some n) (hl:X.env.kindOf n=some .local) (hdb:(x == ("__debug__" : Str))=false:=by decide):
  PS X (.Try body [.ExceptHandler (some (.Name x np)) (some n) (b₀ :: suite) hpos] [] [] pos) (tTryAs X.K D i tb th):=by
 intro pins s σ H R I h;refine wpAny_Try_except (wpAny_mono (hb _ pins [] s σ H R I.tries h) (fun f s1 q=>?_) fun e s1 q=>?_)
 ·have q:SP X pins R f s1:=by
   cases f with
   | next=>obtain ⟨σ',H',I',z⟩:=q; exact ⟨σ',H',I'.untries,z⟩
   | brk=>obtain ⟨σ',H',I',z⟩:=q; exact ⟨σ',H',I'.untries,z⟩
   | cont=>obtain ⟨σ',H',I',z⟩:=q; exact ⟨σ',H',I'.untries,z⟩
   | ret u=>obtain ⟨v,σ',H',I',r,z⟩:=q; exact ⟨v,σ',H',I'.untries,r,z⟩
  cases f with
  | next=>exact wpAny_execs_nil q
  | _=>exact q
 ·obtain ⟨σ1,H1,s0,I1,ea,C,H',rfl,tk,os,bare,F,C',eC,cau,k⟩:=q;cases eC;obtain ⟨B,a0,fl,inB⟩:=F.fl;have ff:∀ b ∈ frs X.stack,H1 b=none:=I1.stkFree;have hfs:X.A.frames=some (X.env::X.outer):=by rw [<- hst]; exact I1.ok.frames
  refine wpAny_looks_onW (env:=X.env) (outer:=X.outer) (L:=X.env.locals) hfs hfr (by rw [<- hst]; exact fl) fun h4 held4 up4=>?_
  refine wpAny_landsW held4 fun h5 fl5 up5=>?_
  have F5:Fly X.prog X.w X.stack H1 H' s0.heap h5 ea C:=F.on fl inB ff (by rw [hst]; exact fl5) (up4.trans up5);have I5:Inv X pins σ1 H' { s1 with heap:=h5 }:=I1.call' (s':={ s1 with heap:=h5 }) os F5.un F5.hok bare (fun b z=>nomatch z) tk;refine wpAny_handleBy_cons (codeAny_handlers_test ?_) (by intro q; cases q);refine gE (I5.hand ea) hg hm ?_ hdb;refine gX I5.kIn d cau.sub fl5.there _ _ _ _ (fun _ _ z=>z) ?_;refine codeAny_handlers_suite_as ?_;refine lands_againW fl5 fun h6 fl6 up6=>?_
  have F6:Fly X.prog X.w X.stack H1 H' s0.heap h6 ea C:=F5.on (by rw [hst]; exact fl5) inB ff (by rw [hst]; exact fl6) up6;have ne6:∀ b,H' b≠none->b≠ea:=fun b z q=>by rw [q,F6.fr] at z; exact z rfl
  have U6:Un (frs X.stack) [] H1 (upd H' ea (XO C ea)) s0.heap h6:=by
   refine ⟨F6.un.keep,F6.un.slot,fun b o e z hx=>?_,F6.un.there,fun b xs e=>?_,fun b o u e=>?_,fun b ps e=>?_⟩
   ·rw [au (F6.new b o e)]; exact F6.un.free b o e z hx
   ·have q:=F6.un.tups b xs e;rw [au (ne6 b (by rw [q]; simp))]; exact q
   ·have q:=F6.un.frzs b o u e;rw [au (ne6 b (by rw [q]; simp))]; exact q
   ·obtain ⟨more,q⟩:=F6.un.tbls b ps e;exact ⟨more,by rw [au (ne6 b (by rw [q]; simp))]; exact q⟩
  have O6:HOk X.prog X.w (upd H' ea (XO C ea)) h6:=fun b o e=>by
   by_cases hbe:b=ea
   ·subst hbe;rw [upd_same] at e; cases e;exact XO.ok fl6.there
   ·rw [au hbe] at e;refine (F6.hok b o e).stay (fun _ _ _ q=>q) (fun c q=>?_) fun c xs q=>?_
    ·rw [au (ne6 c (by rw [q]; simp))]; exact q
    ·rw [au (ne6 c (by rw [q]; simp))]; exact q
  have I6:Inv X pins σ1 (upd H' ea (XO C ea)) { s1 with heap:=h6 }:=I1.call' (s':={ s1 with heap:=h6 }) os U6 O6 bare (fun b z=>nomatch z) tk;refine iU (X:=X.hand ea) (v:=.ref ea) (I6.hand ea) hN hi (.inl hl) rfl (fun s7 I7=>?_) (.inr hl);refine wpAny_mono (hh ea pins s7 _ _ _ I7 (k ea F6.fr)) (fun f s8 q=>?_) fun _ _ z=>z.elim
  cases f with
  | next=>obtain ⟨σ',H',I',z⟩:=q; exact (I'.unhand I.ok).unname hN hi hl fun s9 I9=>⟨_,_,I9,z⟩
  | brk=>obtain ⟨σ',H',I',z⟩:=q; exact (I'.unhand I.ok).unname hN hi hl fun s9 I9=>⟨_,_,I9,z⟩
  | cont=>obtain ⟨σ',H',I',z⟩:=q; exact (I'.unhand I.ok).unname hN hi hl fun s9 I9=>⟨_,_,I9,z⟩
  | ret u=>obtain ⟨v,σ',H',I',r,z⟩:=q; exact (I'.unhand I.ok).unname hN hi hl fun s9 I9=>⟨v,_,_,I9,r,z⟩
end L2
namespace L2
open PySem PySem.Spec PySem.Calls PyProof.Rows PySem.W Builtin Builtin.ObjectAttr Builtin.Getset_descriptor
section
variable {prog:Program} {w:World} {A:Around} {E:Value->Shared->Prop} {K:Frag} {x C:Addr} {o:Obj} {h:Heap} {g:Array GenState} {d:Drawn} {t:Nat} {os:OsState}
theorem lS {R:Result->Shared->Prop} (X:K.In h) (c:XCl K C) (hx:h.get? x=some o) (hc:o.cls=.ref C) (hq:R (.ok (.ret (.ref C))) ⟨h,g,d,t,os⟩):
  codeAny (model prog w) A (.call (.builtin "getset_descriptor.__get__") ⟨[.builtin "object.__class__",.ref x,.ref C],[]⟩) R ⟨h,g,d,t,os⟩:=by
 have L0:Looks (model prog w) h (typeOf (.ref x)) (.ref C):=hc ▸ (Looks.ld hx).andThen .now;have L1:=looks_mroIn (M:=model prog w) X c.mo;refine codeAny_call_builtin KF.slot_gs.plain KF.entry_gs (KF.slot_gs.check _ _ _ _ _ _ _ _ KF.type_class (KF.args_gs _ _ _) ?_);unfold Builtin.«getset_descriptor.__get__»;unfold descrGet;rw [dga_obj];apply wpAny_bind;apply wpAny_pure;unfold descrGetter descrCheckInstance;unfold descrNameAndClass;unfold isInstance;simp only [KF.owner_class]
 repeat lk
 refine ⟨Code.quiet_builtin _ (by decide +kernel),?_⟩;apply codeAny_builtin KF.entry_class;unfold Builtin.«object.__class__»;unfold shownTypeOf
 repeat lk
 exact hq
theorem kO (X:K.In h) (c:XCl K C):Looks (model prog w) h (find (.ref x) (.ref C) "__class__") (Found.bind (.builtin "getset_descriptor.__get__") (.builtin "object.__class__")):=by
 have L1:=looks_findIn (M:=model prog w) X c.ca;have L2:Looks (model prog w) h (getOf (some (.builtin "object.__class__"))) (some (.builtin "getset_descriptor.__get__")):=looks_specialIn X c.gt;have L3:Looks (model prog w) h (dataDescriptor? (some (.builtin "object.__class__")) (some (.builtin "getset_descriptor.__get__"))) (some (.builtin "getset_descriptor.__get__",.builtin "object.__class__")):=(looks_takesIn (M:=model prog w) X c.tk).andThen .now;exact L1.andThen (L2.andThen (L3.andThen (Looks.tag .now)))
theorem jY {tk:Tok} {Q:Fin->Shared->Prop} (X:K.In h) (c:XCl K C) (hx:h.get? x=some o) (hc:o.cls=.ref C) (hq:Q (.done (.ret (.ref C))) ⟨h,g,d,t,os⟩):
  wpAny (model prog w) A (Builtin.«object.__getattribute__» ⟨[.ref x,.str "__class__" tk],[]⟩) Q E ⟨h,g,d,t,os⟩:=by
 have L0:Looks (model prog w) h (typeOf (.ref x)) (.ref C):=hc ▸ (Looks.ld hx).andThen .now;have L1:=kO (prog:=prog) (w:=w) (x:=x) X c;unfold Builtin.«object.__getattribute__»;apply wpAny_bind;apply wpAny_pure;dsimp only;apply wpAny_bind;apply wpAny_pure;refine wpAny_bind (L0.at (wpAny_bind (L1.at ?_)));dsimp only;show wpAny _ _ (holding [Value.builtin "object.__class__"] (call (Value.builtin "getset_descriptor.__get__") [Value.builtin "object.__class__",.ref x,.ref C])>>=ret) _ _ _;exact wpAny_bind (wpAny_holding (wpAny_call (lS X c hx hc (wpAny_pure hq))))
theorem mP {M:Model} {nv:Value} {Q:Unit->Shared->Prop} (X:K.In h) (c:XCl K C) (hx:h.get? x=some o) (hc:o.cls=.ref C) (hq:Q () ⟨h,g,d,t,os⟩):
  wpAny M A (checkBuiltinCall "BaseException.__getattribute__" ⟨[.ref x,nv],[]⟩) Q E ⟨h,g,d,t,os⟩:=by
 have LI:Looks M h (isInstance (.ref x) (.type "BaseException")) true:=(hc ▸ (Looks.ld hx).andThen .now:Looks M h (typeOf (.ref x)) (.ref C)).andThen (looks_mroIn (M:=M) X c.mb);have kd:builtinKind "BaseException.__getattribute__" = some .slot:=by decide +kernel
 have sp:splitId "BaseException.__getattribute__" = some ("BaseException", "__getattribute__"):=by decide +kernel
 have ag:=PySem.F.args_bexc_ga (.ref x) nv;simp only [checkBuiltinCall,kd,sp];refine wpAny_bind (LI.at ?_);simp only [Bool.not_true,Bool.false_eq_true,if_false]
 repeat (any_goals (first | assumption | wp_step))
theorem nu {tk:Tok} {Q:Value->Shared->Prop} (X:K.In h) (c:XCl K C) (hx:h.get? x=some o) (hc:o.cls=.ref C) (hq:Q (.ref C) ⟨h,g,d,t,os⟩):
  wpAny (model prog w) A (getAttrBy (.ref x) (.str "__class__" tk) false) Q E ⟨h,g,d,t,os⟩:=by
 have L0:Looks (model prog w) h (typeOf (.ref x)) (.ref C):=hc ▸ (Looks.ld hx).andThen .now;have L1:=looks_findIn (M:=model prog w) X c.ga;have L2:=looks_findIn (M:=model prog w) X c.gh;have L3:=looks_mroIn (M:=model prog w) X c.mb;have LI:Looks (model prog w) h (isInstance (.ref x) (.type "BaseException")) true:=L0.andThen L3;unfold getAttrBy;refine wpAny_holding (wpAny_bind (L0.at (wpAny_bind (L1.at ?_))));dsimp only;have nga:(Value.builtin "BaseException.__getattribute__" == Value.builtin "object.__getattribute__")=false:=by decide +kernel
 rw [if_neg (by rw [nga,Bool.and_false]; decide)];unfold getAttrByItsOwn hookBefore;refine wpAny_bind (L2.at ?_);refine wpAny_bind (wpAny_attempt (wpAny_holding ?_));unfold callGetattribute;rw [if_neg (by decide)];unfold boundAndCalled;rw [PySem.F.attrBase_ValueError.ga.bind];refine wpAny_bind (wpAny_pure ?_);refine wpAny_call (codeAny_call_builtin PySem.F.attrBase_ValueError.ga.plain PySem.F.entry_bexc_ga ?_);refine mP X c hx hc ?_;have ok:wpAny (model prog w) A.in1 (Builtin.«object.__getattribute__» ⟨[.ref x,.str "__class__" tk],[]⟩) (fun fin s'=>fin=.done (.ret (.ref C))/\s'=⟨h,g,d,t,os⟩) (fun _ _=>False) ⟨h,g,d,t,os⟩:=jY X c hx hc ⟨rfl,rfl⟩;refine wpAny_mono ok (fun fin s' z=>?_) fun _ _ z=>z.elim
 obtain ⟨rfl,rfl⟩:=z;dsimp only;exact handed_on rfl hq
theorem ky {Q:Option Value->Shared->Prop} (X:K.In h) (c:XCl K C) (hx:h.get? x=some o) (hc:o.cls=.ref C) (hq:Q (some (.ref C)) ⟨h,g,d,t+1,os⟩):
  wpAny (model prog w) A (getAttr? (.ref x) "__class__") Q E ⟨h,g,d,t,os⟩:=by
 unfold getAttr? getAttrBy?;refine wpAny_bind (wpAny_mkText ?_);refine wpAny_bind (wpAny_attempt (nu X c hx hc ?_));exact wpAny_pure hq
theorem oa (c:XCl K C):KitX K (.ref x) (.ref C) (fun h=>∃ o,h.get? x=some o/\o.cls=.ref C) where
 ty:=fun _ _ _ ⟨_,e1,e2⟩=>e2 ▸ (Looks.ld e1).andThen .now
 it:=fun _ _ X _=>c.isType X
 ne:=fun h tp dd its n sl X htp=>by
  obtain ⟨tl,N,nm,q,bs,hdct,sn,sub,ab,col,dd',k0,k1,k2,k3,k5,mN,hC,_⟩:=(c.own X).obj;refine Bool.eq_false_iff.mpr fun q=>?_
  have e:C=tp:=Value.ref.inj (beq_iff_eq.mp q);rw [e] at hC;have z:=congrArg Obj.data (Option.some.inj (hC.symm.trans htp));cases z
 ca:=fun {_ _ _ _ _ s} X ⟨_,e1,e2⟩ k=>by
  obtain ⟨h,g,d,t,os⟩:=s;exact ky X c e1 e2 k
end
theorem qA {K:Frag} {C D:Addr} {b:Bool} (c:XCl K D) (m:mroIn K C (.ref D)=some b) (hb:b=false->C≠D):kitOne K (.ref C) (.ref D)=some b:=by
 unfold kitOne;by_cases q:((Value.ref C == Value.ref D)=true)
 ·rw [if_pos q];have e:C=D:=Value.ref.inj (beq_iff_eq.mp q);cases b with
  | true=>rfl
  | false=>exact absurd e (hb rfl)
 ·rw [if_neg q];unfold kitCls;dsimp only;have hc:(clsIn K D).isSome=true:=by
   have:=c.mb;unfold mroIn at this;cases e:clsIn K D with
   | none=>rw [e] at this; cases this
   | some cd=>rfl
  rw [if_pos (by rw [hc,c.ty]; simp)];exact m
theorem n5 {K:Frag} {C:Addr} {b:Bool} (m:mroIn K C (.type "ValueError")=some b):kitOne K (.ref C) (.type "ValueError")=some b:=by
 unfold kitOne;rw [if_neg (by intro q; cases beq_iff_eq.mp q)];unfold kitCls;dsimp only;rw [if_pos (by decide +kernel)];exact m
section
variable {X:Cx} {pins:List (Addr × Obj)} {σ:St} {H:Hp} {s:Shared}
theorem Inv.exc (I:Inv X pins σ H s) {ea C:Addr} (e:H ea=some (XO C ea)):∃ o,s.heap.get? ea=some o/\o.cls=.ref C:=(I.hok ea _ e).1
noncomputable def V.cv:V->Option Value
 | .ref a=>some (.ref a)
 | .ty n=>some (.type n)
 | _=>none
theorem V.cv_of {v:V} {u c:Value} (r:RelV v u) (e:v.cv=some c):u=c:=by
 cases v with
 | ref a=>cases e; exact r
 | ty n=>cases e; exact r
 | _=>cases e
theorem mL:CallR X (.builtin "isinstance") (fun xs H Q=>∃ ea C v d b,xs=[.ref ea,v]/\v.cv=some d/\H ea=some (XO C ea)/\XCl X.K C/\kitOne X.K (.ref C) d=some b/\Q (.bl b) H):=by
 intro pins s σ H xs us Q I r h;obtain ⟨ea,C,v,d,b,rfl,ev,e,c,m,q⟩:=h;obtain ⟨u,u',rfl,r1,r2⟩:=vals2 r;cases r1;cases V.cv_of r2 ev;exact tokQ I.tk (kia_one (oa c) I.kIn (I.exc e) m (fun z=>nomatch z) fun tk (htk:0 < tk)=>⟨.bl b,H,I.tok _,rfl,q⟩)
end
end L2
namespace L2
open PySem PySem.Spec PyProof.Rows
def CalleeX (P:Program) (w:World) (K:Frag) (mg:Str->Option Value) (base:Heap) (k:Nat) (x:Str) (ps:List Str) (sp:Sp):Prop:=
 ∃ f fd,FnOk P w K mg base (XR P w) k f fd ps sp/\Binds K fd ps []/\keepIn K (.ref f)=true/\mg x=some (.ref f)
theorem Fn.calX {P:Program} {w:World} {K:Frag} {mg:Str->Option Value} {base:Heap} {x:Str} {st:Stmt} {N ps:List Str} {k:Nat} {sp:Sp} (F:Fn K mg x st) (S:FnScope N ps (defScope st)) (len:∀ vs H Q E,sp vs H Q E->vs.length=ps.length)
  (hb:∀ (kV doc pm:Value) (an:Option Addr) (cdv ct:Value) (us:List Value),us.length=ps.length->bindArgs (fnOf x x (defArgs st) (defBody st) (defScope st) .none kV doc pm an cdv ct) ⟨us,[]⟩=pure (ps.zip us))
  (hbody:∀ (f:Addr) (cdv:Value) (A:Around) (outer:List Env) (s:Shared) (H:Hp) (vs:List V) (Q:VK) (E:XK),Room k (A.deeper (envOfC x (defScope st) s.heap.objs.size f cdv))->sp vs H Q E ->
   ∃ t,PSs (cxOf (XR P w) P w K mg base N x (defScope st) f cdv A outer s H E) (defBody st) t/\t { nx:=fun _ H'=>Q .non H',rt:=Q } (start N vs) H):CalleeX P w K mg base (k+1) x ps sp:=by
 obtain ⟨f,fd,F,m⟩:=F;have hB:=F.binds hb;have hK:=F.kp;obtain ⟨oc,od,kV,doc,pm,an,cdv,ct,osl,rfl,lk,hcd⟩:=F.ex;exact ⟨f,_,qZ lk hcd S len (hbody f cdv),hB,hK,m⟩
section
variable {X:Cx} {k:Nat} {x:Str} {ps:List Str} {sp:Sp} {p pos:Pos} {e:Expr} {es:List Expr} {t:TA} {E:XK} {W:St->XK}
theorem nO (C:CalleeX X.prog X.w X.K X.mg X.base k x ps sp) (hr:Room k X.A) (hx:Passes (XR X.prog X.w) X E) (hg:Gl X x) (ha:PA X (e::es) t)
  (he:starEach (e::es) X.env=(false,eval e X.env)::starEach es X.env:=by rfl) (hpl:(backTo pos (starEach es X.env)).any (·.1)=false:=by rfl) (hd:(x == ("__debug__" : Str))=false:=by decide):PE X (.Call (.Name x p) (e::es) [] pos) (tCall sp [] E t):=by
 obtain ⟨f,fd,F,b,kp,m⟩:=C;exact lV F hr hg m kp b .nil hx ha (hdb:=hd) (he:=he) (hpl:=hpl)
theorem rJ (C:CalleeX X.prog X.w X.K X.mg X.base k x ps sp) (hr:Room k X.A) (hx:PassesT (XR X.prog X.w) X W) (hg:Gl X x) (ha:PA X (e::es) t)
  (he:starEach (e::es) X.env=(false,eval e X.env)::starEach es X.env:=by rfl) (hpl:(backTo pos (starEach es X.env)).any (·.1)=false:=by rfl) (hd:(x == ("__debug__" : Str))=false:=by decide):PE X (.Call (.Name x p) (e::es) [] pos) (tCallT sp [] W t):=by
 obtain ⟨f,fd,F,b,kp,m⟩:=C;exact oA F hr hg m kp b .nil hx ha (hdb:=hd) (he:=he) (hpl:=hpl)
theorem CalleeX.calm {P:Program} {w:World} {K:Frag} {mg:Str->Option Value} {base:Heap} {k:Nat} {x:Str} {ps:List Str} {sp:Sp} (C:CalleeX P w K mg base k x ps sp):
  Callee P w K mg base k x ps (fun vs H Q _=>sp vs H Q E0):=by
 obtain ⟨f,fd,F,b,kp,m⟩:=C;refine ⟨f,fd,⟨fun vs H Q _ h=>F.len vs H Q E0 h,fun A outer s H args us vs Q E hr e0 hb hv h=>?_⟩,b,kp,m⟩;refine codeAny_mono (F.run A outer s H args us vs Q E0 hr e0 hb hv h) fun r s' q=>?_
 rcases r with er | fl
 ·obtain ⟨_,_,_,_,_,_,_,_,z⟩:=q;exact z.elim
 ·cases fl with
  | ret u=>exact q
  | _=>exact q.elim
end
theorem PS.nox {X:Cx} {st:Stmt} {t:TS} (h:PS X.nox st t):PS X st t:=fun pins s σ H D I hw=>
 wpAny_mono (h pins s σ H D (I.wish _) hw) (fun _ _ q=>q.unwish) fun _ _ z=>z.elim
theorem PS.calm {X:Cx} {st:Stmt} {t:TS} (h:PS X.nox st t):PS X st t:=PS.nox h
section
variable {X:Cx} {a c:Expr} {es:List Expr} {ta:TE} {pos p tpos:Pos} {x1:Nat}
noncomputable def cIsX (K:Frag) (d:Value) (ta:TE):TE:=fun σ H Q=>ta σ H fun x H1=>match x with
 | .ref ea=>∃ C b,H1 ea=some (XO C ea)/\XCl K C/\PySem.W.kitOne K (.ref C) d=some b/\Q (.bl b) H1
 | _=>False
theorem im {v:V} {d:Value} (K:Frag) (hK:X.K=K) (ev:v.cv=some d) (hg:Gl X "isinstance") (hm:X.mg "isinstance" = none) (ha:PE X a ta) (hc:PE X c (tC v))
  (hs:starEach [a,c] X.env=(false,eval a X.env)::starEach [c] X.env:=by rfl) (hs2:starEach [c] X.env=(false,eval c X.env)::starEach [] X.env:=by rfl) (hpl:(backTo pos (starEach [c] X.env)).any (·.1)=false:=by rfl):PE X (.Call (.Name "isinstance" p) [a,c] [] pos) (cIsX K d ta):=by
 subst hK;refine (aB mL hg hm fM (aa ha.mono (aa hc ad hs2) hs) (he:=hs) (hpl:=hpl)).imp fun σ H Q q=>⟨_,q,fun x H1 z=>?_⟩
 split at z
 ·obtain ⟨C,b,h1,h2,h3,z⟩:=z;exact ⟨_,C,v,d,b,rfl,ev,h1,h2,h3,z⟩
 ·exact z.elim
end
noncomputable abbrev TJ:=Nat->St->Hp->(Hp->Prop)->Prop
def PJ (X:Cx) (es:List Expr) (t:TJ):Prop:=∀ (acc:Str) (pins:List (Addr × Obj)) (s:Shared) (σ:St) (H:Hp) (Q:Hp->Prop),acc.length<=sizeLine->Inv X pins σ H s->t acc.length σ H Q ->
 Joins (model X.prog X.w) X.A X.xe (evalEach es X.env) acc (fun out s1=>out.length<=sizeLine/\∃ H1,Inv X pins σ H1 s1/\Q H1) s
noncomputable def jNil:TJ:=fun _ _ H Q=>Q H
noncomputable def jCons (te:TE) (tj:TJ):TJ:=fun n σ H Q=>te σ H fun x H1=>match x with
 | .str y=>n+y.length<=sizeLine/\tj (n+y.length) σ H1 Q
 | _=>False
section
variable {X:Cx} {e v1 v2:Expr} {es rest:List Expr} {te:TE} {tj:TJ} {pos:Pos}
theorem rm:PJ X [] jNil:=fun acc pins s σ H Q hz I q=>⟨hz,H,I,q⟩
theorem l9 (he:PE X e te) (hr:PJ X es tj) (hs:evalEach (e::es) X.env=eval e X.env::evalEach es X.env:=by rfl):PJ X (e::es) (jCons te tj):=by
 intro acc pins s σ H Q hz I q;rw [hs];refine thn (he pins s σ H _ I q) fun u s1 ⟨x,H1,I1,r,z⟩=>?_
 dsimp only at z;split at z
 ·rename_i y;obtain ⟨t,rfl⟩:=r;have hl:(acc++y).length=acc.length+y.length:=strLen_append _ _;exact ⟨y,t,rfl,by rw [hl]; exact z.1,hr (acc++y) pins s1 σ H1 Q (by rw [hl]; exact z.1) I1 (by rw [hl]; exact z.2)⟩
 ·exact z.elim
noncomputable def cFS (tj:TJ):TE:=fun σ H Q=>tj 0 σ H fun H1=>∀ z,Q (.str z) H1
theorem tM (h:PJ X (v1::v2::rest) tj):PE X (.JoinedStr (v1::v2::rest) pos) (cFS tj):=by
 intro pins s σ H Q I q;have J:=h Str.empty pins s σ H _ (by decide) I q;refine wpAny_JoinedStr ?_;have mono:∀ {P R:Str->Shared->Prop} (l:List (Sem Value)) (acc:Str) (s:Shared),(∀ o s,P o s->R o s)->Joins (model X.prog X.w) X.A X.xe l acc P s->Joins (model X.prog X.w) X.A X.xe l acc R s:=by
  intro P R l
  induction l with
  | nil=>intro acc s k z; exact k _ _ z
  | cons x r ih=>
   intro acc s k z;exact thn z fun v s1 ⟨y,t,e,hz,z⟩=>⟨y,t,e,hz,ih _ _ k z⟩
 exact mono _ _ _ (fun out s1 ⟨hz,H1,I1,z⟩=>⟨hz,⟨.str out,H1,I1.tok _,⟨_,rfl⟩,z out⟩⟩) J
noncomputable def cFmtR (tv:TE):TE:=fun σ H Q=>tv σ H fun x H1=>match x with
 | .str y=>(∀ c ∈ y.cps.toList,c < 16 ^ 8)/\y.length<=100000/\∀ z:Str,z.length<=10*y.length+2->Q (.str z) H1
 | _=>False
theorem pI (hv:PE X e te):PE X (.FormattedValue e 114 none pos) (cFmtR te):=by
 intro pins s σ H Q I q;refine wpAny_FormattedValue_repr (thn (hv pins s σ H _ I q) fun u s1 ⟨x,H1,I1,r,z⟩=>?_);dsimp only at z;split at z
 ·rename_i y;obtain ⟨t,rfl⟩:=r;obtain ⟨h1,h2,z⟩:=z;have hl:=PySem.StrLaws.reprText_len y h1;have hs:(reprText y).length<=sizeLine:=Nat.le_trans hl (Nat.le_trans (by omega:10*y.length+2<=1000002) (by decide));refine wpAny_pyReprObj_str ?_ hs;exact tokQ (Nat.succ_pos _) (formatField_str (fun t' tk (htk:0 < tk)=>⟨.str (reprText y),H1,I1.tok _,⟨_,rfl⟩,z _ hl⟩) hs)
 ·exact z.elim
end
noncomputable def xA (K:Frag) (x:Str):Addr:=match nsIn K mainGlobals x with
 | some (some (.ref a))=>a
 | _=>0
theorem lY {K:Frag} {x:Str} {C:Addr} (e:nsIn K mainGlobals x=some (some (.ref C))):xA K x=C:=by unfold xA; rw [e]
def Xn (K:Frag) (mg:Str->Option Value) (x:Str):Prop:=mg x=some (.ref (xA K x))/\XCl K (xA K x)
def Xm (K:Frag) (x y:Str) (b:Bool):Prop:=PySem.W.mroIn K (xA K x) (.ref (xA K y))=some b/\(b=false->xA K x≠xA K y)
def Xv (K:Frag) (x:Str):Prop:=PySem.W.mroIn K (xA K x) (.type "ValueError")=some true
theorem Xn.kit {K:Frag} {mg:Str->Option Value} {x y:Str} {b:Bool} (m:Xm K x y b) (n:Xn K mg y):PySem.W.kitOne K (.ref (xA K x)) (.ref (xA K y))=some b:=qA n.2 m.1 m.2
theorem Xv.kit {K:Frag} {x:Str} (m:Xv K x):PySem.W.kitOne K (.ref (xA K x)) (.type "ValueError")=some true:=n5 m
theorem Xm.caught {K:Frag} {x y:Str} (m:Xm K x y true):Caught K (xA K x) (xA K y):=⟨m.1⟩
theorem ji:bootBuiltins "ValueError" = some (.type "ValueError"):=by decide +kernel
section
variable {K:Frag} {h:Heap} {mg:Str->Option Value} {x y:Str} {C D:Addr}
theorem tL (X:K.In h) (G:h.Ns mainGlobals mg) (n:nsIn K mainGlobals x=some (some (.ref C))) (ex:PySem.W.excIn K C bmV "ValueError.__new__" = true) (ty:PySem.W.typeIn K (.ref C)=some (.type "type")) (mb:PySem.W.mroIn K C (.type "BaseException")=some true)
  (ga:findIn K (.ref C) "__getattribute__" = some (some (.builtin "BaseException.__getattribute__"))) (gh:findIn K (.ref C) "__getattr__" = some none) (ca:findIn K (.ref C) "__class__" = some (some (.builtin "object.__class__"))) (mo:PySem.W.mroIn K C (.type "object")=some true)
  (gt:PySem.W.specialIn K (.builtin "object.__class__") "__get__" = some (some (.builtin "getset_descriptor.__get__"))) (tk:PySem.W.takesIn K (.builtin "object.__class__")=some true):Xn K mg x:=by
 unfold Xn;rw [lY n];exact ⟨mg_of X G n,⟨ex,ty,mb,ga,gh,ca,gt,tk,mo⟩⟩
theorem ke {b:Bool} (n:nsIn K mainGlobals x=some (some (.ref C))) (n':nsIn K mainGlobals y=some (some (.ref D))) (m:PySem.W.mroIn K C (.ref D)=some b) (d:b=false->C≠D):Xm K x y b:=by
 unfold Xm;rw [lY n,lY n'];exact ⟨m,d⟩
theorem rf (n:nsIn K mainGlobals x=some (some (.ref C))) (m:PySem.W.mroIn K C (.type "ValueError")=some true):Xv K x:=by
 unfold Xv;rw [lY n];exact m
end
theorem lx {X:Cx} {K:Frag} {x:Str} {pos:Pos} (n:Xn K X.mg x) (hg:Gl X x) (hd:(x == ("__debug__" : Str))=false:=by decide):PE X (.Name x pos) (tC (.ref (xA K x))):=qp (v:=.ref (xA K x)) hg n.1 rfl hd
theorem oD {sp:Sp} {W:St->XK} {t:TA} {σ:St} {H:Hp} {Q:VK}:tCallT sp [] W t σ H Q=t σ H fun vs H1=>sp vs H1 Q (W σ):=by
 unfold tCallT;simp only [List.append_nil]
theorem pd {C:Addr} {E:XK} {t:TA} {D:Ends} {σ:St} {H:Hp}:tRaise C E t D σ H=t σ H fun vs H1=>vs.length<=sizeLine/\E (.ref C) none H1:=rfl
theorem tW {tj:TJ} {σ:St} {H:Hp} {Q:VK}:cFS tj σ H Q=tj 0 σ H fun H1=>∀ z,Q (.str z) H1:=rfl
theorem sV {n:Nat} {σ:St} {H:Hp} {Q:Hp->Prop}:jNil n σ H Q=Q H:=rfl
theorem qE {te:TE} {tj:TJ} {n:Nat} {σ:St} {H:Hp} {Q:Hp->Prop}:jCons te tj n σ H Q=te σ H fun x H1=>match x with
 | .str y=>n+y.length<=sizeLine/\tj (n+y.length) σ H1 Q
 | _=>False:=rfl
theorem pL {tv:TE} {σ:St} {H:Hp} {Q:VK}:cFmtR tv σ H Q=tv σ H fun x H1=>match x with
 | .str y=>(∀ c ∈ y.cps.toList,c < 16 ^ 8)/\y.length<=100000/\∀ z:Str,z.length<=10*y.length+2->Q (.str z) H1
 | _=>False:=rfl
theorem sx {K:Frag} {d:Value} {ta:TE} {σ:St} {H:Hp} {Q:VK}:cIsX K d ta σ H Q=ta σ H fun x H1=>match x with
 | .ref ea=>∃ C b,H1 ea=some (XO C ea)/\XCl K C/\PySem.W.kitOne K (.ref C) d=some b/\Q (.bl b) H1
 | _=>False:=rfl
theorem oq {K:Frag} {D:Addr} {i:Nat} {tb:(St->XK)->TS} {th:Addr->TS} {R:Ends} {σ:St} {H:Hp}:tTryAs K D i tb th R σ H =
 tb (fun σ' cv _ H'=>∃ C,cv=.ref C/\Caught K C D/\∀ ea,H' ea=none ->
  th ea { nx:=fun σ2 H2=>R.nx (σ2.set i none) H2,rt:=R.rt,bk:=fun σ2 H2=>R.bk (σ2.set i none) H2,ct:=fun σ2 H2=>R.ct (σ2.set i none) H2 } (σ'.set i (some (.ref ea))) (upd H' ea (XO C ea))) R σ H:=rfl
end L2
namespace L2
open PySem PySem.Spec PyProof.Rows PySem.Builtin PySem.Builtin.Str
theorem jT {n a b:Nat} (h1:a<=b) (h2:b<=n):strSliceIndices (some (a:Int)) (some (b:Int)) 1 n=(List.range (b - a)).map fun k=>a+k:=by
 have e1:¬ ((a:Int) < 0):=by omega
 have e2:¬ ((b:Int) < 0):=by omega
 have e3:max 0 (min (a:Int) (n:Int))=a:=by omega
 have e4:max 0 (min (b:Int) (n:Int))=b:=by omega
 simp only [strSliceIndices,e1,e2,if_false,show (1:Int) > 0 by decide,if_true,e3,e4,sliceRange];have c:(if (a:Int) < b then ((b:Int) - a+1 - 1) / 1 else 0).toNat=b - a:=by
  split <;> omega
 rw [c];apply List.map_congr_left;intro k _;omega
theorem ie (l:List Nat) (a m:Nat) (h:a+m<=l.length):((List.range m).map fun k=>a+k).filterMap (fun i=>l[i]?)=(l.drop a).take m:=by
 induction m with
 | zero=>simp
 | succ m ih=>
  have hl:a+m < l.length:=by omega
  rw [List.range_succ,List.map_append,List.filterMap_append,ih (by omega),List.take_add_one,List.getElem?_drop];simp [List.getElem?_eq_getElem hl]
theorem lJ (l:List Nat) (a b:Nat) (h1:a<=b) (h2:b<=l.length):Txt.slice (st l) (some (a:Int)) (some (b:Int))=st ((l.drop a).take (b - a)):=by
 have hl:(st l).length=l.length:=by simp [Str.length]
 unfold Txt.slice;rw [hl,jT h1 h2];have f:((List.range (b - a)).map fun k=>a+k).filterMap ((st l).cps[·]?)=(l.drop a).take (b - a):=by
  rw [<- ie l a (b - a) (by omega)];congr 1;funext i;simp
 split
 ·rename_i g;simp only [List.length_map,List.length_range,beq_self_eq_true,Bool.true_and,beq_iff_eq] at g;have e1:a=0:=by omega
  have e2:b=l.length:=by omega
  subst e1 e2;simp
 ·rw [f]
section
variable {X:Cx}
noncomputable def kSlB:V->Option Int->Option Int->Hp->VK->Prop:=fun x lo hi H Q=>match x,lo,hi with
 | .str z,some i,some j=>z.cps.toList.length<=100000/\0<=i/\i<=j/\j<=z.cps.toList.length/\Q (.str (st ((z.cps.toList.drop i.toNat).take (j.toNat - i.toNat)))) H
 | _,_,_=>False
theorem slB:SlR X kSlB:=nI.imp fun x lo hi H Q q=>by
 unfold kSlB at q;split at q
 ·rename_i z i j;obtain ⟨h,h0,h1,h2,q⟩:=q;obtain ⟨a,rfl⟩:∃ k:Nat,i=k:=⟨i.toNat,by omega⟩;obtain ⟨b,rfl⟩:∃ k:Nat,j=k:=⟨j.toNat,by omega⟩;refine ⟨z,rfl,by rw [strlen]; exact Nat.le_trans h big5,?_⟩;have e:=lJ z.cps.toList a b (by omega) (by omega);rw [cy] at e;rw [e];simpa using q
 ·exact q.elim
theorem rK {l:List Nat} {i j:Int} {H:Hp} {Q:VK}:kSlB (.str (st l)) (some i) (some j) H Q=(l.length<=100000/\0<=i/\i<=j/\j<=l.length/\Q (.str (st ((l.drop i.toNat).take (j.toNat - i.toNat)))) H):=rfl
end
end L2
namespace L2
open PySem PySem.Spec PyProof.Rows
section
variable {K:Frag} {g:TG} {tc:TT} {te:TE} {σc:St} {D:Addr} {Q:VK} {H:Hp}
theorem j4 {α β:Type} {F:α -> β -> Prop} {l:List α} {m:List β} {x:α} {y:β} (h:Paired F l m) (r:F x y):Paired F (l++[x]) (m++[y]):=by
 induction h with
 | nil=>exact .cons r .nil
 | cons r' _ ih=>exact .cons r' ih
theorem dS {lo:Int} {n:Nat} (R:Nat->V->Hp->Prop) (hfree:H D=none) (hn:n<=100000)
  (mono:∀ x v H1 H2 acc,H1 D=some (.lst acc)->(∀ b o,b≠D->H1 b=some o->H2 b=some o)->R x v H1->R x v H2)
  (hs:∀ i H1 (out:VK) (non:Hp->Prop),i < n->Same H H1->(∀ v H6,Same H1 H6->R i v H6->out v H6) ->
   g (.int (lo+i)) σc H1 fun σ4 H4=>tc σ4 H4 fun b H5=>if b=true then te σ4 H5 out else non H5)
  (hq:∀ H' vs,Same H H'->H' D=some (.lst vs)->Paired (fun x v=>R x v H') (List.range n) vs->Q (.ref D) H'):compW (Itr lo n) g tc te σc D Q H:=by
 refine ⟨fun i m acc H2=>m=n - i/\i<=n/\Paired (fun x v=>R x v H2) (List.range i) acc/\Same H H2/\H2 D=some (.lst acc),⟨n,by simp,Nat.zero_le _,.nil,ae hfree _,upd_same⟩,?_⟩;rintro i m acc H2 ⟨rfl,hi,pr,sm,hD⟩;have len:acc.length=i:=by rw [<- pr.length,List.length_range]
 by_cases hlt:i < n
 ·refine .inr ⟨hlt,fun x H3 y=>?_⟩;obtain ⟨rfl,rfl⟩:=y;refine hs i _ _ _ hlt sm fun v H6 s6 r=>?_
  refine ⟨s6 _ _ hD,Nat.lt_of_le_of_lt (Nat.le_of_eq len) (sizeBig (by omega)),n - (i+1),by omega,rfl,hlt,?_,aL (sm.trans s6) hfree,upd_same⟩;have lift:∀ {l:List Nat} {vs:List V},Paired (fun x v=>R x v H3) l vs->Paired (fun x v'=>R x v' (upd H6 D (.lst (acc++[v])))) l vs:=fun pp=>
   L2.Paired.mapP pp fun _ _ r=>mono _ _ H3 _ acc hD (fun b o nb q=>by rw [au nb]; exact s6 _ _ q) r
  rw [List.range_succ];exact j4 (lift pr) (mono _ _ H6 _ acc (s6 _ _ hD) (fun b o nb q=>by rw [au nb]; exact q) r)
 ·have e:i=n:=by omega
  subst e;exact .inl ⟨Nat.le_refl _,hq H2 acc sm hD pr⟩
end
structure RoomH (k:Nat) (A:Around):Prop where
 dp:A.depth+3*k+5 < recursionLimit
 un:A.units+16*k+200 < cLine
theorem Room.h {k:Nat} {A:Around} (r:Room k A):RoomH k A:=⟨r.dp,r.un⟩
theorem RoomH.mark {k:Nat} {A:Around} (r:RoomH k A) (v:Option Value):RoomH k (A.mark v):=⟨r.dp,r.un⟩
theorem RoomH.mono {j k:Nat} {A:Around} (r:RoomH k A) (h:j<=k):RoomH j A:=⟨by have:=r.dp; omega,by have:=r.un; omega⟩
section
variable {X:Cx} {k:Nat} {x:Str} {ps:List Str} {sp:Sp} {p pos:Pos} {e:Expr} {es:List Expr} {t:TA}
end
section
variable {κ:Type} [DecidableEq κ]
noncomputable def valV (kvs:List (κ × V)) (k:κ):Option V:=(kvs.find? fun kv=>decide (kv.1=k)).map (·.2)
noncomputable def putK (kvs:List (κ × V)) (k:κ) (v:V):List (κ × V):=
 if (kvs.any fun kv=>decide (kv.1=k))=true then kvs.map (fun kv=>if kv.1=k then (kv.1,v) else kv) else kvs++[(k,v)]
noncomputable def dropK (kvs:List (κ × V)) (k:κ):List (κ × V):=kvs.filter fun kv=>decide (kv.1≠k)
theorem i0 {p:κ × V} {r:List (κ × V)} {k:κ} (e:p.1=k):valV (p::r) k=some p.2:=by simp [valV,List.find?_cons,e]
theorem i4 {p:κ × V} {r:List (κ × V)} {k:κ} (e:¬ p.1=k):valV (p::r) k=valV r k:=by simp [valV,List.find?_cons,e]
theorem kj (k:κ):∀ kvs:List (κ × V),(kvs.any fun kv=>decide (kv.1=k))=(valV kvs k).isSome
 | []=>rfl
 | p::r=>by
  rw [List.any_cons];by_cases e:p.1=k
  ·simp only [i0 e,decide_eq_true e,Bool.true_or,Option.isSome_some]
  ·rw [i4 e,decide_eq_false e,Bool.false_or]; exact kj k r
theorem RelO.isSome_eq {o:Option V} {u:Option Value} (r:RelO o u):o.isSome=u.isSome:=by
 cases o with
 | none=>cases u with
  | none=>rfl
  | some _=>exact (show False from r).elim
 | some _=>cases u with
  | none=>exact (show False from r).elim
  | some _=>rfl
theorem RelO.getD {o:Option V} {u:Option Value} {d:V} {d':Value} (r:RelO o u) (rd:RelV d d'):RelV (o.getD d) (u.getD d'):=by
 cases o with
 | none=>cases u with
  | none=>exact rd
  | some _=>exact (show False from r).elim
 | some _=>cases u with
  | none=>exact (show False from r).elim
  | some _=>exact r
theorem KV.val {kvs:List (κ × V)} {vs:List (κ × Value)} (r:KV kvs vs) (k:κ):RelO (valV kvs k) (valueAt vs k):=by
 unfold KV at r
 induction r with
 | nil=>exact True.intro
 | @cons p q ps qs h t ih=>
  obtain ⟨h1,h2⟩:=h;by_cases e:p.1=k
  ·have e':q.1=k:=h1.symm.trans e;have b:valueAt (q::qs) k=some q.2:=by simp [valueAt,List.find?_cons,e']
   rw [i0 e,b]; exact h2
  ·have e':¬ q.1=k:=fun z=>e (h1.trans z)
   have b:valueAt (q::qs) k=valueAt qs k:=by simp [valueAt,List.find?_cons,e']
   rw [i4 e,b]; exact ih
theorem KV.any {kvs:List (κ × V)} {vs:List (κ × Value)} (r:KV kvs vs) (k:κ):(kvs.any fun kv=>decide (kv.1=k))=vs.any fun kv=>decide (kv.1=k):=by
 unfold KV at r
 induction r with
 | nil=>rfl
 | cons h t ih=>rw [List.any_cons,List.any_cons,ih,h.1]
theorem KV.repl {kvs:List (κ × V)} {vs:List (κ × Value)} (r:KV kvs vs) (k:κ) {y:V} {u:Value} (ry:RelV y u):
  KV (kvs.map fun kv=>if kv.1=k then (kv.1,y) else kv) (vs.map fun kv=>if kv.1=k then (kv.1,u) else kv):=by
 unfold KV at r ⊢
 induction r with
 | nil=>exact .nil
 | @cons p q ps qs h t ih=>
  rw [List.map_cons,List.map_cons];refine .cons ?_ ih;obtain ⟨h1,h2⟩:=h;by_cases e:p.1=k
  ·rw [if_pos e,if_pos (h1.symm.trans e)]; exact ⟨h1,ry⟩
  ·rw [if_neg e,if_neg (fun z=>e (h1.trans z))]; exact ⟨h1,h2⟩
theorem KV.put {kvs:List (κ × V)} {vs:List (κ × Value)} (r:KV kvs vs) (k:κ) {y:V} {u:Value} (ry:RelV y u):KV (putK kvs k y) (stored vs k u):=by
 unfold putK stored;rw [r.any k];by_cases e:(vs.any fun kv=>decide (kv.1=k))=true
 ·rw [if_pos e,if_pos e]; exact r.repl k ry
 ·rw [if_neg e,if_neg e]; exact Paired.snoc r ⟨rfl,ry⟩
theorem KV.drop {kvs:List (κ × V)} {vs:List (κ × Value)} (r:KV kvs vs) (k:κ):KV (dropK kvs k) (without vs k):=by
 unfold KV at r ⊢;unfold dropK without
 induction r with
 | nil=>exact .nil
 | @cons p q ps qs h t ih=>
  obtain ⟨h1,h2⟩:=h;rw [List.filter_cons,List.filter_cons];by_cases e:p.1=k
  ·have a:¬ decide (p.1≠k)=true:=by simp [e]
   have b:¬ decide (q.1≠k)=true:=by simp [h1.symm.trans e]
   rw [if_neg a,if_neg b]; exact ih
  ·have e':¬ q.1=k:=fun z=>e (h1.trans z)
   have a:decide (p.1≠k)=true:=by simp [e]
   have b:decide (q.1≠k)=true:=by simp [e']
   rw [if_pos a,if_pos b]; exact .cons ⟨h1,h2⟩ ih
theorem KV.keys {kvs:List (κ × V)} {vs:List (κ × Value)} (r:KV kvs vs):kvs.map (·.1)=vs.map (·.1):=by
 unfold KV at r
 induction r with
 | nil=>rfl
 | cons h t ih=>rw [List.map_cons,List.map_cons,ih,h.1]
theorem KV.length {kvs:List (κ × V)} {vs:List (κ × Value)} (r:KV kvs vs):kvs.length=vs.length:=Paired.length r
end
noncomputable abbrev KT (H:Hp):List (List Key × V)->List (List Key × Addr × Value)->Prop:=Paired fun p q=>p.1=q.1/\H q.2.1=some (.tup (p.1.map kV))/\RelV p.2 q.2.2
theorem KT.val {H:Hp} {kvs:List (List Key × V)} {xs:List (List Key × Addr × Value)} (r:KT H kvs xs) (k:List Key):RelO (valV kvs k) ((atKey xs k).map (·.2)):=by
 induction r with
 | nil=>exact True.intro
 | @cons p q ps qs h t ih=>
  obtain ⟨h1,_,h2⟩:=h;by_cases e:p.1=k
  ·have e':q.1=k:=h1.symm.trans e;have b:atKey (q::qs) k=some q.2:=by simp [atKey,List.find?_cons,e']
   rw [i0 e,b]; exact h2
  ·have e':¬ q.1=k:=fun z=>e (h1.trans z)
   have b:atKey (q::qs) k=atKey qs k:=by simp [atKey,List.find?_cons,e']
   rw [i4 e,b]; exact ih
theorem KT.repl {H:Hp} {kvs:List (List Key × V)} {xs:List (List Key × Addr × Value)} (r:KT H kvs xs) (k:List Key) {y:V} {u:Value} (ry:RelV y u):
  KT H (kvs.map fun kv=>if kv.1=k then (kv.1,y) else kv) (xs.map (putAt k u)):=by
 induction r with
 | nil=>exact .nil
 | @cons p q ps qs h t ih=>
  rw [List.map_cons,List.map_cons];refine .cons ?_ ih;obtain ⟨h1,h2,h3⟩:=h;unfold putAt;by_cases e:p.1=k
  ·rw [if_pos e,if_pos (h1.symm.trans e)]; exact ⟨h1,h2,ry⟩
  ·rw [if_neg e,if_neg (fun z=>e (h1.trans z))]; exact ⟨h1,h2,h3⟩
theorem KT.put {H:Hp} {kvs:List (List Key × V)} {xs:List (List Key × Addr × Value)} (r:KT H kvs xs) (k:List Key) {b:Addr} {y:V} {u:Value} (hb:H b=some (.tup (k.map kV))) (ry:RelV y u):
  KT H (putK kvs k y) (storedH xs k b u):=by
 have e:(kvs.any fun kv=>decide (kv.1=k))=(atKey xs k).isSome:=by
  rw [kj,(r.val k).isSome_eq,Option.isSome_map]
 unfold putK storedH;rw [e];by_cases q:(atKey xs k).isSome=true
 ·rw [if_pos q,if_pos q]; exact r.repl k ry
 ·rw [if_neg q,if_neg q]; exact Paired.snoc r ⟨rfl,hb,ry⟩
theorem KT.keeps {H H':Hp} {kvs:List (List Key × V)} {xs:List (List Key × Addr × Value)} (r:KT H kvs xs) (ht:∀ b ys,H b=some (.tup ys)->H' b=some (.tup ys)):KT H' kvs xs:=
 Paired.mapP r fun _ _ z=>⟨z.1,ht _ _ z.2.1,z.2.2⟩
section
variable {P:Program} {w:World} {H:Hp} {h:Heap} {a:Addr}
theorem tX {u:HO} (ok:HOk P w H h) (e:Rd H a u):ObjOk P w H h a u:=e.ok ok
theorem tV {kvs:List (Key × V)} (ok:HOk P w H h) (e:Rd H a (.dK kvs)):kvs.length<=sizeLine/\(a == sysModules)=false/\∃ vs,KV kvs vs/\h.DictOf (mixKind P w) a vs:=
 show ObjOk P w H h a (.dK kvs) from tX ok e
theorem tP {kvs:List (Key × V)} (ok:HOk P w H h) (e:H a=some (.dK kvs)):kvs.length<=sizeLine/\(a == sysModules)=false/\∃ vs,KV kvs vs/\h.DictOf (mixKind P w) a vs:=tV ok (.inl e)
end
def DGet (H:Hp) (a:Addr) (y:V) (r:Option V):Prop:=
 (∃ kvs k,Rd H a (.dK kvs)/\y=kV k/\r=valV kvs k)\/∃ kvs k b,Rd H a (.dT kvs)/\y=.ref b/\H b=some (.tup (k.map kV))/\r=valV kvs k
def DPut (H:Hp) (a:Addr) (y v:V) (H':Hp):Prop:=
 (∃ kvs k,H a=some (.dK kvs)/\y=kV k/\kvs.length < sizeLine/\H'=upd H a (.dK (putK kvs k v))) \/
 ∃ kvs k b,H a=some (.dT kvs)/\y=.ref b/\H b=some (.tup (k.map kV))/\kvs.length < sizeLine/\H'=upd H a (.dT (putK kvs k v))
theorem DGet.k {H:Hp} {a:Addr} {kvs:List (Key × V)} {k:Key} (e:H a=some (.dK kvs)):DGet H a (kV k) (valV kvs k):=.inl ⟨kvs,k,.inl e,rfl,rfl⟩
theorem DGet.t {H:Hp} {a b:Addr} {kvs:List (List Key × V)} {k:List Key} (e:H a=some (.dT kvs)) (eb:H b=some (.tup (k.map kV))):DGet H a (.ref b) (valV kvs k):=.inr ⟨kvs,k,b,.inl e,rfl,eb,rfl⟩
theorem DPut.k {H:Hp} {a:Addr} {kvs:List (Key × V)} {k:Key} {v:V} (e:H a=some (.dK kvs)) (hl:kvs.length < sizeLine):DPut H a (kV k) v (upd H a (.dK (putK kvs k v))):=.inl ⟨kvs,k,e,rfl,hl,rfl⟩
theorem DPut.t {H:Hp} {a b:Addr} {kvs:List (List Key × V)} {k:List Key} {v:V} (e:H a=some (.dT kvs)) (eb:H b=some (.tup (k.map kV))) (hl:kvs.length < sizeLine):
  DPut H a (.ref b) v (upd H a (.dT (putK kvs k v))):=.inr ⟨kvs,k,b,e,rfl,eb,hl,rfl⟩
section
variable {X:Cx} {pins:List (Addr × Obj)} {σ:St} {H:Hp} {s:Shared} {a:Addr} {y v:V} {u r:Value} {o:Option V} {A:Around} {E:Value->Shared->Prop}
theorem qi {h':Heap} {t':Nat} {ob:HO} (I:Inv X pins σ H s) (mu:Mut (H a)) (hs:Heap.SameBut a s.heap h') (he:∃ q,h'.get? a=some q) (new:ObjOk X.prog X.w (upd H a ob) h' a ob) (ht:0 < t':=by first | assumption | exact Nat.succ_pos _ | (apply Inv.tk; assumption) | omega):
  Inv X pins σ (upd H a ob) { s with heap:=h',toks:=t' }:=
 I.write (x:=a) (e:=a) mu (.inl rfl) (fun b q hb z=>(hs.2 b hb).trans z) he new
theorem so {P:Program} {w:World} {H':Hp} {h':Heap} {kvs:List (Key × V)} {vs:List (Key × Value)} (z:kvs.length<=sizeLine) (hd:(a == sysModules)=false) (rel:KV kvs vs) (dd:h'.DictOf (mixKind P w) a vs):
  ObjOk P w H' h' a (.dK kvs):=⟨z,hd,vs,rel,dd⟩
end
section
variable {X:Cx} {pins:List (Addr × Obj)} {σ:St} {H:Hp} {s:Shared} {a:Addr} {kvs:List (Key × V)} {k:Key} {u:Value} {A:Around} {E:Value->Shared->Prop}
end
section
variable {X:Cx} {o i e value:Expr} {pos pos' tpos:Pos} {td ty tv:TE}
end
section
variable {X:Cx} {pos:Pos}
end
section
variable {X:Cx} {pins:List (Addr × Obj)} {σ:St} {H:Hp} {s:Shared} {a:Addr} {y d:V} {u r:Value} {o:Option V} {A:Around} {E:Value->Shared->Prop}
end
section
variable {X:Cx} {o e f:Expr} {apos cpos:Pos} {td ty tx:TE}
end
section
variable {X:Cx} {pins:List (Addr × Obj)} {σ:St} {H:Hp} {s:Shared} {a:Addr} {kvs:List (Key × V)} {A:Around} {E:Value->Shared->Prop}
end
section
variable {X:Cx} {pins:List (Addr × Obj)} {σ:St} {H:Hp} {s:Shared} {a:Addr} {y:V} {u:Value} {A:Around} {E:Value->Shared->Prop}
end
section
variable {X:Cx}
end
section
variable {κ:Type} [DecidableEq κ]
end
section
variable {X:Cx} {o i e value:Expr} {pos pos' apos cpos:Pos} {td ty tv ta:TE}
end
section
variable {X:Cx} {e:Expr} {te:TE} {pos:Pos}
end
section
variable {X:Cx}
variable {o e f:Expr} {to te tf:TE} {apos cpos:Pos}
end
section
variable {X:Cx} {e:Expr} {te:TE} {apos cpos:Pos}
end
section
variable {X:Cx}
end
section
variable {X:Cx} {pins:List (Addr × Obj)} {σ:St} {H:Hp} {s:Shared} {a:Addr} {y v:V} {u r:Value} {A:Around} {E:Value->Shared->Prop}
end
section
variable {X:Cx} {o e f:Expr} {apos cpos:Pos} {td ty tx:TE}
theorem Inv.frozen {pins:List (Addr × Obj)} {σ:St} {H:Hp} {s:Shared} {a:Addr} {kvs:List (Key × V)} (I:Inv X pins σ H s) (e:H a=some (.dK kvs)):∃ ob,Inv X pins σ (upd H a (.frz ob (.dK kvs))) s:=by
 obtain ⟨z,hd,vs,rel,dd⟩:=tP I.hok e;obtain ⟨ob,es,ep,hq,r⟩:=id dd;refine ⟨ob,?_⟩;exact qi (h':=s.heap) (t':=s.toks) I (by rw [e]; exact True.intro) ⟨rfl,fun _ _=>rfl⟩ ⟨ob,hq⟩ ⟨hq,so z hd rel dd⟩
end
section
variable {X:Cx} {o:Expr} {to:TE} {apos cpos:Pos}
end
section
variable {X:Cx}
end
section
variable {K:Frag} {g:TG} {tc:TT} {te:TE} {σc:St} {D:Addr} {Q:VK} {H:Hp} {td ty:TE}
end
section
variable {K:Frag} {J:It} {g:TG} {tc:TT} {te:TE} {σc:St} {D:Addr} {Q:VK} {H:Hp}
theorem kf {α:Type} (xs:List α) (keep:α -> Bool) (R:α -> V->Hp->Prop) (hfree:H D=none) (hn:xs.length<=100000) (hgo:∀ i H1,i < xs.length->Same H H1->J.go i H1) (hst:∀ H1,Same H H1->J.stop xs.length H1)
  (hy:∀ i H1 v H2,i < xs.length->J.yld i H1 v H2->Same H1 H2)
  (mono:∀ x v H1 H2 acc,H1 D=some (.lst acc)->(∀ b o,b≠D->H1 b=some o->H2 b=some o)->R x v H1->R x v H2)
  (hs:∀ i x v H1 H2 (out:VK) (non:Hp->Prop),xs[i]? = some x->Same H H1->J.yld i H1 v H2->(∀ v H6,keep x=true->Same H2 H6->R x v H6->out v H6)->(∀ H5,keep x=false->Same H2 H5->non H5) ->
   g v σc H2 fun σ4 H4=>tc σ4 H4 fun b H5=>if b=true then te σ4 H5 out else non H5)
  (hq:∀ H' vs,Same H H'->H' D=some (.lst vs)->Paired (fun x v=>R x v H') (xs.filter keep) vs->Q (.ref D) H'):compW J g tc te σc D Q H:=by
 refine ⟨fun i m acc H2=>m=xs.length - i/\i<=xs.length/\Paired (fun x v=>R x v H2) ((xs.take i).filter keep) acc/\Same H H2/\H2 D=some (.lst acc),⟨xs.length,by simp,Nat.zero_le _,.nil,ae hfree _,upd_same⟩,?_⟩;rintro i m acc H2 ⟨rfl,hi,pr,sm,hD⟩;have len:acc.length<=i:=by
  have a:=pr.length;have b:=List.length_filter_le keep (xs.take i);rw [List.length_take] at b;omega
 by_cases hlt:i < xs.length
 ·refine .inr ⟨hgo i H2 hlt sm,fun x H3 y=>?_⟩;have s3:=hy i H2 x H3 hlt y;have ht:xs.take (i+1)=xs.take i++[xs[i]]:=by rw [List.take_add_one,List.getElem?_eq_getElem hlt]; rfl
  have hD3:=s3 _ _ hD;refine hs i xs[i] x _ _ _ _ (List.getElem?_eq_getElem hlt) sm y (fun v H6 k s6 r=>?_) fun H5 k s5=>?_
  ·refine ⟨s6 _ _ hD3,Nat.lt_of_le_of_lt len (sizeBig (by omega)),xs.length - (i+1),by omega,rfl,hlt,?_,?_,upd_same⟩
   ·have m1:∀ x v,R x v H6->R x v (upd H6 D (.lst (acc++[v]))):=fun x v r=>mono x v H6 _ acc (s6 _ _ hD3) (fun b o nb q=>by rw [au nb]; exact q) r
    rw [ht,List.filter_append];have f1:[xs[i]].filter keep=[xs[i]]:=by simp [k]
    rw [f1];have lift:∀ {l:List α} {vs:List V},Paired (fun x v=>R x v H2) l vs->Paired (fun x v'=>R x v' (upd H6 D (.lst (acc++[v])))) l vs:=by
     intro l vs pp
     induction pp with
     | nil=>exact .nil
     | cons r _ ih=>exact .cons (mono _ _ H2 _ acc hD (fun b o nb q=>by rw [au nb]; exact s6 _ _ (s3 _ _ q)) r) ih
    have app:∀ {l:List α} {vs:List V} {x:α} {v':V} {F:α -> V->Prop},Paired F l vs->F x v'->Paired F (l++[x]) (vs++[v']):=by
     intro l vs x v' F pp r
     induction pp with
     | nil=>exact .cons r .nil
     | cons r' _ ih=>exact .cons r' ih
    exact app (lift pr) (m1 _ _ r)
   ·exact aL (sm.trans (s3.trans s6)) hfree
  ·refine ⟨xs.length - (i+1),by omega,rfl,hlt,?_,sm.trans (s3.trans s5),s5 _ _ hD3⟩;rw [ht,List.filter_append];have f1:[xs[i]].filter keep=[]:=by simp [k]
   rw [f1,List.append_nil];have lift:∀ {l:List α} {vs:List V},Paired (fun x v=>R x v H2) l vs->Paired (fun x v'=>R x v' H5) l vs:=by
    intro l vs pp
    induction pp with
    | nil=>exact .nil
    | cons r _ ih=>exact .cons (mono _ _ H2 _ acc hD (fun b o _ q=>s5 _ _ (s3 _ _ q)) r) ih
   exact lift pr
 ·have e:i=xs.length:=by omega
  subst e;rw [List.take_length] at pr;exact .inl ⟨hst H2 sm,hq H2 acc sm hD pr⟩
end
section
variable {X:Cx} {e:Expr} {te:TE} {pos:Pos}
theorem iQ (xs:List V) (n:Nat) (h:n<=xs.length):cutV xs none (some (n:Int))=xs.take n:=by
 unfold cutV;have e1:HT.sIx xs.length 0 none=0:=by simp [HT.sIx]
 have e2:HT.sIx xs.length xs.length (some (n:Int))=n:=by
  simp only [HT.sIx];rw [if_neg (by omega)];omega
 rw [e1,e2];simp
theorem iF (xs:List V) (n:Nat) (h:n<=xs.length):cutV xs (some (n:Int)) none=xs.drop n:=by
 unfold cutV;have e1:HT.sIx xs.length 0 (some (n:Int))=n:=by
  simp only [HT.sIx];rw [if_neg (by omega)];omega
 have e2:HT.sIx xs.length xs.length none=xs.length:=by simp [HT.sIx]
 rw [e1,e2];rw [List.take_of_length_le (by rw [List.length_drop]; omega)]
end
section
variable {X:Cx} {o e:Expr} {to te:TE} {apos cpos:Pos}
noncomputable def cPopAt (to te:TE):TE:=fun σ H Q=>to σ H fun x H1=>match x with
 | .ref l=>(∃ xs,H1 l=some (.lst xs))/\te σ H1 fun y H2=>match y with
  | .int i=>∃ (xs:List V) (k:Nat) (v:V),i=(k:Int)/\H2 l=some (.lst xs)/\xs.length<=100000/\xs[k]? = some v/\Q v (upd H2 l (.lst (xs.eraseIdx k)))
  | _=>False
 | _=>False
theorem kL (ho:PE X o to) (he:PE X e te) (hbase:attributeBase o "pop" X.env (eval o X.env)=eval o X.env:=by rfl)
  (hfew:((backTo cpos (starEach [e] X.env)).all (fun x=>!x.1) && (backToKw cpos (keywordEach [] X.env)).all (fun x=>x.1.isSome) && decide ([e].length+([]:List Keyword).length+(if ([]:List Keyword).isEmpty then 0 else 1) < 30))=true:=by rfl)
  (hline:(apos.endLine == cpos.line)=true:=by rfl) (hs:starEach [e] X.env=(false,eval e X.env)::starEach [] X.env:=by rfl) (hplain:(backTo cpos (starEach [] X.env)).any (·.1)=false:=by rfl):
  PE X (.Call (.Attribute o "pop" apos) [e] [] cpos) (cPopAt to te):=
 (lX PySem.F.plainAttrs_list PySem.F.slot_list_pop PySem.F.type_list_pop n9 ho.mono (aa he.mono ad hs) hbase hfew hline hs hplain).imp fun σ H Q q=>⟨_,q,fun x H1 z=>by
  split at z
  ·rename_i l;obtain ⟨⟨xs,h⟩,z⟩:=z;refine ⟨.inl ⟨rfl,_,SqL.of h⟩,_,z,fun y H2 z2=>?_⟩;split at z2
   ·obtain ⟨xs2,k,v,rfl,h2,h3,h4,z3⟩:=z2;have hk:k < xs2.length:=(List.getElem?_eq_some_iff.mp h4).1;exact ⟨l,xs2,k,k,v,rfl,rfl,h2,by omega,by omega,by unfold seqIndex?; simp; omega,h4,z3⟩
   ·exact z2.elim
  ·exact z.elim⟩
theorem oy {σ:St} {H:Hp} {Q:VK}:cPopAt to te σ H Q=to σ H fun x H1=>match x with
 | .ref l=>(∃ xs,H1 l=some (.lst xs))/\te σ H1 fun y H2=>match y with
  | .int i=>∃ (xs:List V) (k:Nat) (v:V),i=(k:Int)/\H2 l=some (.lst xs)/\xs.length<=100000/\xs[k]? = some v/\Q v (upd H2 l (.lst (xs.eraseIdx k)))
  | _=>False
 | _=>False:=rfl
end
end L2
namespace L2
open PySem PySem.Spec PyProof.Rows PySem.W
def Xt (K:Frag) (mg:Str->Option Value) (x:Str):Prop:=mg x=some (.ref (xA K x))/\typeIn K (.ref (xA K x))=some (.type "type")/\mroIn K (xA K x) (.type "BaseException")=some true
theorem Xn.t {K:Frag} {mg:Str->Option Value} {x:Str} (n:Xn K mg x):Xt K mg x:=⟨n.1,n.2.ty,n.2.mb⟩
theorem Xt.kit {K:Frag} {mg:Str->Option Value} {x y:Str} {b:Bool} (m:Xm K x y b) (n:Xt K mg y):kitOne K (.ref (xA K x)) (.ref (xA K y))=some b:=by
 obtain ⟨_,ty,mb⟩:=n;have known:(clsIn K (xA K y)).isSome=true:=by
  cases e:clsIn K (xA K y) with
  | some _=>rfl
  | none=>unfold mroIn at mb; rw [e] at mb; cases mb
 unfold kitOne;split
 ·rename_i q;cases b with
  | true=>rfl
  | false=>exact absurd (Value.ref.inj (eq_of_beq q)) (m.2 rfl)
 ·unfold kitCls;dsimp only;rw [if_pos (by rw [known,ty]; simp)];exact m.1
end L2
namespace L2
open PySem PySem.Spec PyProof.Rows
section
variable {prog:Program} {w:World} {A:Around} {s:Shared} {E:Value->Shared->Prop}
end
theorem ObjOk.there {P:Program} {w:World} {H:Hp} {h:Heap} {a:Addr} {o:HO} (x:ObjOk P w H h a o):∃ ob,h.get? a=some ob:=by
 induction o with
 | lst xs=>obtain ⟨_,_,_,_,e⟩:=x; exact ⟨_,e⟩
 | tup xs=>obtain ⟨_,_,_,_,e,_⟩:=x; exact ⟨_,e⟩
 | dK kvs=>obtain ⟨_,_,_,_,_,_,_,e,_⟩:=x; exact ⟨_,e⟩
 | dT kvs=>obtain ⟨_,_,_,_,_,_,_,e,_⟩:=x; exact ⟨_,e⟩
 | set S n=>obtain ⟨_,_,_,_,e,_⟩:=x; exact ⟨_,e⟩
 | ins C dx fs=>obtain ⟨_,_,_,e,_⟩:=x; exact ⟨_,e⟩
 | own y=>exact x
 | xd fs=>obtain ⟨_,⟨_,_,_,e,_⟩,_⟩:=x; exact ⟨_,e⟩
 | rng lo hi=>obtain ⟨_,_,_,e⟩:=x; exact ⟨_,e⟩
 | frz ob u ih=>obtain ⟨e,_⟩:=x; exact ⟨_,e⟩
 | tbl ps=>obtain ⟨_,e,_⟩:=x; exact ⟨_,e⟩
 | met f y=>exact ⟨_,x⟩
 | ext φ=>obtain ⟨_,e,_⟩:=x; exact e
section
variable {X:Cx} {pins:List (Addr × Obj)} {σ:St} {H:Hp} {s:Shared}
end
theorem aE {key:V->Nat}:∀ {xs:List V} {vs:List Value},Vals xs vs->Paired (fun (p:Int × Value) x=>p.1=key x/\RelV x p.2) ((xs.map fun x=>(key x:Int)).zip vs) xs
 | _,_,.nil=>.nil
 | _,_,.cons a r=>.cons ⟨rfl,a⟩ (aE r)
structure LamAt (K:Frag) (mg:Str->Option Value) (c P:Addr):Prop where
 code:∃ od vs sl file tf flags tg inF text tt,K.lookup c=some ⟨.type "code",od,.fields vs,sl⟩/\vs[11]? = some (.ref P)/\vs.getD 11 .none=.ref P/\vs.getD 18 .none=.str file tf /\
  vs.getD 7 .none=.int flags tg/\vs.getD 9 .none=.bool inF/\vs.getD 10 .none=.int text tt
 ne:c≠P
 bm:∃ b sl,mg "__builtins__" = some (.ref b)/\b≠builtinsNs/\b≠mainGlobals/\K.lookup b=some ⟨.type "module",some builtinsNs,.plain,sl⟩
theorem LamAt.hd {K:Frag} {mg:Str->Option Value} {c P:Addr} {h:Heap} (L:LamAt K mg c P) (X:K.In h):PySem.W.CodeHd h c P:=by
 obtain ⟨od,vs,sl,file,tf,flags,tg,inF,text,tt,e1,e2,e3,e4,e5,e6,e7⟩:=L.code;exact ⟨_,vs,file,tf,flags,tg,inF,text,tt,X _ _ e1,rfl,rfl,e2,e3,e4,e5,e6,e7,L.ne⟩
section
variable {X:Cx}
end
noncomputable def isTab (o:Obj):Bool:=match o.cls,o.data with
 | .none,.fields vs=>vs.isEmpty
 | _,_=>false
noncomputable def cut (K:Frag):Frag:=K.filter fun p=>!isTab p.2
theorem cw:∀ {K:Frag} {a:Addr} {o:Obj},K.lookup a=some o->isTab o=false->(cut K).lookup a=some o
 | [],_,_,e,_=>by cases e
 | (b,x)::K,a,o,e,h=>by
  unfold cut;rw [List.lookup_cons] at e;rw [List.filter_cons];cases hb:a == b with
  | true=>
   rw [hb] at e;cases e;rw [if_pos (by simp [h]),List.lookup_cons,hb]
  | false=>
   rw [hb] at e;have:=cw e h;by_cases hx:(!isTab x)=true
   ·rw [if_pos hx,List.lookup_cons,hb]; exact this
   ·rw [if_neg hx]; exact this
theorem nX {K:Frag} {n:Addr} {x:Str} {r:Option Value} (h:nsIn K n x=some r):nsIn (cut K) n x=some r:=by
 unfold nsIn at h ⊢;cases q:K.lookup n with
 | none=>rw [q] at h; cases h
 | some o=>
  rw [q] at h;obtain ⟨cl,od,da,sl⟩:=o;cases da with
  | dict es ep=>rw [cw q (by unfold isTab; cases cl <;> rfl)]; exact h
  | _=>cases h
theorem pG {K:Frag} {x:Str} {c P:Addr} (h:PySem.W.tabIn K x=some (c,P)):PySem.W.tabIn (cut K) x=some (c,P):=by
 unfold PySem.W.tabIn at h ⊢;split at h
 ·rename_i f hf;simp only [nX hf];split at h
  ·rename_i hfo;simp only [cw hfo (by unfold isTab; split <;> first | rfl | (rename_i q; cases q))];split at h
   ·rename_i c₂ hc;split at h
    ·rename_i vs _ hco;split at h
     ·rename_i P₂ hv;have hn:∀ cl od sl,isTab ⟨cl,od,.fields vs,sl⟩=false:=fun cl od sl=>by
       unfold isTab;cases cl <;> try rfl
       show vs.isEmpty=false;cases z:vs.isEmpty with
       | false=>rfl
       | true=>
        have z:vs=#[]:=by simpa using z
        rw [z] at hv;cases hv
      simp only [cw hco (hn _ _ _),hv];exact h
     ·cases h
    ·cases h
   ·cases h
  ·cases h
 ·cases h
structure LamFn (K:Frag) (mg:Str->Option Value) (x:Str) (c P:Addr):Prop where
 tb:PySem.W.tabIn K x=some (c,P)
 cd:∀ f fd oc od sl,mg x=some (.ref f)->K.lookup f=some ⟨oc,od,.func fd,sl⟩->fd.code=.ref c
 lam:LamAt K mg c P
theorem ou {K:Frag} {h:Heap} {mg:Str->Option Value} {x:Str} {c P b:Addr} {od:Option Addr} {vs:Array Value} {sl sl2:Array (Option Value)} {file:Str} {tf tg tt:Tok} {flags text:Int} {inF:Bool} (X:K.In h) (G:h.Ns mainGlobals mg)
  (tb:PySem.W.tabIn K x=some (c,P)) (e1:K.lookup c=some ⟨.type "code",od,.fields vs,sl⟩) (e2:vs[11]? = some (.ref P)) (e4:vs.getD 18 .none=.str file tf) (e5:vs.getD 7 .none=.int flags tg) (e6:vs.getD 9 .none=.bool inF) (e7:vs.getD 10 .none=.int text tt) (ne:c≠P)
  (b1:nsIn K mainGlobals "__builtins__" = some (some (.ref b))) (b2:b≠builtinsNs) (b3:b≠mainGlobals) (b4:K.lookup b=some ⟨.type "module",some builtinsNs,.plain,sl2⟩):LamFn K mg x c P where
 tb:=tb
 cd:=fun f fd oc od sl hm ho=>PySem.W.law_code X G tb hm (X _ _ ho) rfl
 lam:=⟨⟨od,vs,sl,file,tf,flags,tg,inF,text,tt,e1,e2,by
   have:vs.getD 11 .none=(vs[11]?).getD .none:=by simp [Array.getD_eq_getD_getElem?]
   rw [this,e2]; rfl,e4,e5,e6,e7⟩,ne,b,sl2,mg_of X G b1,b2,b3,b4⟩
section
variable {X:Cx}
end
structure LamOk (K:Frag) (x:Str) (c T:Addr):Prop where
 tb:PySem.W.tabIn K x=some (c,T)
 code:∃ od vs sl file tf flags tg inF text tt,K.lookup c=some ⟨.type "code",od,.fields vs,sl⟩/\vs[11]? = some (.ref T)/\vs.getD 18 .none=.str file tf/\vs.getD 7 .none=.int flags tg/\vs.getD 9 .none=.bool inF/\vs.getD 10 .none=.int text tt
 ne:c≠T
 bm:∃ b sl,nsIn K mainGlobals "__builtins__" = some (some (.ref b))/\b≠builtinsNs/\b≠mainGlobals/\K.lookup b=some ⟨.type "module",some builtinsNs,.plain,sl⟩
 tab:K.lookup T=some (PySem.W.tabObj #[])
theorem mn {o:Obj} (h:o.cls≠.none):isTab o=false:=by
 unfold isTab;split
 ·rename_i a b; exact absurd a h
 ·rfl
theorem LamOk.fn {K:Frag} {x:Str} {c T:Addr} {h:Heap} {mg:Str->Option Value} (L:LamOk K x c T) (X:(cut K).In h) (G:h.Ns mainGlobals mg):LamFn (cut K) mg x c T:=by
 obtain ⟨od,vs,sl,file,tf,flags,tg,inF,text,tt,e1,e2,e4,e5,e6,e7⟩:=L.code;obtain ⟨b,sl2,b1,b2,b3,b4⟩:=L.bm;exact ou X G (pG L.tb) (cw e1 (mn (by nofun))) e2 e4 e5 e6 e7 L.ne (nX b1) b2 b3 (cw b4 (mn (by nofun)))
section
variable {X:Cx}
end
def MethT (K:Frag) (x m qual:Str) (st:Stmt):Prop:=∃ f fd,Meth K (xA K x) m f/\Fun K m qual st f fd
def MkT (K:Frag) (x qual:Str) (st:Stmt):Prop:=∃ f fd,Mk K (xA K x) f/\Fun K "__init__" qual st f fd
def MCal (P:Program) (w:World) (K:Frag) (mg:Str->Option Value) (base:Heap) (k:Nat) (x m:Str) (ps:List Str) (sp:Sp):Prop:=
 ∃ f fd,FnOk P w K mg base CX0 k f fd ps sp/\Binds K fd ps []/\Meth K (xA K x) m f
def KCal (P:Program) (w:World) (K:Frag) (mg:Str->Option Value) (base:Heap) (k:Nat) (x:Str) (ps:List Str) (sp:Sp):Prop:=
 ∃ f fd,FnOk P w K mg base CX0 k f fd ps sp/\Binds K fd ps []/\Mk K (xA K x) f
theorem MethT.cal {P:Program} {w:World} {K:Frag} {mg:Str->Option Value} {base:Heap} {x m qual:Str} {st:Stmt} {N ps:List Str} {k:Nat} {sp:Sp} (F:MethT K x m qual st) (S:FnScope N ps (defScope st)) (len:∀ vs H Q E,sp vs H Q E->vs.length=ps.length)
  (hb:∀ (kV doc pm:Value) (an:Option Addr) (cdv ct:Value) (us:List Value),us.length=ps.length->bindArgs (fnOf m qual (defArgs st) (defBody st) (defScope st) .none kV doc pm an cdv ct) ⟨us,[]⟩=pure (ps.zip us))
  (hbody:∀ (f:Addr) (cdv:Value) (A:Around) (outer:List Env) (s:Shared) (H:Hp) (vs:List V) (Q:VK) (E:XK),Room k (A.deeper (envOfC qual (defScope st) s.heap.objs.size f cdv))->sp vs H Q E ->
   ∃ t,PSs (cxOf CX0 P w K mg base N qual (defScope st) f cdv A outer s H E).nox (defBody st) t/\t { nx:=fun _ H'=>Q .non H',rt:=Q } (start N vs) H):MCal P w K mg base (k+1) x m ps sp:=by
 obtain ⟨f,fd,M,F⟩:=F;exact ⟨f,fd,F.ok S len (hbody f),F.binds hb,M⟩
theorem MkT.cal {P:Program} {w:World} {K:Frag} {mg:Str->Option Value} {base:Heap} {x qual:Str} {st:Stmt} {N ps:List Str} {k:Nat} {sp:Sp} (F:MkT K x qual st) (S:FnScope N ps (defScope st)) (len:∀ vs H Q E,sp vs H Q E->vs.length=ps.length)
  (hb:∀ (kV doc pm:Value) (an:Option Addr) (cdv ct:Value) (us:List Value),us.length=ps.length->bindArgs (fnOf "__init__" qual (defArgs st) (defBody st) (defScope st) .none kV doc pm an cdv ct) ⟨us,[]⟩=pure (ps.zip us))
  (hbody:∀ (f:Addr) (cdv:Value) (A:Around) (outer:List Env) (s:Shared) (H:Hp) (vs:List V) (Q:VK) (E:XK),Room k (A.deeper (envOfC qual (defScope st) s.heap.objs.size f cdv))->sp vs H Q E ->
   ∃ t,PSs (cxOf CX0 P w K mg base N qual (defScope st) f cdv A outer s H E).nox (defBody st) t/\t { nx:=fun _ H'=>Q .non H',rt:=Q } (start N vs) H):KCal P w K mg base (k+1) x ps sp:=by
 obtain ⟨f,fd,M,F⟩:=F;exact ⟨f,fd,F.ok S len (hbody f),F.binds hb,M⟩
section
variable {X:Cx} {k:Nat} {x m:Str} {ps:List Str} {sp:Sp} {p pos apos:Pos} {e o:Expr} {es:List Expr} {ta:TE} {t:TA}
end
section
variable {X:Cx}
noncomputable def kMax2:List V->Hp->VK->Prop:=fun xs H Q=>match xs with
 | [.int a,.int b]=>Q (.int (if a < b then b else a)) H
 | _=>False
theorem iN (hc:X.calm=true):CallR X (.builtin "max") kMax2:=by
 intro pins s σ H xs us Q I r q;unfold kMax2 at q;split at q
 ·exact mE hc pins s σ H _ us Q I r ⟨_,_,rfl,q⟩
 ·exact q.elim
theorem pR {a b:Int} {H:Hp} {Q:VK}:kMax2 [.int a,.int b] H Q=Q (.int (if a < b then b else a)) H:=rfl
end
section
variable {X:Cx} {a b c:Expr} {ta tb tc:TE} {pos:Pos}
theorem pZ {te:TE} {σ:St} {H:Hp} {Q:Bool->Hp->Prop}:tTest te σ H Q=te σ H fun z H3=>∃ k,z=.bl k/\Q k H3:=rfl
end
section
variable {K:Frag} {α:Type} {xs:List α} {item:α -> V} {h:α -> List V} {H:Hp} {D:Addr} {σc:St} {Q:VK}
end
end L2
namespace L2
open PySem
section
variable {K:Frag} {h:Heap} {mg:Str->Option Value} {x m qual:Str} {C f:Addr} {fd:FuncData} {st:Stmt}
end
end L2
namespace L2
open PySem PySem.Spec PyProof.Rows
section
variable {X:Cx} {o e f:Expr} {to te tf:TE} {apos cpos:Pos}
end
section
variable {X:Cx} {e:Expr} {te:TE} {lo hi:Option Expr} {st:Expr} {tl th ts:TO} {p2 pos:Pos}
end
def Rise (xs:Array Nat):Prop:=∀ a b,a < b->∀ (hb:b < xs.size) (ha:a < xs.size),xs[a] < xs[b]
theorem i5 {xs:Array Nat} {j:Nat} (hr:Rise xs):∀ (fuel lo hi:Nat),hi - lo<=fuel->lo<=hi->hi<=xs.size->(∀ i (h:i < xs.size),i < lo->xs[i] < j)->(∀ i (h:i < xs.size),hi<=i->j<=xs[i]) ->
  SetTable.below.go xs j fuel lo hi<=xs.size/\(∀ i (h:i < xs.size),i < SetTable.below.go xs j fuel lo hi->xs[i] < j)/\(∀ i (h:i < xs.size),SetTable.below.go xs j fuel lo hi<=i->j<=xs[i])
 | 0,lo,hi,hf,h1,h2,h3,h4=>by
  have:lo=hi:=by omega
  subst this;unfold SetTable.below.go;exact ⟨h2,h3,h4⟩
 | fuel+1,lo,hi,hf,h1,h2,h3,h4=>by
  unfold SetTable.below.go;by_cases hlt:lo < hi
  ·rw [if_pos hlt];have hm:(lo+hi) / 2 < xs.size:=by omega
   have hg:xs.getD ((lo+hi) / 2) j=xs[(lo+hi) / 2]:=by simp [hm]
   simp only [hg];by_cases hx:xs[(lo+hi) / 2] < j
   ·rw [if_pos hx];refine i5 hr fuel _ hi (by omega) (by omega) h2 (fun i h hi'=>?_) h4;rcases Nat.lt_or_ge i ((lo+hi) / 2) with z | z
    ·exact Nat.lt_trans (hr i _ z hm h) hx
    ·obtain rfl:i=(lo+hi) / 2:=by omega
     exact hx
   ·rw [if_neg hx];refine i5 hr fuel lo _ (by omega) (by omega) (by omega) h3 (fun i h hi'=>?_);rcases Nat.lt_or_ge ((lo+hi) / 2) i with z | z
    ·have:=hr _ i z h hm;omega
    ·obtain rfl:i=(lo+hi) / 2:=by omega
     omega
  ·rw [if_neg hlt];obtain rfl:lo=hi:=by omega
   exact ⟨h2,h3,h4⟩
theorem nK {xs:Array Nat} (hr:Rise xs) (j:Nat):SetTable.below xs j<=xs.size/\(∀ i (h:i < xs.size),i < SetTable.below xs j->xs[i] < j)/\(∀ i (h:i < xs.size),SetTable.below xs j<=i->j<=xs[i]):=by
 unfold SetTable.below;exact i5 hr xs.size 0 xs.size (by omega) (by omega) (Nat.le_refl _) (fun i _ h=>absurd h (by omega)) (fun i h z=>absurd h (by omega))
theorem jw {xs:Array Nat}:Rise xs ↔ xs.toList.Pairwise (· < ·):=by
 rw [List.pairwise_iff_getElem];constructor
 ·intro h a b ha hb hab;have:=h a b hab (by simpa using hb) (by simpa using ha);simpa using this
 ·intro h a b hab hb ha;have:=h a b (by simpa using ha) (by simpa using hb) hab;simpa using this
theorem kh {xs:Array Nat} (hr:Rise xs) {j:Nat} (hj:¬ xs[SetTable.below xs j]? = some j):Rise (SetTable.insertAt xs (SetTable.below xs j) j):=by
 obtain ⟨b0,b1,b2⟩:=nK hr j;generalize SetTable.below xs j=p at *;have hlt:∀ i (h:i < xs.size),p<=i->j < xs[i]:=fun i h z=>by
  have h0:=b2 i h z;rcases Nat.lt_or_ge j xs[i] with q | q
  ·exact q
  ·exfalso;have e:xs[i]=j:=by omega
   rcases Nat.lt_or_ge p i with z2 | z2
   ·have hp:p < xs.size:=by omega
    have:=hr p i z2 h hp;have:=b2 p hp (Nat.le_refl _);omega
   ·obtain rfl:i=p:=by omega
    exact hj (by rw [Array.getElem?_eq_getElem h,e])
 have hl:=jw.mp hr;rw [jw,SetTable.toList_insertAt];have A:∀ a ∈ xs.toList.take p,a < j:=fun a ha=>by
  obtain ⟨i,hi,rfl⟩:=List.mem_take_iff_getElem.mp ha;have:=b1 i (by simp at hi; omega) (by omega);simpa using this
 have B:∀ b ∈ xs.toList.drop p,j < b:=fun b hb=>by
  obtain ⟨i,hi,rfl⟩:=List.mem_drop_iff_getElem.mp hb;have:=hlt (p+i) (by simp at hi; omega) (by omega);simpa using this
 have hl':=hl;rw [<- List.take_append_drop p xs.toList,List.pairwise_append] at hl';refine List.pairwise_append.mpr ⟨hl'.1,List.pairwise_cons.mpr ⟨B,hl'.2.1⟩,fun a ha b hb=>?_⟩;rcases List.mem_cons.mp hb with rfl | hb
 ·exact A a ha
 ·exact Nat.lt_trans (A a ha) (B b hb)
def Laid0 (t:SetTable):Prop:=Rise t.place/\t.dummies=#[]
theorem mi (j:Nat):SetTable.has #[] j=false:=by
 unfold SetTable.has;simp
theorem iJ {t:SetTable} (h0:t.dummies=#[]) (f:Nat->Int) (h:Int):∀ (n:Nat) (p:SetTable.Probe) (j:Nat) (d:Option Nat),p.dummy=none->SetTable.probe.go t f h n p=some (.empty j d)->d=none/\¬ t.place[SetTable.below t.place j]? = some j
 | 0,p,j,d,_,e=>by simp [SetTable.probe.go] at e
 | n+1,p,j,d,hp,e=>by
  unfold SetTable.probe.go at e;have hs:t.slot p.j=if t.place[SetTable.below t.place p.j]? == some p.j then .live (SetTable.below t.place p.j) else .empty:=by
   unfold SetTable.slot;rw [h0,mi];rfl
  rw [hs] at e;by_cases z:t.place[SetTable.below t.place p.j]? = some p.j
  ·rw [if_pos (by rw [z]; exact beq_self_eq_true _)] at e;dsimp only at e;split at e
   ·cases e
   ·refine iJ h0 f h n _ j d ?_ e;unfold SetTable.advance;split
    ·exact hp
    ·exact hp
  ·rw [if_neg (by simpa using z)] at e;dsimp only at e;injection e with e
   injection e with e1 e2
   subst e1 e2;exact ⟨hp,z⟩
theorem lj (n:Nat):Rise (Array.range n):=fun a b h hb ha=>by simpa using h
theorem cF (t:SetTable) (n:Nat):Laid0 (t.standIn n):=⟨lj n,rfl⟩
theorem nS {t:SetTable} (h:Laid0 t) (n:Nat):Laid0 (t.orStandIn n):=by
 unfold SetTable.orStandIn;split
 ·exact h
 ·exact cF t n
theorem mz {t:SetTable} (L:Laid0 t) (es:Array (Int × Value)) (h:Int) (x:Value):Laid0 (layNew t es h x).2.1:=by
 unfold layNew;split
 ·rename_i slot wd e;refine nS ?_ _;unfold SetTable.freeSlot at e;split at e
  ·rename_i j d e2;obtain ⟨rfl,hj⟩:=iJ L.2 _ h _ _ j d rfl e2;cases e;refine ⟨kh L.1 hj,?_⟩;show (if SetTable.has t.dummies _ then _ else t.dummies)=#[];rw [L.2,mi];rfl
  ·cases e
 ·exact cF t _
theorem lP {mask finger moves:Nat} {led plain:Bool} {hs:Array Int} {r:SetTable × Array Nat} (h:SetTable.laid mask finger moves led plain hs=some r):Laid0 r.1:=by
 unfold SetTable.laid at h;cases q:SetTable.layClean mask hs with
 | none=>rw [q] at h; cases h
 | some ow=>
  rw [q] at h;cases h;refine ⟨?_,rfl⟩;have:(((List.range (mask+1)).filterMap fun j=>(ow.getD j none).map (j,·)).map (·.1)).Pairwise (· < ·):=by
   rw [List.pairwise_map,List.pairwise_filterMap];refine List.pairwise_lt_range.imp fun {a b} hab x hx y hy=>?_
   obtain ⟨_,_,rfl⟩:=Option.map_eq_some_iff.mp hx;obtain ⟨_,_,rfl⟩:=Option.map_eq_some_iff.mp hy;exact hab
  intro a b hab hb ha;have:=List.pairwise_iff_getElem.mp this a b (by simpa using ha) (by simpa using hb) hab;simpa using this
theorem hV {t:SetTable} (es:Array (Int × Value)) (n:Nat):Laid0 (relayAll t es n).2.1:=by
 unfold relayAll;split
 ·rename_i t' order e;have q:=lP e;dsimp only;split
  ·exact q
  ·exact cF t _
 ·exact cF t _
noncomputable def intOf:Value->Int
 | .int x _=>x
 | _=>0
def IsInts (w:World) (h:Heap) (a:Addr) (led:Bool) (ss:List Int):Prop:=
 ∃ es ep t,h.get? a=some { cls:=.type "set",dict:=none,data:=.set es ep t,slots:=#[] }/\(∀ e ∈ es.toList,∃ x u,e=(hashInt x,Value.int x u)) /\
  (es.toList.map fun e=>intOf e.2).Perm ss/\t.fits es.size=true/\t.led=led/\Laid0 t
section
variable {prog:Program} {w:World} {A:Around} {E:Value->Shared->Prop} {s:Shared}
theorem fX (x:Int) (u:Tok):Value.isInt x (Value.int x u)=true:=by simp [Value.isInt]
theorem lH {es:Array (Int × Value)} (h:∀ e ∈ es.toList,∃ x u,e=(hashInt x,Value.int x u)):ElemsOf (PySem.intKind prog w) es.toList:=fun e he=>by
 obtain ⟨x,u,rfl⟩:=h e he;exact ⟨⟨x,fX x u,rfl⟩,rfl⟩
theorem ni {es:List (Int × Value)} (h:∀ e ∈ es,∃ x u,e=(hashInt x,Value.int x u)) (x:Int):
  (es.findIdx? fun e=>(PySem.intKind prog w).is x e.2)=none ↔ x ∉ es.map fun e=>intOf e.2:=by
 rw [List.findIdx?_eq_none_iff];constructor
 ·intro q hm;obtain ⟨e,he,rfl⟩:=List.mem_map.mp hm;obtain ⟨y,u,rfl⟩:=h e he;have:=q _ he;rw [show (PySem.intKind prog w).is (intOf (hashInt y,Value.int y u).2) (hashInt y,Value.int y u).2=true from fX y u] at this;cases this
 ·intro q e he;obtain ⟨y,u,rfl⟩:=h e he;cases hb:(PySem.intKind prog w).is x (Value.int y u) with
  | false=>rfl
  | true=>
   have e2:y=x:=by
    obtain ⟨t,q⟩:=Value.isInt_shape (v:=Value.int y u) hb;injection q
   exact absurd (List.mem_map.mpr ⟨_,he,by rw [<- e2]; rfl⟩) q
noncomputable def addI (ss:List Int) (x:Int):List Int:=if x ∈ ss then ss else ss++[x]
theorem add_int {a:Addr} {led:Bool} {ss:List Int} {x:Int} {u:Tok} {Q:Bool->Shared->Prop} (hS:IsInts w s.heap a led ss) (room:ss.length+1 < scanBound)
  (h:∀ h' b,Heap.SameBut a s.heap h'->IsInts w h' a led (addI ss x)->Q b { s with heap:=h' }):
  wpAny (model prog w) A (setAddHashed a (.int x u) (hashInt x)) Q E s:=by
 obtain ⟨es,ep,t,ho,hel,hp,hf,hl,hL⟩:=hS;have hE:=lH (prog:=prog) (w:=w) hel;have hk:(PySem.intKind prog w).is x (Value.int x u)=true:=fX x u;have hsz:es.size=ss.length:=by have:=hp.length_eq; simpa using this
 have hb:es.size < scanBound:=by omega
 unfold setAddHashed setAddHashedIn;refine wpAny_holding (wpAny_bind (wpAny_setState_of ho rfl hf ?_));dsimp only;rw [byScan_of (knd:=PySem.intKind prog w) rfl hb hE,if_pos rfl];unfold setAddByScan;refine wpAny_bind (wpAny_bind (wpAny_rule (wpAny_bind (wpAny_setScan_of (knd:=PySem.intKind prog w) hk ho rfl hf hE ?_))));have hfind:=ni (prog:=prog) (w:=w) hel x;cases hr:es.toList.findIdx? (fun e=>(PySem.intKind prog w).is x e.2) with
 | some j=>
  have hin:x ∈ ss:=by
   rw [<- hp.mem_iff];apply Classical.byContradiction;intro z;rw [hfind.mpr z] at hr;cases hr
  refine wpAny_pure (wpAny_pure ?_);have:=h s.heap false (Heap.SameBut.refl a s.heap) ⟨es,ep,t,ho,hel,by unfold addI; rw [if_pos hin]; exact hp,hf,hl,hL⟩;exact this
 | none=>
  have hin:x ∉ ss:=by
   rw [<- hp.mem_iff];exact hfind.mp hr
  dsimp only;have p1:=layNew_perm t es (hashInt x) (Value.int x u);have p2:=layNew_fits t es (hashInt x) (Value.int x u);have p3:=lO t es (hashInt x) (Value.int x u);have p4:=mz hL es (hashInt x) (Value.int x u);generalize layNew t es (hashInt x) (Value.int x u)=L at p1 p2 p3 p4 ⊢;obtain ⟨es1,t1,wd,gave⟩:=L;dsimp only at p1 p2 p3 p4 ⊢;rw [Array.toList_push] at p1;have hel1:∀ e ∈ es1.toList,∃ x u,e=(hashInt x,Value.int x u):=fun e he=>by
   rcases List.mem_append.mp (p1.mem_iff.mp he) with q | q
   ·exact hel e q
   ·rw [List.mem_singleton.mp q]; exact ⟨x,u,rfl⟩
  have hp1:(es1.toList.map fun e=>intOf e.2).Perm (addI ss x):=by
   refine (p1.map _).trans ?_;unfold addI;rw [if_neg hin,List.map_append];exact hp.append_right _
  have hz1:es1.size=ss.length+1:=by
   have:=p1.length_eq;simp only [Array.length_toList,List.length_append,List.length_singleton] at this;omega
  have gw:∀ (b:Bool) (s₁:Shared) (Q':Unit->Shared->Prop),Q' () s₁ -> wpAny (model prog w) A (match b with | true=>rule "set.scan.the-table-gave-way" | false=>pure ()) Q' E s₁:=fun b s₁ Q' q=>by
   cases b
   ·exact wpAny_pure q
   ·exact wpAny_rule q
  refine wpAny_bind (gw _ _ _ ?_);split
  ·refine wpAny_bind ?_;rw [hashByValue_scannable 8 (x:=Value.int x u) rfl];refine wpAny_pure ?_;have pk:plainKind (Value.int x u)=true:=rfl;simp only [pk,↓reduceIte];obtain ⟨t2,et,f2,l2,L2'⟩:∃ t2:SetTable,t2=t1/\t2.fits es1.size=true/\t2.led=led/\Laid0 t2:=⟨_,rfl,p2,p3.1.trans hl,p4⟩;rw [<- et];refine wpAny_bind (wpAny_storeSet_of ho rfl ?_ (fits_of_scanBound (by omega)));have o1:=iu (es':=es1) (t':=t2) ho;have sb1:=Heap.SameBut.update s.heap a (Obj.putSet es1 t2);refine wpAny_ite_split (fun _=>?_) fun _=>?_
   ·have q1:=relayAll_perm t2 es1 (SetTable.grown es1.size);have q2:=relayAll_fits t2 es1 (SetTable.grown es1.size);have q3:=jx t2 es1 (SetTable.grown es1.size);have q4:=hV (t:=t2) es1 (SetTable.grown es1.size);generalize relayAll t2 es1 (SetTable.grown es1.size)=R at q1 q2 q3 q4 ⊢;obtain ⟨es2,t3,g2⟩:=R;dsimp only at q1 q2 q3 q4 ⊢;have z2:es2.size=es1.size:=by have:=q1.length_eq; simpa using this
    refine wpAny_bind (gw _ _ _ ?_);refine wpAny_bind (wpAny_storeSet_of o1 rfl ?_ (fits_of_scanBound (by omega)));have o2:=iu (s:={ s with heap:=s.heap.update a (Obj.putSet es1 t2) }) (es':=es2) (t':=t3) o1;exact wpAny_pure (wpAny_pure (h _ _ (sb1.trans (Heap.SameBut.update _ a _)) ⟨es2,_,t3,o2,fun e he=>hel1 e (q1.mem_iff.mp he),(q1.map _).trans hp1,q2,q3.1.trans l2,q4⟩))
   ·exact wpAny_pure (wpAny_pure (h _ _ sb1 ⟨es1,_,t2,o1,hel1,hp1,f2,l2,L2'⟩))
  ·rename_i np;refine wpAny_bind (wpAny_pure ?_);simp only [↓reduceIte];obtain ⟨t2,et,f2,l2,L2'⟩:∃ t2:SetTable,t2=t1/\t2.fits es1.size=true/\t2.led=led/\Laid0 t2:=⟨_,rfl,p2,p3.1.trans hl,p4⟩;rw [<- et];refine wpAny_bind (wpAny_storeSet_of ho rfl ?_ (fits_of_scanBound (by omega)));have o1:=iu (es':=es1) (t':=t2) ho;have sb1:=Heap.SameBut.update s.heap a (Obj.putSet es1 t2);refine wpAny_ite_split (fun _=>?_) fun _=>?_
   ·have q1:=relayAll_perm t2 es1 (SetTable.grown es1.size);have q2:=relayAll_fits t2 es1 (SetTable.grown es1.size);have q3:=jx t2 es1 (SetTable.grown es1.size);have q4:=hV (t:=t2) es1 (SetTable.grown es1.size);generalize relayAll t2 es1 (SetTable.grown es1.size)=R at q1 q2 q3 q4 ⊢;obtain ⟨es2,t3,g2⟩:=R;dsimp only at q1 q2 q3 q4 ⊢;have z2:es2.size=es1.size:=by have:=q1.length_eq; simpa using this
    refine wpAny_bind (gw _ _ _ ?_);refine wpAny_bind (wpAny_storeSet_of o1 rfl ?_ (fits_of_scanBound (by omega)));have o2:=iu (s:={ s with heap:=s.heap.update a (Obj.putSet es1 t2) }) (es':=es2) (t':=t3) o1;exact wpAny_pure (wpAny_pure (h _ _ (sb1.trans (Heap.SameBut.update _ a _)) ⟨es2,_,t3,o2,fun e he=>hel1 e (q1.mem_iff.mp he),(q1.map _).trans hp1,q2,q3.1.trans l2,q4⟩))
   ·exact wpAny_pure (wpAny_pure (h _ _ sb1 ⟨es1,_,t2,o1,hel1,hp1,f2,l2,L2'⟩))
end
theorem IsInts.at {w:World} {h h':Heap} {a:Addr} {led:Bool} {ss:List Int} (x:IsInts w h a led ss) (k:∀ o,h.get? a=some o->h'.get? a=some o):IsInts w h' a led ss:=by
 obtain ⟨es,ep,t,ho,r⟩:=x;exact ⟨es,ep,t,k _ ho,r⟩
section
variable {prog:Program} {w:World} {A:Around} {R:Result->Shared->Prop} {I:Addr} {fp wr:List Addr} {G:Array GenState->Array GenState->Prop} {n:Nat} {P:Nat->Value->Prop} {St:Nat->Shared->Prop}
end
section
variable {prog:Program} {w:World} {A:Around} {E:Value->Shared->Prop} {s:Shared}
section
variable {it a:Addr} {es:Array (Int × Value)} {n ep i:Nat} {t:SetTable}
end
end
section
variable {prog:Program} {w:World} {A:Around} {E:Value->Shared->Prop} {s:Shared}
end
section
variable {X:Cx}
end
section
variable {prog:Program} {w:World} {A:Around} {E:Value->Shared->Prop} {s:Shared}
theorem iT {it:Addr} {Q:Value->Shared->Prop} (ty:s.TypeIs (.ref it) "tuple_iterator")
  (q:wpAny (model prog w) A.in1 (Builtin.«tuple_iterator.__next__» ⟨[.ref it],[]⟩) (fun fin s'=>∃ v,fin=.done (.ret v)/\Q v s') E s):wpAny (model prog w) A (Builtin.SmallTypes.nextOf (.ref it)) Q E s:=by
 have sl:=F.slot_tuple_iterator_next;unfold Builtin.SmallTypes.nextOf;refine wpAny_bind (wpAny_callSpecial?_slot (name:=Str.ofString "__next__") ty sl (wpAny_call_entry sl ty F.entry_tuple_iterator_next (wpAny_mono q (fun fin s' ⟨v,e,z⟩=>⟨v,e,wpAny_pure z⟩) fun _ _ z=>z) (F.args_tuple_iterator_next_1 _)))
theorem ij {it t:Addr} {i:Nat} {ys:Array Value} {x:Value} {Q:Value->Shared->Prop} (st:s.heap.IsTupleIter it t i) (tu:s.heap.IsTuple t ys) (e:ys[i]? = some x)
  (q:∀ h',h'.IsTupleIter it t (i+1)->Heap.SameBut it s.heap h'->Q x { s with heap:=h' }):wpAny (model prog w) A (Builtin.SmallTypes.nextOf (.ref it)) Q E s:=by
 apply iT st.typeIs;obtain ⟨ob,g1,g2,g3⟩:=st;obtain ⟨tb,k1,_,kn,k2⟩:=tu;change wpAny _ _ (field (.ref it) 0>>=_) _ _ _;apply wpAny_bind;apply wpAny_field g1 g3 (x:=.ref t) rfl;have nn:(Value.ref t == Value.none)=false:=rfl;simp only [nn,Bool.false_eq_true,if_false];apply wpAny_bind;apply wpAny_field g1 g3 (x:=.int i 0) rfl;apply wpAny_bind;apply wpAny_seqItems k1 k2;simp only [Int.toNat_natCast,e];apply wpAny_bind;apply wpAny_setField g1 g3 (by simp);apply wpAny_pure;refine ⟨x,rfl,q _ ⟨_,Heap.get?_update_self _ g1 (Obj.isFreed_of_fields (Obj.data_mapFields g3 _)),(Obj.cls_mapFields ..).trans g2,?_⟩ (Heap.SameBut.update ..)⟩;rw [Obj.data_mapFields g3];simp [rawInt]
theorem iK {it t:Addr} {i:Nat} {ys:Array Value} {Q:Value->Shared->Prop} (hh:A.handled=none) (st:s.heap.IsTupleIter it t i) (tu:s.heap.IsTuple t ys) (e:ys[i]? = none)
  (q:∀ h' e,Heap.ExtBut it s.heap h'->(∃ o,h'.get? e=some o/\o.cls=.type "StopIteration")->E (.ref e) { s with heap:=h' }):wpAny (model prog w) A (Builtin.SmallTypes.nextOf (.ref it)) Q E s:=by
 apply iT st.typeIs;obtain ⟨ob,g1,g2,g3⟩:=st;obtain ⟨tb,k1,_,kn,k2⟩:=tu;change wpAny _ _ (field (.ref it) 0>>=_) _ _ _;apply wpAny_bind;apply wpAny_field g1 g3 (x:=.ref t) rfl;have nn:(Value.ref t == Value.none)=false:=rfl;simp only [nn,Bool.false_eq_true,if_false];apply wpAny_bind;apply wpAny_field g1 g3 (x:=.int i 0) rfl;apply wpAny_bind;apply wpAny_seqItems k1 k2;simp only [Int.toNat_natCast,e];apply wpAny_bind;apply wpAny_rule;apply wpAny_bind;apply wpAny_setField g1 g3 (by simp);have hh1:A.in1.handled=none:=hh;exact lz hh1 fun h2 x k c=>q h2 x (fun b o nb z=>k b o ((Heap.SameBut.update s.heap it _).extBut b o nb z)) c
end
def TGo (H:Hp) (a:Addr) (i:Nat):Prop:=∃ xs v,H a=some (.tup xs)/\xs[i]? = some v
def TAt (H:Hp) (a:Addr) (i:Nat) (v:V):Prop:=∀ xs,H a=some (.tup xs)->xs[i]? = some v
def TEnd (H:Hp) (a:Addr) (i:Nat):Prop:=∃ xs,H a=some (.tup xs)/\xs.length<=i
theorem dW {h:Heap} {a it:Addr} {i:Nat} (st:h.IsTupleIter it a i):∃ o,h.get? it=some o/\(∀ v,o.data≠.cell v)/\o.cls≠.type "list" /\ o.cls≠.type "zip" /\ o.cls≠.type "tuple" := by
 obtain ⟨o,e,c,d⟩:=st;refine ⟨o,e,(fun v z=>by rw [d] at z; cases z),?_⟩;rw [c];decide
section
variable {X:Cx} {pins:List (Addr × Obj)} {σ:St} {H:Hp} {s:Shared} {A:Around}
theorem lK (I:Inv X pins σ H s) {a it:Addr} {i:Nat} (st:s.heap.IsTupleIter it a i) (go:TGo H a i):
  ∃ (f:List Addr) (Sa Sb:Heap->Prop) (P:Value->Prop),Nx X.prog X.w A it f Sa Sb P/\Sa s.heap/\(∀ c ∈ f,c=it\/((∃ o,s.heap.get? c=some o/\o.cls=.type "tuple")/\H c≠none))/\(∀ h,Sb h->h.IsTupleIter it a (i+1))/\∀ v,P v->∃ x,RelV x v/\TAt H a i x:=by
 obtain ⟨xs,v,hq,hv⟩:=go;obtain ⟨its,rv,pl,hz⟩:=I.tuple (SqT.of hq);obtain ⟨u,hu,ru⟩:=rv.get hv;have pl:s.heap.IsTuple a its.toArray:=pl;obtain ⟨o,e,c,n,hd⟩:=id pl;have hne:a≠it:=by
  rintro rfl;obtain ⟨o',e',c',_⟩:=st;rw [e] at e';cases e';rw [c] at c';exact absurd c' (by decide)
 refine ⟨[it,a],fun h=>h.IsTupleIter it a i/\h.IsTuple a its.toArray,fun h=>h.IsTupleIter it a (i+1)/\h.IsTuple a its.toArray,fun z=>z=u,⟨?_,?_,?_⟩,⟨st,pl⟩,?_,fun h q=>q.1,?_⟩
 ·rintro h h' ⟨⟨o1,s1,r1⟩,⟨o2,s2,r2⟩⟩ k;exact ⟨⟨o1,k it (by simp) o1 s1,r1⟩,⟨o2,k a (by simp) o2 s2,r2⟩⟩
 ·rintro h h' ⟨⟨o1,s1,r1⟩,⟨o2,s2,r2⟩⟩ k;exact ⟨⟨o1,k it (by simp) o1 s1,r1⟩,⟨o2,k a (by simp) o2 s2,r2⟩⟩
 ·intro s Q E st hQ;exact ij st.1 st.2 (x:=u) (by simpa using hu) fun h' st' sb=>hQ _ h' s.toks rfl ⟨st',st.2.extBut sb.extBut hne⟩ sb
 ·intro c' hc;rcases (by simpa using hc:c'=it\/c'=a) with z | z
  ·exact .inl z
  ·subst z;exact .inr ⟨⟨o,e,c⟩,by rw [hq]; simp⟩
 ·rintro z rfl;exact ⟨v,ru,fun ys hy=>by rw [hq] at hy; cases hy; exact hv⟩
theorem oS (I:Inv X pins σ H s) (hh:A.handled=none) {a it:Addr} {i:Nat} (st:s.heap.IsTupleIter it a i) (en:TEnd H a i):
  ∃ (f:List Addr) (Sa:Heap->Prop),Nd X.prog X.w A it f Sa/\Sa s.heap/\(∀ c ∈ f,c=it\/((∃ o,s.heap.get? c=some o/\o.cls=.type "tuple")/\H c≠none)):=by
 obtain ⟨xs,hq,hv⟩:=en;obtain ⟨its,rv,pl,hz⟩:=I.tuple (SqT.of hq);have pl:s.heap.IsTuple a its.toArray:=pl;obtain ⟨o,e,c,n,hd⟩:=id pl;have hl:=rv.length;refine ⟨[it,a],fun h=>h.IsTupleIter it a i/\h.IsTuple a its.toArray,⟨?_,?_⟩,⟨st,pl⟩,?_⟩
 ·rintro h h' ⟨⟨o1,s1,r1⟩,⟨o2,s2,r2⟩⟩ k;exact ⟨⟨o1,k it (by simp) o1 s1,r1⟩,⟨o2,k a (by simp) o2 s2,r2⟩⟩
 ·intro s Q E st hE;exact iK hh st.1 st.2 (by simp; omega) hE
 ·intro c' hc;rcases (by simpa using hc:c'=it\/c'=a) with z | z
  ·exact .inl z
  ·subst z;exact .inr ⟨⟨o,e,c⟩,by rw [hq]; simp⟩
end
noncomputable def ItzT (a b:Addr):It:=⟨fun i H=>TGo H a i/\TGo H b i,fun i H v H'=>∃ T x y,v=.ref T/\H T=none/\H'=upd H T (.tup [x,y])/\TAt H a i x/\TAt H b i y,
 fun i H=>TEnd H a i\/(TGo H a i/\TEnd H b i)⟩
def ZipTt (z TI TO i1 i2:Addr) (S1 S2:Addr) (i:Nat) (h:Heap):Prop:=∃ a b,IsZip h z TI TO .none/\IsPair h TI (.ref i1) (.ref i2)/\IsPair h TO a b/\h.IsTupleIter i1 S1 i/\h.IsTupleIter i2 S2 i
theorem gy {H:Hp} {h:Heap} {f:List Addr} {z TI TO i1 i2:Addr} {S2:Addr} {k:Nat} (hTn:H TO=none) (hz:IsZip h z TI TO .none) (h2:h.IsTupleIter i2 S2 k) (n1:i1≠z) (n2:i1≠TO) (n3:i1≠i2)
  (m:∀ c ∈ f,c=i1\/((∃ o,h.get? c=some o/\o.cls=.type "tuple")/\H c≠none)):∀ c ∈ f,c≠z/\c≠TO/\c≠i2:=fun c hc=>by
 rcases m c hc with e | ⟨⟨o,e,c1⟩,hn⟩
 ·subst e;exact ⟨n1,n2,n3⟩
 ·refine ⟨?_,?_,?_⟩
  ·rintro rfl;rw [hz] at e;cases e;exact absurd (show Value.type "zip" = Value.type "tuple" from c1) (by decide)
  ·rintro rfl;exact hn hTn
  ·rintro rfl;obtain ⟨o',e',_,_,_,q⟩:=dW h2;rw [e] at e';cases e';exact q c1
theorem mM {P:Program} {w:World} {K:Frag} {elts:List Expr} {kk:Nat} {pos:Pos} {z TI TO i1 i2:Addr} (D:ZAp z TI TO i1 i2) (S1 S2:Addr):
  Turn P w K (.Tuple elts kk pos) (ItzT S1 S2) [z,TI,TO,i1,i2] z (ZipTt z TI TO i1 i2 S1 S2) where
 mem:=by simp
 obj:=fun i h st b hb=>by
  obtain ⟨a,c,hz,hTI,hTO,h1,h2⟩:=st;simp only [List.mem_cons,List.not_mem_nil,or_false] at hb;rcases hb with rfl | rfl | rfl | rfl | rfl
  ·exact ⟨_,hz,fun v q=>by have q':Data.fields _=Data.cell v:=q; cases q'⟩
  ·exact ⟨_,hTI,fun v q=>by have q':Data.seq _ _=Data.cell v:=q; cases q'⟩
  ·exact ⟨_,hTO,fun v q=>by have q':Data.seq _ _=Data.cell v:=q; cases q'⟩
  ·obtain ⟨o,e,q,_⟩:=(dW h1);exact ⟨o,e,q⟩
  ·obtain ⟨o,e,q,_⟩:=(dW h2);exact ⟨o,e,q⟩
 keep:=fun i h h' st k=>by
  obtain ⟨a,c,hz,hTI,hTO,h1,h2⟩:=st;exact ⟨a,c,k z (by simp) _ hz,k TI (by simp) _ hTI,k TO (by simp) _ hTO,h1.at fun o e=>k i1 (by simp) o e,h2.at fun o e=>k i2 (by simp) o e⟩
 item:=by
  intro X hP hw hK hc i pins s σ H E I hf st hg;subst hP hw hK;obtain ⟨a,b,hz,hTI,hTO,h1,h2⟩:=st;have hTn:H TO=none:=(hf TO (by simp)).1;obtain ⟨g1,g2⟩:=hg;obtain ⟨f1,Sa,Sb,P1,n1,a1,m1,b1,r1⟩:=lK (A:=X.A.in1) I h1 g1;obtain ⟨f2,Sc,Sd,P2,n2,a2,m2,b2,r2⟩:=lK (A:=X.A.in1) I h2 g2;refine tokQ I.tk (eI hz rfl (eT D n1 n2 (gy hTn hz h2 D.i1z D.TOi1.symm D.i12 m1) (gy hTn hz h1 D.i2z D.TOi2.symm D.i12.symm m2) hz hTI hTO a1 a2 fun x y h' tk p1 p2 z1 z2 q1 q2 z3 z4 kp (htk:0 < tk)=>?_));obtain ⟨vx,rx,ax⟩:=r1 x p1;obtain ⟨vy,ry,ay⟩:=r2 y p2;have fresh:H s.heap.objs.size=none:=I.hok.fresh (Nat.le_refl _);have off:∀ {c o},s.heap.get? c=some o->c≠s.heap.objs.size:=fun e=>Nat.ne_of_lt (Heap.lt_size e)
  refine ⟨_,rfl,wpAny_letOwnedTupleGo_zip z1 fun h'' z1' sb=>?_⟩
  replace sb:Heap.SameBut z h' h'':=sb
  have hT:IsPair h'' s.heap.objs.size x y:=sb.extBut _ _ (Ne.symm (off hz)) z3;have I1:Inv X pins σ (upd H s.heap.objs.size (.tup [vx,vy])) { s with heap:=h'',toks:=tk }:=by
   refine I.turnedLaid (its:=[z,TO,i1,i2]) (fun c o hc' e=>?_) (fun c hc'=>hf c ?_) (Nat.le_refl _) ?_
   ·simp only [List.mem_cons,List.not_mem_nil,or_false,not_or] at hc';exact sb.extBut _ _ hc'.1 (kp c o hc'.1 hc'.2.1 hc'.2.2.1 hc'.2.2.2 e)
   ·simp only [List.mem_cons,List.not_mem_nil,or_false] at hc' ⊢;rcases hc' with q | q | q | q
    ·exact .inl q
    ·exact .inr (.inr (.inl q))
    ·exact .inr (.inr (.inr (.inl q)))
    ·exact .inr (.inr (.inr (.inr q)))
   ·exact ⟨by show 2<=sizeLine; decide,[x,y],.cons rx (.cons ry .nil),_,hT,rfl,_,rfl⟩
  refine ⟨.ref s.heap.objs.size,_,I1,rfl,⟨_,vx,vy,rfl,fresh,rfl,ax,ay⟩,⟨x,y,z1',?_,?_,?_,?_⟩,fun c hc'=>?_⟩
  ·exact sb.extBut _ _ D.TIz (kp _ _ D.TIz D.TITO D.TIi1 D.TIi2 hTI)
  ·exact sb.extBut _ _ D.TOz z2
  ·exact (b1 h' q1).at fun o e=>sb.extBut _ _ D.i1z e
  ·exact (b2 h' q2).at fun o e=>sb.extBut _ _ D.i2z e
  ·have ne:c≠s.heap.objs.size:=by
    simp only [List.mem_cons,List.not_mem_nil,or_false] at hc';rcases hc' with rfl | rfl | rfl | rfl | rfl
    ·exact off hz
    ·exact off hTI
    ·exact off hTO
    ·obtain ⟨o,e,_⟩:=(dW h1);exact off e
    ·obtain ⟨o,e,_⟩:=(dW h2);exact off e
   rw [au ne];exact (hf c hc').1
 done:=by
  intro X hP hw hK hc i pins s σ H E I hf st hg;subst hP hw hK;obtain ⟨a,b,hz,hTI,hTO,h1,h2⟩:=st;have hTn:H TO=none:=(hf TO (by simp)).1;have hh:X.A.in1.handled=none:=I.ok.hd hc;have fin:∀ (h':Heap) (tk:Nat),0 < tk->(∀ c o,c≠z->c≠TO->c≠i1->c≠i2->s.heap.get? c=some o->h'.get? c=some o)->Inv X pins σ H { s with heap:=h',toks:=tk }:=fun h' tk htk kp=>
   I.turnedL (its:=[z,TO,i1,i2]) (fun c o hc' e=>by
    simp only [List.mem_cons,List.not_mem_nil,or_false,not_or] at hc';exact kp c o hc'.1 hc'.2.1 hc'.2.2.1 hc'.2.2.2 e) (fun c hc'=>hf c (by
    simp only [List.mem_cons,List.not_mem_nil,or_false] at hc' ⊢;rcases hc' with q | q | q | q
    ·exact .inl q
    ·exact .inr (.inr (.inl q))
    ·exact .inr (.inr (.inr (.inl q)))
    ·exact .inr (.inr (.inr (.inr q)))))
  rcases hg with e1 | ⟨g1,e2⟩
  ·obtain ⟨f1,Sa,n1,a1,m1⟩:=oS I hh h1 e1;exact tokQ I.tk (cg hz rfl (fN D n1 (gy hTn hz h2 D.i1z D.TOi1.symm D.i12 m1) hz hTI a1 fun h' e tk kp he=>⟨e,rfl,he,fun htk=>⟨rfl,fin h' tk htk kp⟩⟩))
  ·obtain ⟨f1,Sa,Sb,P1,n1,a1,m1,b1,r1⟩:=lK (A:=X.A.in1) I h1 g1;obtain ⟨f2,Sc,n2,a2,m2⟩:=oS I hh h2 e2;exact tokQ I.tk (cg hz rfl (fK D n1 n2 (gy hTn hz h2 D.i1z D.TOi1.symm D.i12 m1) (gy hTn hz h1 D.i2z D.TOi2.symm D.i12.symm m2) hz hTI hTO a1 a2 fun h' e tk kp he=>⟨e,rfl,he,fun htk=>⟨rfl,fin h' tk htk kp⟩⟩))
 self:=fun _ _ _ _ _ st h=>by
  obtain ⟨a,b,hz,_⟩:=st;exact wpAny_pyIter_zip hz h
noncomputable abbrev tupIt0 (a:Addr):Obj:={ cls:=.type "tuple_iterator",data:=.fields #[.ref a,.int 0 0] }
noncomputable abbrev yH1 (h:Heap) (a:Addr):Heap:=h.push (tupIt0 a)
noncomputable abbrev yH2 (h:Heap) (a b:Addr):Heap:=(yH1 h a).push (tupIt0 b)
noncomputable abbrev yH3 (h:Heap) (a b:Addr):Heap:=(yH2 h a b).push { cls:=.type "tuple",data:=.seq #[.ref h.objs.size,.ref (yH1 h a).objs.size] }
noncomputable abbrev yH4 (h:Heap) (a b:Addr):Heap:=(yH3 h a b).push { cls:=.type "tuple",data:=.seq #[.none,.none] }
noncomputable abbrev yH5 (h:Heap) (a b:Addr):Heap:=(yH4 h a b).push { cls:=.type "zip",data:=.fields #[.none,.bool false,.bool false,.ref (yH2 h a b).objs.size,.ref (yH3 h a b).objs.size] }
theorem iP (a b:Addr):
  Meets (Builtin.«zip.__new__» ⟨[.type "zip",.ref a,.ref b],[]⟩) (fun _ R s=>(∃ x,s.heap.IsTuple a x)/\(∃ x,s.heap.IsTuple b x) /\
   R (.ok (.ret (.ref (yH4 s.heap a b).objs.size))) { s with heap:=yH5 s.heap a b }):=
 .of_wp fun prog w A R s h=>by
  obtain ⟨hp,g,d,tk,os⟩:=s; obtain ⟨⟨x1,hl1⟩,⟨x2,hl2⟩,h⟩:=h;have hsub:=sub_zip;have hL1:Heap.IsTuple (Shared.heap ⟨hp,g,d,tk,os⟩) a x1:=hl1;have hL2:Heap.IsTuple (Shared.heap ⟨hp.push (tupIt0 a),g,d,tk,os⟩) b x2:=hl2.push _
  wp_walk using wpAny_pyIter_tuple hL1,wpAny_pyIter_tuple hL2
  exact ⟨_,rfl,h⟩
section
variable {prog:Program} {w:World} {A:Around} {E:Value->Shared->Prop} {s:Shared}
theorem mW {a b:Addr} {Q:Value->Shared->Prop} (hl1:∃ x,s.heap.IsTuple a x) (hl2:∃ x,s.heap.IsTuple b x)
  (h:∀ h',ZipTt (s.heap.objs.size+4) (s.heap.objs.size+2) (s.heap.objs.size+3) s.heap.objs.size (s.heap.objs.size+1) a b 0 h'->(∀ c o,s.heap.get? c=some o->h'.get? c=some o)->Q (.ref (s.heap.objs.size+4)) { s with heap:=h' }):
  wpAny (model prog w) A (call (.type "zip") [.ref a,.ref b]) Q E s:=by
 refine callType_new F.called_zip (by decide) (F.typeCall_zip_2 _ _) (F.newCall_zip_2 _ _) (fun obj=>F.args_object_init_3 obj _ _) F.entry_zip_new
  (iP a b) ⟨hl1,hl2,?_⟩
 have z1:(yH1 s.heap a).objs.size=s.heap.objs.size+1:=Heap.size_push ..;have z2:(yH2 s.heap a b).objs.size=s.heap.objs.size+2:=by rw [Heap.size_push,z1]
 have z3:(yH3 s.heap a b).objs.size=s.heap.objs.size+3:=by rw [Heap.size_push,z2]
 have z4:(yH4 s.heap a b).objs.size=s.heap.objs.size+4:=by rw [Heap.size_push,z3]
 have g5:(yH5 s.heap a b).get? (yH4 s.heap a b).objs.size=some _:=Heap.get?_push_size _ rfl;have g4:(yH5 s.heap a b).get? (yH3 s.heap a b).objs.size=some _:=Heap.get?_push_of_some _ (Heap.get?_push_size _ rfl);have g3:(yH5 s.heap a b).get? (yH2 s.heap a b).objs.size=some _:=Heap.get?_push_of_some _ (Heap.get?_push_of_some _ (Heap.get?_push_size _ rfl));have g2:(yH5 s.heap a b).get? (yH1 s.heap a).objs.size=some (tupIt0 b):=Heap.get?_push_of_some _ (Heap.get?_push_of_some _ (Heap.get?_push_of_some _ (Heap.get?_push_size _ rfl)));have g1:(yH5 s.heap a b).get? s.heap.objs.size=some (tupIt0 a):=Heap.get?_push_of_some _ (Heap.get?_push_of_some _ (Heap.get?_push_of_some _ (Heap.get?_push_of_some _ (Heap.get?_push_size _ rfl))));show _/\_;rw [z2,z3,z4] at g5;rw [z1,z2] at g3;rw [z3] at g4;rw [z1] at g2;rw [z4];exact ⟨⟨_,g5,rfl⟩,h _ ⟨_,_,g5,g3,g4,⟨_,g1,rfl,rfl⟩,⟨_,g2,rfl,rfl⟩⟩ fun c o x=>
  Heap.get?_push_of_some _ (Heap.get?_push_of_some _ (Heap.get?_push_of_some _ (Heap.get?_push_of_some _ (Heap.get?_push_of_some _ x))))⟩
end
section
variable {X:Cx}
noncomputable def cZipA (K:Frag) (ta tb:TE):TI:=fun σ H R=>ta σ H fun x H1=>tb σ H1 fun y H2=>(srcK K H2 x fun S1=>srcK K H2 y fun S2=>R (Itz K S1 S2) H2)\/∃ a b,x=.ref a/\y=.ref b/\(∃ xs,H2 a=some (.tup xs))/\(∃ xs,H2 b=some (.tup xs))/\R (ItzT a b) H2
theorem pP {a b:Expr} {ta tb:TE} {elts:List Expr} {kk:Nat} {tpos p pos:Pos} {K:Frag} (hK:X.K=K) (hg:Gl X "zip") (hm:X.mg "zip" = none) (ha:PE X a ta) (hb:PE X b tb) (hs:starEach [a,b] X.env=[(false,eval a X.env),(false,eval b X.env)]:=by rfl) (hs2:starEach [b] X.env=[(false,eval b X.env)]:=by rfl):
  PI X (.Tuple elts kk tpos) (.Call (.Name "zip" p) [a,b] [] pos) (cZipA K ta tb):=by
 subst hK;intro pins s σ H R I h;have hA:PA X [a,b] _:=aa ha.mono (aa hb.mono ad hs2) (by rw [hs,hs2]);refine Call_ (fW I hg hm oW (PyProof.Rows.callWith_type1 (thn (hA pos pins s σ H (fun vs H2=>∃ x y,vs=[x,y]/\((srcK X.K H2 x fun S1=>srcK X.K H2 y fun S2=>R (Itz X.K S1 S2) H2)\/∃ a b,x=.ref a/\y=.ref b/\(∃ xs,H2 a=some (.tup xs))/\(∃ xs,H2 b=some (.tup xs))/\R (ItzT a b) H2)) I ⟨_,h,fun x H1 z=>⟨_,z,fun y H2 z=>⟨x,y,rfl,z⟩⟩⟩) fun us s1 ⟨vs,H1,I1,r1,q1⟩=>?_) (by rw [hs,hs2]) (by rw [hs2]; rfl)));obtain ⟨v1,v2,e,q⟩:=q1;subst e;cases r1 with
 | cons r rr=>
  cases rr with
  | cons r' rr=>
   cases rr;have fp:∀ c ∈ [s1.heap.objs.size+4,s1.heap.objs.size+2,s1.heap.objs.size+3,s1.heap.objs.size,s1.heap.objs.size+1],FpOk X pins H1 c:=fun c hc=>by
    have hc':s1.heap.objs.size<=c:=by
     simp only [List.mem_cons,List.not_mem_nil,or_false] at hc;rcases hc with rfl | rfl | rfl | rfl | rfl <;> omega
    exact I1.fpOk hc' (I1.hok.fresh hc')
   rcases q with q | ⟨a1,b1,rfl,rfl,⟨xs,e1⟩,⟨ys,e2⟩,q⟩
   ·obtain ⟨S1,o1,q⟩:=mh q;obtain ⟨S2,o2,q⟩:=mh q;obtain ⟨t1,rfl,k1⟩:=jD I1 o1 r;obtain ⟨t2,rfl,k2⟩:=jD I1 o2 r';refine mX k1 k2 fun h' st kp=>?_
    have st':=st;obtain ⟨_,_,hz,_⟩:=st';exact wpAny_pyIter_zip hz ⟨_,_,_,Itz X.K S1 S2,H1,rfl,I1.kept (t':=s1.toks) kp,oI (mf _) S1 S2,st,fp,q⟩
   ·cases r;cases r';obtain ⟨_,_,p1,_⟩:=I1.tuple (SqT.of e1);obtain ⟨_,_,p2,_⟩:=I1.tuple (SqT.of e2);refine mW ⟨_,p1⟩ ⟨_,p2⟩ fun h' st kp=>?_
    have st':=st;obtain ⟨_,_,hz,_⟩:=st';exact wpAny_pyIter_zip hz ⟨_,_,_,ItzT a1 b1,H1,rfl,I1.kept (t':=s1.toks) kp,mM (mf _) a1 b1,st,fp,q⟩
theorem pH {K:Frag} {ta tb:TE} {σ:St} {H:Hp} {R:It->Hp->Prop}:cZipA K ta tb σ H R=ta σ H fun x H1=>tb σ H1 fun y H2=>(srcK K H2 x fun S1=>srcK K H2 y fun S2=>R (Itz K S1 S2) H2)\/∃ a b,x=.ref a/\y=.ref b/\(∃ xs,H2 a=some (.tup xs))/\(∃ xs,H2 b=some (.tup xs))/\R (ItzT a b) H2:=rfl
end
section
variable {K:Frag} {J:It} {g:TG} {tc:TT} {te:TE} {σc:St} {D:Addr} {Q:VK} {H:Hp}
theorem cX {α:Type} (xs:List α) (R:α -> V->Hp->Prop) (hfree:H D=none) (hn:xs.length<=100000) (hgo:∀ i H1,i < xs.length->Same H H1->J.go i H1) (hst:∀ H1,Same H H1->J.stop xs.length H1)
  (hy:∀ i H1 v H2,i < xs.length->J.yld i H1 v H2->Same H1 H2)
  (mono:∀ x v H1 H2 acc,H1 D=some (.lst acc)->(∀ b o,b≠D->H1 b=some o->H2 b=some o)->R x v H1->R x v H2)
  (hs:∀ i x v H1 H2 (out:VK) (non:Hp->Prop),xs[i]? = some x->Same H H1->(∀ b,H1 b=none->b≠D)->J.yld i H1 v H2->(∀ v H6,Same H2 H6->R x v H6->out v H6) ->
   g v σc H2 fun σ4 H4=>tc σ4 H4 fun b H5=>if b=true then te σ4 H5 out else non H5)
  (hq:∀ H' vs,Same H H'->H' D=some (.lst vs)->Paired (fun x v=>R x v H') xs vs->Q (.ref D) H'):compW J g tc te σc D Q H:=by
 refine ⟨fun i m acc H2=>m=xs.length - i/\i<=xs.length/\Paired (fun x v=>R x v H2) (xs.take i) acc/\Same H H2/\H2 D=some (.lst acc),⟨xs.length,by simp,Nat.zero_le _,.nil,ae hfree _,upd_same⟩,?_⟩;rintro i m acc H2 ⟨rfl,hi,pr,sm,hD⟩;have len:acc.length<=i:=by
  have a:=pr.length;rw [List.length_take] at a;omega
 by_cases hlt:i < xs.length
 ·refine .inr ⟨hgo i H2 hlt sm,fun x H3 y=>?_⟩;have s3:=hy i H2 x H3 hlt y;have hD3:=s3 _ _ hD;refine hs i xs[i] x _ _ _ _ (List.getElem?_eq_getElem hlt) sm (fun b hb z=>by rw [z,hD] at hb; cases hb) y fun v H6 s6 r=>?_
  refine ⟨s6 _ _ hD3,Nat.lt_of_le_of_lt len (sizeBig (by omega)),xs.length - (i+1),by omega,rfl,hlt,?_,aL (sm.trans (s3.trans s6)) hfree,upd_same⟩;rw [List.take_add_one,List.getElem?_eq_getElem hlt];have lift:∀ {l:List α} {vs:List V} {z:α} {u:V} {F G:α -> V->Prop},(∀ a b,F a b->G a b)->Paired F l vs->G z u->Paired G (l++[z]) (vs++[u]):=by
   intro l vs z u F G f pp r
   induction pp with
   | nil=>exact .cons r .nil
   | cons r' _ ih=>exact .cons (f _ _ r') ih
  exact lift (fun _ _ r'=>mono _ _ H2 _ acc hD (fun b o nb q=>by rw [au nb]; exact s6 _ _ (s3 _ _ q)) r') pr (mono _ _ H6 _ acc (s6 _ _ hD3) (fun b o nb q=>by rw [au nb]; exact q) r)
 ·have hi':i=xs.length:=by omega
  subst hi';rw [List.take_length] at pr;exact .inl ⟨hst H2 sm,hq H2 acc sm hD pr⟩
end
section
variable {X:Cx} {o e:Expr} {to te:TE} {apos cpos:Pos}
noncomputable def cExtend (to te:TE):TE:=fun σ H Q=>to σ H fun x H1=>match x with
 | .ref l=>(∃ xs,H1 l=some (.lst xs))/\te σ H1 fun y H2=>match y with
  | .ref b=>∃ xs zs,H2 l=some (.lst xs)/\H2 b=some (.lst zs)/\xs.length+zs.length<=sizeLine/\Q .non (upd H2 l (.lst (xs++zs)))
  | _=>False
 | _=>False
theorem mU (ho:PE X o to) (he:PE X e te) (hbase:attributeBase o "extend" X.env (eval o X.env)=eval o X.env:=by rfl)
  (hfew:((backTo cpos (starEach [e] X.env)).all (fun x=>!x.1) && (backToKw cpos (keywordEach [] X.env)).all (fun x=>x.1.isSome) && decide ([e].length+([]:List Keyword).length+(if ([]:List Keyword).isEmpty then 0 else 1) < 30))=true:=by rfl)
  (hline:(apos.endLine == cpos.line)=true:=by rfl) (hs:starEach [e] X.env=(false,eval e X.env)::starEach [] X.env:=by rfl) (hplain:(backTo cpos (starEach [] X.env)).any (·.1)=false:=by rfl):
  PE X (.Call (.Attribute o "extend" apos) [e] [] cpos) (cExtend to te):=
 (lX PySem.F.plainAttrs_list PySem.F.slot_list_extend PySem.F.type_list_extend mH ho.mono (aa he.mono ad hs) hbase hfew hline hs hplain).imp fun σ H Q q=>⟨_,q,fun x H1 z=>by
  split at z
  ·rename_i l;obtain ⟨⟨xs,h⟩,z⟩:=z;refine ⟨.inl ⟨rfl,_,SqL.of h⟩,_,z,fun y H2 z2=>?_⟩;split at z2
   ·obtain ⟨xs2,zs,h2,h3,h4,z3⟩:=z2;exact ⟨l,_,xs2,zs,rfl,rfl,h2,h3,h4,z3⟩
   ·exact z2.elim
  ·exact z.elim⟩
theorem mG {σ:St} {H:Hp} {Q:VK}:cExtend to te σ H Q=to σ H fun x H1=>match x with
 | .ref l=>(∃ xs,H1 l=some (.lst xs))/\te σ H1 fun y H2=>match y with
  | .ref b=>∃ xs zs,H2 l=some (.lst xs)/\H2 b=some (.lst zs)/\xs.length+zs.length<=sizeLine/\Q .non (upd H2 l (.lst (xs++zs)))
  | _=>False
 | _=>False:=rfl
end
class LenSp (sp:Sp) (n:outParam Nat):Prop where
 h:∀ vs H Q E,sp vs H Q E->vs.length=n
noncomputable def aC (f:Addr->Sp):Sp:=fun vs H Q E=>match vs with
 | .ref x::r=>f x r H Q E
 | _=>False
theorem aC.el {f:Addr->Sp} {vs:List V} {H:Hp} {Q:VK} {E:XK} (h:aC f vs H Q E):∃ x r,vs=.ref x::r/\f x r H Q E:=by
 unfold aC at h;split at h
 ·exact ⟨_,_,rfl,h⟩
 ·exact h.elim
noncomputable def bi (f:Int->Sp):Sp:=fun vs H Q E=>match vs with
 | .int x::r=>f x r H Q E
 | _=>False
theorem bi.el {f:Int->Sp} {vs:List V} {H:Hp} {Q:VK} {E:XK} (h:bi f vs H Q E):∃ x r,vs=.int x::r/\f x r H Q E:=by
 unfold bi at h;split at h
 ·exact ⟨_,_,rfl,h⟩
 ·exact h.elim
noncomputable def gA (f:Str->Sp):Sp:=fun vs H Q E=>match vs with
 | .str x::r=>f x r H Q E
 | _=>False
theorem gA.el {f:Str->Sp} {vs:List V} {H:Hp} {Q:VK} {E:XK} (h:gA f vs H Q E):∃ x r,vs=.str x::r/\f x r H Q E:=by
 unfold gA at h;split at h
 ·exact ⟨_,_,rfl,h⟩
 ·exact h.elim
noncomputable def gF (f:Bool->Sp):Sp:=fun vs H Q E=>match vs with
 | .bl x::r=>f x r H Q E
 | _=>False
theorem gF.el {f:Bool->Sp} {vs:List V} {H:Hp} {Q:VK} {E:XK} (h:gF f vs H Q E):∃ x r,vs=.bl x::r/\f x r H Q E:=by
 unfold gF at h;split at h
 ·exact ⟨_,_,rfl,h⟩
 ·exact h.elim
noncomputable def kQ (f:V->Sp):Sp:=fun vs H Q E=>match vs with
 | x::r=>f x r H Q E
 | []=>False
theorem kQ.el {f:V->Sp} {vs:List V} {H:Hp} {Q:VK} {E:XK} (h:kQ f vs H Q E):∃ x r,vs=x::r/\f x r H Q E:=by
 cases vs with
 | nil=>exact h.elim
 | cons x r=>exact ⟨x,r,rfl,h⟩
noncomputable def bd (f:Hp->VK->XK->Prop):Sp:=fun vs H Q E=>match vs with
 | []=>f H Q E
 | _::_=>False
theorem bd.el {f:Hp->VK->XK->Prop} {vs:List V} {H:Hp} {Q:VK} {E:XK} (h:bd f vs H Q E):vs=[]/\f H Q E:=by
 cases vs with
 | nil=>exact ⟨rfl,h⟩
 | cons x r=>exact h.elim
instance {f:Hp->VK->XK->Prop}:LenSp (bd f) 0:=⟨fun vs H Q E h=>by rw [(bd.el h).1]; rfl⟩
instance {f:Addr->Sp} {n:Nat} [i:∀ x,LenSp (f x) n]:LenSp (aC f) (n+1):=⟨fun vs H Q E h=>by
 obtain ⟨x,r,e,h⟩:=aC.el h;rw [e,List.length_cons,(i x).h r H Q E h]⟩
instance {f:Int->Sp} {n:Nat} [i:∀ x,LenSp (f x) n]:LenSp (bi f) (n+1):=⟨fun vs H Q E h=>by
 obtain ⟨x,r,e,h⟩:=bi.el h;rw [e,List.length_cons,(i x).h r H Q E h]⟩
instance {f:Str->Sp} {n:Nat} [i:∀ x,LenSp (f x) n]:LenSp (gA f) (n+1):=⟨fun vs H Q E h=>by
 obtain ⟨x,r,e,h⟩:=gA.el h;rw [e,List.length_cons,(i x).h r H Q E h]⟩
instance {f:Bool->Sp} {n:Nat} [i:∀ x,LenSp (f x) n]:LenSp (gF f) (n+1):=⟨fun vs H Q E h=>by
 obtain ⟨x,r,e,h⟩:=gF.el h;rw [e,List.length_cons,(i x).h r H Q E h]⟩
instance {f:V->Sp} {n:Nat} [i:∀ x,LenSp (f x) n]:LenSp (kQ f) (n+1):=⟨fun vs H Q E h=>by
 obtain ⟨x,r,e,h⟩:=kQ.el h;rw [e,List.length_cons,(i x).h r H Q E h]⟩
section
variable {X:Cx} {o:Expr} {to:TE} {apos cpos:Pos}
noncomputable def cClear (to:TE):TE:=fun σ H Q=>to σ H fun x H1=>match x with
 | .ref l=>(∃ xs,H1 l=some (.lst xs))/\Q .non (upd H1 l (.lst []))
 | _=>False
theorem oi (ho:PE X o to) (hbase:attributeBase o "clear" X.env (eval o X.env)=eval o X.env:=by rfl) (hline:(apos.endLine == cpos.line)=true:=by rfl):PE X (.Call (.Attribute o "clear" apos) [] [] cpos) (cClear to):=
 (rM PySem.F.plainAttrs_list PySem.F.slot_list_clear PySem.F.type_list_clear nL ho.mono hbase hline).imp fun σ H Q q=>⟨_,q,fun x H1 z=>by
  split at z
  ·rename_i l;obtain ⟨⟨xs,h⟩,z⟩:=z;exact ⟨.inl ⟨rfl,_,SqL.of h⟩,l,xs,rfl,rfl,h,z⟩
  ·exact z.elim⟩
theorem nH {σ:St} {H:Hp} {Q:VK}:cClear to σ H Q=to σ H fun x H1=>match x with
 | .ref l=>(∃ xs,H1 l=some (.lst xs))/\Q .non (upd H1 l (.lst []))
 | _=>False:=rfl
end
end L2
set_option maxHeartbeats 4000000
namespace L2
open PySem PySem.Spec PyProof.Rows
theorem lc {c:Scope} {x:Str} (h:Loc c x:=by first | exact Or.inl rfl | exact Or.inr rfl):Loc c x:=h
theorem Room.m {j k:Nat} {A:Around} (r:Room k A) (h:j<=k:=by first | decide | omega):Room j A:=r.mono h
end L2
namespace Law
open PySem L2 Mir
noncomputable def top (i:Nat):Stmt:=PySem.Challenge.pw_throng_k72_nets_mixed.main.body.getD i (.Pass ⟨0,0,0,0⟩)
noncomputable abbrev dF:Stmt:=top 6
theorem c8:FnScope ["net", "name", "its", "house"] ["net", "name"] (defScope dF):=⟨rfl,rfl,rfl,by decide +kernel,rfl,by decide +kernel,by decide +kernel⟩
noncomputable abbrev cQ:Stmt:=top 7
theorem jm:FnScope ["net"] ["net"] (defScope cQ):=⟨rfl,rfl,rfl,by decide +kernel,rfl,by decide +kernel,by decide +kernel⟩
noncomputable abbrev cp:Stmt:=top 8
theorem ig:FnScope ["house"] ["house"] (defScope cp):=⟨rfl,rfl,rfl,by decide +kernel,rfl,by decide +kernel,by decide +kernel⟩
noncomputable abbrev eV:Stmt:=top 10
theorem gB:FnScope ["one", "other", "names", "name"] ["one", "other", "names"] (defScope eV):=⟨rfl,rfl,rfl,by decide +kernel,rfl,by decide +kernel,by decide +kernel⟩
noncomputable abbrev b7:Stmt:=top 11
theorem fH:FnScope ["one", "other"] ["one", "other"] (defScope b7):=⟨rfl,rfl,rfl,by decide +kernel,rfl,by decide +kernel,by decide +kernel⟩
noncomputable abbrev dA:Stmt:=top 12
theorem jP:FnScope ["net"] ["net"] (defScope dA):=⟨rfl,rfl,rfl,by decide +kernel,rfl,by decide +kernel,by decide +kernel⟩
noncomputable abbrev cG:Stmt:=top 13
theorem ix:FnScope ["house"] ["house"] (defScope cG):=⟨rfl,rfl,rfl,by decide +kernel,rfl,by decide +kernel,by decide +kernel⟩
noncomputable abbrev dZ:Stmt:=top 14
theorem km:FnScope ["one", "other", "names"] ["one", "other", "names"] (defScope dZ):=⟨rfl,rfl,rfl,by decide +kernel,rfl,by decide +kernel,by decide +kernel⟩
noncomputable abbrev g8:Stmt:=top 16
theorem d7:FnScope ["_law_script", "_law_k", "_law_many", "_law_cell", "_law_mixed"] ["_law_script", "_law_k", "_law_many"] (defScope g8):=⟨rfl,rfl,rfl,by decide +kernel,rfl,by decide +kernel,by decide +kernel⟩
noncomputable abbrev bG:Stmt:=top 17
theorem aP:FnScope ["_law_script", "_law_k", "_law_count", "_law_letters", "_law_word", "_law_turn", "_law_names_here", "_law_size", "_law_place", "_law_first", "_law_signs_here"] ["_law_script", "_law_k", "_law_count"] (defScope bG):=⟨rfl,rfl,rfl,by decide +kernel,rfl,by decide +kernel,by decide +kernel⟩
noncomputable abbrev dI:Stmt:=top 18
theorem c9:FnScope ["_law_script", "_law_k", "_law_others", "_law_at"] ["_law_script", "_law_k"] (defScope dI):=⟨rfl,rfl,rfl,by decide +kernel,rfl,by decide +kernel,by decide +kernel⟩
noncomputable abbrev dY:Stmt:=top 19
theorem kz:FnScope ["_law_script", "_law_k", "_law_width"] ["_law_script", "_law_k", "_law_width"] (defScope dY):=⟨rfl,rfl,rfl,by decide +kernel,rfl,by decide +kernel,by decide +kernel⟩
noncomputable abbrev dz:Stmt:=top 20
theorem cO:FnScope ["_law_script", "_law_k", "_law_width", "_law_shift", "_law_word", "_law_signs_here", "_law_over"] ["_law_script", "_law_k", "_law_width", "_law_shift"] (defScope dz):=⟨rfl,rfl,rfl,by decide +kernel,rfl,by decide +kernel,by decide +kernel⟩
noncomputable abbrev cT:Stmt:=top 21
theorem jk:FnScope ["_law_script", "_law_k", "_law_size"] ["_law_script", "_law_k", "_law_size"] (defScope cT):=⟨rfl,rfl,rfl,by decide +kernel,rfl,by decide +kernel,by decide +kernel⟩
noncomputable abbrev dC:Stmt:=top 22
theorem cP:FnScope ["_law_script", "_law_k", "_law_size", "_law_doors", "_law_ways_here", "_law_j", "_law_signs_here"] ["_law_script", "_law_k", "_law_size", "_law_doors"] (defScope dC):=⟨rfl,rfl,rfl,by decide +kernel,rfl,by decide +kernel,by decide +kernel⟩
noncomputable abbrev bP:Stmt:=top 23
theorem bA:FnScope ["_law_script", "_law_k", "_law_layout_here", "_law_doors", "_law_shift", "_law_width", "_law_gates", "_law_j", "_law_here", "_law_many", "_law_size"] ["_law_script", "_law_k", "_law_layout_here", "_law_doors", "_law_shift"] (defScope bP):=⟨rfl,rfl,rfl,by decide +kernel,rfl,by decide +kernel,by decide +kernel⟩
noncomputable abbrev d4:Stmt:=top 24
theorem bI:FnScope ["_law_script", "_law_k", "_law_spots_here", "_law_spare", "_law_free", "_law_most", "_law_lines_here", "_law_j", "_law_one"] ["_law_script", "_law_k", "_law_spots_here", "_law_spare"] (defScope d4):=⟨rfl,rfl,rfl,by decide +kernel,rfl,by decide +kernel,by decide +kernel⟩
noncomputable abbrev d9:Stmt:=top 25
theorem bF:FnScope ["_law_script", "_law_k", "_law_most", "_law_spare", "_law_layout_here", "_law_names_here", "_law_doors", "_law_houses", "_law_spots_here", "_law_j", "_law_own"] ["_law_script", "_law_k", "_law_most", "_law_spare"] (defScope d9):=⟨rfl,rfl,rfl,by decide +kernel,rfl,by decide +kernel,by decide +kernel⟩
noncomputable abbrev dE:Stmt:=top 26
theorem iA:FnScope ["_law_row_here", "_law_pad", "_law_front"] ["_law_row_here", "_law_pad", "_law_front"] (defScope dE):=⟨rfl,rfl,rfl,by decide +kernel,rfl,by decide +kernel,by decide +kernel⟩
noncomputable abbrev cN:Stmt:=top 27
theorem aT:FnScope ["_law_net_here", "_law_size", "_law_front", "_law_layout_here", "_law_houses", "_law_name", "_law_house_here", "_law_gates", "_law_door", "_law_rules"] ["_law_net_here", "_law_size", "_law_front"] (defScope cN):=⟨rfl,rfl,rfl,by decide +kernel,rfl,by decide +kernel,by decide +kernel⟩
noncomputable abbrev b8:Stmt:=top 28
theorem fE:FnScope ["_law_rule_here", "_law_size", "_law_front"] ["_law_rule_here", "_law_size", "_law_front"] (defScope b8):=⟨rfl,rfl,rfl,by decide +kernel,rfl,by decide +kernel,by decide +kernel⟩
noncomputable abbrev cE:Stmt:=top 32
theorem cj:FnScope ["_law_net_here", "_law_houses", "_law_name", "_law_house_here"] ["_law_net_here"] (defScope cE):=⟨rfl,rfl,rfl,by decide +kernel,rfl,by decide +kernel,by decide +kernel⟩
noncomputable abbrev cR:Stmt:=top 33
theorem aJ:FnScope ["_law_script", "_law_most", "_law_spare", "_law_size", "_law_front", "_law_one", "_law_houses", "_law_j", "_law_name", "_law_house_here", "_law_doors", "_law_other"] ["_law_script", "_law_most", "_law_spare"] (defScope cR):=⟨rfl,rfl,rfl,by decide +kernel,rfl,by decide +kernel,by decide +kernel⟩
noncomputable abbrev b6:Stmt:=top 34
theorem gQ:FnScope ["_law_names_here"] ["_law_names_here"] (defScope b6):=⟨rfl,rfl,rfl,by decide +kernel,rfl,by decide +kernel,by decide +kernel⟩
noncomputable abbrev dg:Stmt:=top 35
theorem bY:FnScope ["_law_one", "_law_other", "_law_names_here", "_law_caught", "e"] ["_law_one", "_law_other", "_law_names_here"] (defScope dg):=⟨rfl,rfl,rfl,by decide +kernel,rfl,by decide +kernel,by decide +kernel⟩
noncomputable abbrev am:Stmt:=top 36
theorem aK:FnScope ["_law_script", "_law_net_here", "_law_layout_here", "_law_houses", "_law_lines_here", "_law_name", "_law_house_here", "_law_own", "_law_doors", "_law_some", "_law_left"] ["_law_script", "_law_net_here"] (defScope am):=⟨rfl,rfl,rfl,by decide +kernel,rfl,by decide +kernel,by decide +kernel⟩
noncomputable abbrev fV:Stmt:=top 37
theorem cH:FnScope ["_law_one", "_law_other", "_law_names_here", "_law_houses", "_law_k", "_law_pair"] ["_law_one", "_law_other", "_law_names_here"] (defScope fV):=⟨rfl,rfl,rfl,by decide +kernel,rfl,by decide +kernel,by decide +kernel⟩
noncomputable abbrev cf:Stmt:=top 38
theorem cr:FnScope ["_law_script", "_law_one", "_law_other", "_law_pads", "_law_own", "_law_turn", "_law_names_here", "_law_handed", "_law_due_here", "_law_found", "_law_strange", "_law_far"] ["_law_script"] (defScope cf):=⟨rfl,rfl,rfl,by decide +kernel,rfl,by decide +kernel,by decide +kernel⟩
structure Top (K:Frag) (mg:Str->Option Value):Prop where
 fP:Fn K mg "house_named" dF
 gI:Fn K mg "net_copied" cQ
 fm:Fn K mg "house_copied" cp
 h9:Fn K mg "net_mixed" eV
 dt:Fn K mg "check_changeable" b7
 ia:Fn K mg "net_doors" dA
 fO:Fn K mg "house_doors" cG
 ja:Fn K mg "mixed_by" dZ
 jL:Fn K mg "_law_by" g8
 gO:Fn K mg "_law_names" bG
 fQ:Fn K mg "_law_layout" dI
 i9:Fn K mg "_law_row" dY
 hZ:Fn K mg "_law_rule" dz
 gK:Fn K mg "_law_signs" cT
 h8:Fn K mg "_law_ways" dC
 gP:Fn K mg "_law_house" bP
 gJ:Fn K mg "_law_lines" d4
 i8:Fn K mg "_law_net" d9
 fR:Fn K mg "_law_padded" dE
 gM:Fn K mg "_law_wider" cN
 du:Fn K mg "_law_rule_padded" b8
 fU:Fn K mg "_law_copied" cE
 gH:Fn K mg "_law_twins" cR
 eK:Fn K mg "_law_stranger" b6
 fo:Fn K mg "_law_refusal" dg
 fS:Fn K mg "_law_unlike" am
 i7:Fn K mg "_law_due" fV
 rg:Fn K mg "law" cf
 cD:mg "list" = none
 ri:mg "zip" = none
 cq:mg "len" = none
 bD:mg "range" = none
 rh:mg "sum" = none
 pf:mg "max" = none
 bS:mg "isinstance" = none
 gL:mg "ValueError" = none
 gj:mg "reversed" = none
 mq:mg "tuple" = none
 bJ:Xn K mg "NoHouse"
 bx:Xn K mg "Unlike"
 dQ:Xn K mg "ThrongError"
 gN:Xn K mg "NoDoor"
 cY:Xv K "NoHouse"
 aG:Xm K "NoHouse" "ThrongError" true
 bf:Xm K "NoHouse" "NoDoor" false
 be:Xm K "NoHouse" "Unlike" false
 ba:Xm K "NoHouse" "NoHouse" true
 dX:Xv K "Unlike"
 aN:Xm K "Unlike" "ThrongError" true
 br:Xm K "Unlike" "NoDoor" false
 bq:Xm K "Unlike" "Unlike" true
 bh:Xm K "Unlike" "NoHouse" false
local macro_rules | `(tactic| walk_at "rd")=>`(tactic| try simp only [sI,tY,tI,qj,qy,qL,ub,tH,pU,pW,sJ,tq,sW,qS,qm,qb,rZ,tD,rF,rN,ql,qz,qk,nj,sw,tT,mJ,qM,sL,sK,Ty.isBl,Ty.isInt,Ty.isStr,Ty.isLst,Ty.isTup,qf,tR,se,tU,rD,sC,tO,sP,oj,sQ,qI,pM,tE,rX,sX,qG,rL,qF,sU,rV,sk,qX,qd,rO,pN,qJ,pX,qu,pF,compσ,L2.start,tJ,rB,CDiv,CPow,List.map_cons,List.map_nil,List.length_cons,List.length_nil,List.replicate_succ,List.replicate_zero,List.cons_append,List.nil_append,List.getElem?_cons_zero,List.getElem?_cons_succ,List.set_cons_zero,List.set_cons_succ,Option.getD_some,Option.getD_none,Nat.reduceAdd,Nat.reduceSub,Bool.false_bne,Bool.true_bne,Bool.false_xor,Bool.true_xor,Bool.not_eq_true',decide_eq_true_eq,decide_eq_false_iff_not,Bool.not_true,Bool.not_false,if_true,if_false,true_and,and_true,Int.reduceLT,Int.reduceLE,Nat.reduceLeDiff,Bool.false_eq_true,qD,rE,sZ,oE,oH,sd,lB,oC,tw,oD,pd,tW,sV,qE,pL,sx,oq,rK,oy,tK,pR,pZ,pH,mG,nH,ite_not,de,Bool.true_eq_false,Int.zero_add,reduceIte,ite_true,ite_false])
section
variable {P:Program} {w:World} {K:Frag} {mg:Str->Option Value} {base:Heap}
set_option hygiene false in
local macro_rules | `(tactic| walk_at "el")=>`(tactic| (repeat first | (replace h:=aC.el h; obtain ⟨_,_,rfl,h⟩:=h) | (replace h:=bi.el h; obtain ⟨_,_,rfl,h⟩:=h) | (replace h:=gA.el h; obtain ⟨_,_,rfl,h⟩:=h) | (replace h:=gF.el h; obtain ⟨_,_,rfl,h⟩:=h) | (replace h:=kQ.el h; obtain ⟨_,_,rfl,h⟩:=h) | (replace h:=bd.el h; obtain ⟨rfl,h⟩:=h)))
noncomputable abbrev Fld:=List Nat × Nat
def FldAt (H:Hp) (x:Fld) (v:V):Prop:=∃ t,v=.ref t/\H t=some (.tup [tx x.1,.int x.2])
def Lay (H:Hp) (p:Addr) (ls:List Fld):Prop:=∃ vs,H p=some (.lst vs)/\Paired (FldAt H) ls vs
theorem bR {H H':Hp} (k:∀ t vs,H t=some (.tup vs)->H' t=some (.tup vs)) {ls:List Fld} {vs:List V} (h:Paired (FldAt H) ls vs):Paired (FldAt H') ls vs:=
 L2.Paired.mapP h fun _ _ ⟨t,e,q⟩=>⟨t,e,k _ _ q⟩
theorem Lay.same {H H':Hp} {p:Addr} {ls:List Fld} (h:Lay H p ls) (s:Same H H'):Lay H' p ls:=by
 obtain ⟨vs,e,pr⟩:=h;exact ⟨vs,s _ _ e,bR (fun t us q=>s _ _ q) pr⟩
noncomputable def fldD (x:Fld):D:=.t [.f (tx x.1),.f (.int x.2)]
theorem aE {α β:Type} {F:α -> β -> Prop} {l:List α} {m:List β} (h:Paired F l m):(l.zip m).map (·.2)=m/\∀ x ∈ l.zip m,F x.1 x.2:=by
 induction h with
 | nil=>exact ⟨rfl,fun x hx=>by cases hx⟩
 | cons r _ ih=>exact ⟨by rw [List.zip_cons_cons,List.map_cons,ih.1],fun x hx=>by
   rw [List.zip_cons_cons] at hx;rcases List.mem_cons.mp hx with rfl | hx
   ·exact r
   ·exact ih.2 x hx⟩
theorem bZ {α β:Type}:∀ {l:List α} {m:List β},l.length=m.length->(l.zip m).map (·.1)=l
 | [],_,_=>rfl
 | x::l,[],h=>by cases h
 | x::l,y::m,h=>by rw [List.zip_cons_cons,List.map_cons,bZ (by simpa using h)]
theorem jV (n:List Nat):(st n).length=n.length:=by simp [Str.length]
noncomputable abbrev Rule:=List Nat × List Nat × List Nat
def RuleAt (H:Hp) (x:Rule) (v:V):Prop:=∃ t,v=.ref t/\H t=some (.tup [tx x.1,tx x.2.1,tx x.2.2])
def Rules (H:Hp) (p:Addr) (rs:List Rule):Prop:=∃ vs,H p=some (.lst vs)/\Paired (RuleAt H) rs vs
theorem bz {H H':Hp} (k:∀ t vs,H t=some (.tup vs)->H' t=some (.tup vs)) {rs:List Rule} {vs:List V} (h:Paired (RuleAt H) rs vs):Paired (RuleAt H') rs vs:=
 L2.Paired.mapP h fun _ _ ⟨t,e,q⟩=>⟨t,e,k _ _ q⟩
theorem bO {H:Hp} {g:Addr} {xs ys:List V} (h:H g=some (.lst xs)):∀ t vs,H t=some (.tup vs)->upd H g (.lst ys) t=some (.tup vs):=fun t vs q=>by
 rw [au (fun e=>by rw [e,h] at q; cases q)];exact q
theorem Rules.same {H H':Hp} {p:Addr} {rs:List Rule} (h:Rules H p rs) (s:Same H H'):Rules H' p rs:=by
 obtain ⟨vs,e,pr⟩:=h;exact ⟨vs,s _ _ e,bz (fun t us q=>s _ _ q) pr⟩
noncomputable def ruleD (x:Rule):D:=.t [.f (tx x.1),.f (tx x.2.1),.f (tx x.2.2)]
noncomputable def dropT:List Nat:=[100,114,111,112]
noncomputable def passT:List Nat:=[112,97,115,115]
noncomputable abbrev Way:=List Nat × List Nat
def WayAt (H:Hp) (x:Way) (v:V):Prop:=∃ t,v=.ref t/\H t=some (.tup [tx x.1,tx x.2])
def Ways (H:Hp) (p:Addr) (ws:List Way):Prop:=∃ vs,H p=some (.lst vs)/\Paired (WayAt H) ws vs
theorem aM {H H':Hp} (k:∀ t vs,H t=some (.tup vs)->H' t=some (.tup vs)) {ws:List Way} {vs:List V} (h:Paired (WayAt H) ws vs):Paired (WayAt H') ws vs:=
 L2.Paired.mapP h fun _ _ ⟨t,e,q⟩=>⟨t,e,k _ _ q⟩
theorem Ways.same {H H':Hp} {p:Addr} {ws:List Way} (h:Ways H p ws) (s:Same H H'):Ways H' p ws:=by
 obtain ⟨vs,e,pr⟩:=h;exact ⟨vs,s _ _ e,aM (fun t us q=>s _ _ q) pr⟩
theorem aw {α β:Type} {F:α -> β -> Prop} {l:List α} {m:List β} {x:α} {y:β} (h:Paired F l m) (r:F x y):Paired F (l++[x]) (m++[y]):=by
 induction h with
 | nil=>exact .cons r .nil
 | cons r' _ ih=>exact .cons r' ih
noncomputable def wayD (x:Way):D:=.t [.f (tx x.1),.f (tx x.2)]
noncomputable abbrev Gate:=List Nat × List Rule
noncomputable abbrev House:=List Gate × List Way
def GateAt (H:Hp) (x:Gate) (v:V):Prop:=∃ t p,v=.ref t/\H t=some (.tup [tx x.1,.ref p])/\Rules H p x.2
def Gates (H:Hp) (p:Addr) (gs:List Gate):Prop:=∃ vs,H p=some (.lst vs)/\Paired (GateAt H) gs vs
def HouseAt (H:Hp) (t:Addr) (h:House):Prop:=∃ g w,H t=some (.tup [.ref g,.ref w])/\Gates H g h.1/\Ways H w h.2
theorem Gates.same {H H':Hp} {p:Addr} {gs:List Gate} (h:Gates H p gs) (s:Same H H'):Gates H' p gs:=by
 obtain ⟨vs,e,pr⟩:=h;exact ⟨vs,s _ _ e,L2.Paired.mapP pr fun _ _ ⟨t,q,e,h1,h2⟩=>⟨t,q,e,s _ _ h1,h2.same s⟩⟩
theorem HouseAt.same {H H':Hp} {t:Addr} {h:House} (x:HouseAt H t h) (s:Same H H'):HouseAt H' t h:=by
 obtain ⟨g,w,e,h1,h2⟩:=x;exact ⟨g,w,s _ _ e,h1.same s,h2.same s⟩
noncomputable def abc:List Nat:=(List.range 26).map (97+·)
theorem ot {i:Nat} (h:i < 26):abc[i]? = some (97+i):=by
 unfold abc;rw [List.getElem?_map,List.getElem?_range h];rfl
def Low (l:List Nat):Prop:=∀ c ∈ l,97<=c/\c<=122
theorem jr {n:Nat} (f:Nat->List Nat) (h:∀ i j,i < n->j < n->f i=f j->i=j):((List.range n).map f).Nodup:=by
 refine List.pairwise_map.mpr (List.Pairwise.imp_of_mem ?_ List.nodup_range);intro a b ha hb hab e;exact hab (h a b (List.mem_range.mp ha) (List.mem_range.mp hb) e)
theorem cz {α β:Type} (f:α -> β) (l:List α):(l.flatMap fun x=>[f x])=l.map f:=by
 induction l with
 | nil=>rfl
 | cons x l ih=>rw [List.flatMap_cons,ih]; rfl
noncomputable abbrev nV (n:Nat):V:=V.int (n:Int)
theorem pV {α:Type} {l:List α} (h:1<=l.length) (N:Nat):∃ c,c ∈ l/\atI l ((N:Int) % (l.length:Int))=some c:=by
 have hj:N % l.length < l.length:=Nat.mod_lt _ (by omega);refine ⟨l[N % l.length],List.getElem_mem hj,?_⟩;rw [show ((N:Int) % (l.length:Int))=((N % l.length:Nat):Int) by omega];exact bw (List.getElem?_eq_getElem hj)
theorem lu (n:List Nat) (l:List (List Nat)):inV (tx n) (l.map tx)=decide (n ∈ l):=by
 unfold inV
 induction l with
 | nil=>simp
 | cons d l ih=>
  rw [List.map_cons,List.any_cons,ih];simp only [eqV,List.mem_cons];have stj:st n=st d ↔ n=d:=⟨fun h=>by simpa using congrArg (fun x:Str=>x.cps.toList) h,fun h=>by rw [h]⟩;by_cases h:n=d
  ·subst h; simp
  ·have h2:¬ d=n:=fun z=>h z.symm
   simp [h,h2]
theorem io (l:List (List Nat)):(l.map tx).all flatV=true:=by
 rw [List.all_eq_true];intro v hv;obtain ⟨c,_,rfl⟩:=List.mem_map.mp hv;rfl
theorem di {α β:Type} {F:α -> V->Prop} {P:β -> Prop} {g:β -> V} (h:∀ a v,F a v->∃ b,P b/\v=g b):∀ {l:List α} {vs:List V},Paired F l vs->∃ bs:List β,vs=bs.map g/\bs.length=l.length/\∀ b ∈ bs,P b
 | _,_,.nil=>⟨[],rfl,rfl,fun b hb=>by simp at hb⟩
 | _,_,.cons r p=>by
  obtain ⟨b,h1,rfl⟩:=h _ _ r;obtain ⟨bs,rfl,h3,h4⟩:=di h p;refine ⟨b::bs,rfl,by simp [h3],fun c hc=>?_⟩;rcases List.mem_cons.mp hc with rfl | hc
  ·exact h1
  ·exact h4 c hc
theorem gg {α:Type} {l:List α} {i:Nat} (h:i < l.length):∃ c,c ∈ l/\atI l (i:Int)=some c:=⟨l[i],List.getElem_mem h,bw (List.getElem?_eq_getElem h)⟩
theorem oO {cs:List Nat} {B:Nat} {vs:List V} (e:vs=cs.map nV) (h:∀ c ∈ cs,c<=B) {i:Nat} (hi:i < vs.length):∃ c,c<=B/\atI vs (i:Int)=some (nV c):=by
 subst e;obtain ⟨v,hv,ev⟩:=gg hi;obtain ⟨c,hc,rfl⟩:=List.mem_map.mp hv;exact ⟨c,h c hc,ev⟩
theorem dL {α β:Type} {F:β -> V->Prop} {P:β -> Prop}:∀ {l:List α} {vs:List V},Paired (fun _ v=>∃ b,P b/\F b v) l vs->∃ bs:List β,Paired F bs vs/\bs.length=l.length/\∀ b ∈ bs,P b
 | _,_,.nil=>⟨[],.nil,rfl,fun b hb=>by simp at hb⟩
 | _,_,.cons ⟨b,h1,h2⟩ p=>by
  obtain ⟨bs,h3,h4,h5⟩:=dL p;refine ⟨b::bs,.cons h2 h3,by simp [h4],fun c hc=>?_⟩;rcases List.mem_cons.mp hc with rfl | hc
  ·exact h1
  ·exact h5 c hc
def GateB (gl:Addr) (F:Addr->Prop) (H:Hp) (x:Gate) (v:V):Prop:=∃ t r,v=.ref t/\(r≠gl/\F r)/\H t=some (.tup [tx x.1,.ref r])/\Rules H r x.2
theorem lf {gl:Addr} {F:Addr->Prop} {H H':Hp} (s:Same H H') {gs:List Gate} {vs:List V} (p:Paired (GateB gl F H) gs vs):Paired (GateB gl F H') gs vs:=
 L2.Paired.mapP p fun _ _ ⟨t,r,e,n,h1,h2⟩=>⟨t,r,e,n,s _ _ h1,h2.same s⟩
theorem jG {gl r:Addr} {H:Hp} {us us':List V} {rs:List Rule} (h:H gl=some (.lst us)) (n:r≠gl) (hr:Rules H r rs):Rules (upd H gl (.lst us')) r rs:=by
 obtain ⟨vs,e,pr⟩:=hr;refine ⟨vs,?_,bz (bO h) pr⟩;rw [au n];exact e
theorem mZ {gl:Addr} {F:Addr->Prop} {H:Hp} {us us':List V} (h:H gl=some (.lst us)) {gs:List Gate} {vs:List V} (p:Paired (GateB gl F H) gs vs):Paired (GateB gl F (upd H gl (.lst us'))) gs vs:=
 L2.Paired.mapP p fun _ _ ⟨t,r,e,n,h1,h2⟩=>⟨t,r,e,n,bO h _ _ h1,jG h n.1 h2⟩
def GateN (N:Addr->Prop) (H:Hp) (x:Gate) (v:V):Prop:=∃ t r,v=.ref t/\N r/\H t=some (.tup [tx x.1,.ref r])/\Rules H r x.2
structure HouseN (F:Addr->Prop) (H:Hp) (q g w:Addr) (hs:House):Prop where
 tup:H q=some (.tup [.ref g,.ref w])
 ne:g≠w
 gates:∃ vs,H g=some (.lst vs)/\Paired (GateN (fun r=>r≠g/\r≠w/\F r) H) hs.1 vs
 ways:Ways H w hs.2
theorem HouseN.at {F:Addr->Prop} {H:Hp} {q g w:Addr} {hs:House} (h:HouseN F H q g w hs):HouseAt H q hs:=by
 obtain ⟨vs,e,p⟩:=h.gates;exact ⟨g,w,h.tup,⟨vs,e,L2.Paired.mapP p fun _ _ ⟨t,r,e,_,h1,h2⟩=>⟨t,r,e,h1,h2⟩⟩,h.ways⟩
theorem HouseN.same {F:Addr->Prop} {H H':Hp} {q g w:Addr} {hs:House} (h:HouseN F H q g w hs) (s:Same H H'):HouseN F H' q g w hs:=by
 obtain ⟨vs,e,p⟩:=h.gates;exact ⟨s _ _ h.tup,h.ne,⟨vs,s _ _ e,L2.Paired.mapP p fun _ _ ⟨t,r,e,n,h1,h2⟩=>⟨t,r,e,n,s _ _ h1,h2.same s⟩⟩,h.ways.same s⟩
noncomputable abbrev Named:=List Nat × House
def NamedAt (H:Hp) (x:Named) (v:V):Prop:=∃ t q,v=.ref t/\H t=some (.tup [tx x.1,.ref q])/\HouseAt H q x.2
def Houses (H:Hp) (p:Addr) (hs:List Named):Prop:=∃ vs,H p=some (.lst vs)/\Paired (NamedAt H) hs vs
theorem Houses.same {H H':Hp} {p:Addr} {hs:List Named} (h:Houses H p hs) (s:Same H H'):Houses H' p hs:=by
 obtain ⟨vs,e,pr⟩:=h;exact ⟨vs,s _ _ e,L2.Paired.mapP pr fun _ _ ⟨t,q,e,h1,h2⟩=>⟨t,q,e,s _ _ h1,h2.same s⟩⟩
theorem d0 {α β:Type} {F:α -> β -> Prop}:∀ {l l':List α} {m m':List β},Paired F l m->Paired F l' m'->Paired F (l++l') (m++m')
 | _,_,_,_,.nil,q=>q
 | _,_,_,_,.cons r p,q=>.cons r (d0 p q)
theorem bN {α β γ:Type} {F:β -> γ -> Prop} {f:α -> β}:∀ {l:List α} {vs:List γ},Paired (fun x v=>F (f x) v) l vs->Paired F (l.map f) vs
 | _,_,.nil=>.nil
 | _,_,.cons r p=>.cons r (bN p)
noncomputable abbrev Line:=Way × Way
def LineAt (H:Hp) (x:Line) (v:V):Prop:=∃ t u1 u2,v=.ref t/\H t=some (.tup [u1,u2])/\WayAt H x.1 u1/\WayAt H x.2 u2
def Lines (H:Hp) (p:Addr) (ls:List Line):Prop:=∃ vs,H p=some (.lst vs)/\Paired (LineAt H) ls vs
theorem cu {H H':Hp} (k:∀ t vs,H t=some (.tup vs)->H' t=some (.tup vs)) {x:Line} {v:V} (h:LineAt H x v):LineAt H' x v:=by
 obtain ⟨t,u1,u2,e,h1,⟨a,ea,ha⟩,⟨b,eb,hb⟩⟩:=h;exact ⟨t,u1,u2,e,k _ _ h1,⟨a,ea,k _ _ ha⟩,⟨b,eb,k _ _ hb⟩⟩
theorem Lines.same {H H':Hp} {p:Addr} {ls:List Line} (h:Lines H p ls) (s:Same H H'):Lines H' p ls:=by
 obtain ⟨vs,e,pr⟩:=h;exact ⟨vs,s _ _ e,L2.Paired.mapP pr fun _ _ z=>cu (fun t us q=>s _ _ q) z⟩
noncomputable def endsOf (ls:List Line):List Way:=ls.flatMap fun x=>[x.1,x.2]
theorem ee {α β:Type} {F:α -> β -> Prop}:∀ {l:List α} {m:List β} (i:Nat),Paired F l m->Paired F (l.eraseIdx i) (m.eraseIdx i)
 | _,_,_,.nil=>.nil
 | _,_,0,.cons r p=>p
 | _,_,i+1,.cons r p=>.cons r (ee i p)
noncomputable abbrev Net:=List Fld × List Named × List Line
def NetAt (H:Hp) (t:Addr) (n:Net):Prop:=∃ a b c,H t=some (.tup [.ref a,.ref b,.ref c])/\Lay H a n.1/\Houses H b n.2.1/\Lines H c n.2.2
theorem NetAt.same {H H':Hp} {t:Addr} {n:Net} (h:NetAt H t n) (s:Same H H'):NetAt H' t n:=by
 obtain ⟨a,b,c,e,h1,h2,h3⟩:=h;exact ⟨a,b,c,s _ _ e,h1.same s,h2.same s,h3.same s⟩
noncomputable def houseOf (hs:List Named) (n:List Nat):Option House:=(hs.find? fun x=>decide (x.1=n)).map (·.2)
noncomputable def dj (K:Frag):Sp:=aC fun t=>gA fun n=>bd fun H Q E=>∃ N:Net,NetAt H t N/\(∀ c ∈ n.cps.toList,c < 16 ^ 8)/\n.cps.toList.length<=1000 /\
   (∀ h,houseOf N.2.1 n.cps.toList=some h->∀ q H',Same H H'->HouseAt H' q h->Q (.ref q) H') /\
   (houseOf N.2.1 n.cps.toList=none->∀ H',Same H H'->E (.ref (xA K "NoHouse")) none H')
theorem i3 (T:Top K mg):CalleeX P w K mg base 1 "house_named" ["net", "name"] (dj K):=by
 refine T.fP.calX c8 (by unfold dj; exact LenSp.h) (fun _ _ _ _ _ _ us hl=>match us,hl with | [_,_],_=>rfl) (fun f cdv A outer s H vs Q E hr h=>?_);unfold dj at h;walk_at "el";refine ⟨_,(af (dh PassesOwn.leaving rfl (iterE K rfl (aj (ixE K rfl) (qv 0) ac (fun _ _=>rfl))) (tupE K rfl rfl (n:=2) (az (ao (i:=2) c8.nd rfl lc) (az (ao (i:=3) c8.nd rfl lc) bM))) (ak (b9 (aV gf (qv 2) (qv 1)) (ak (aF (qv 3))) aZ)))
   (ak (gm rfl fu rfl T.bJ.1 T.bJ.2 (aa (tM (l9 (qs [110,111,32,104,111,117,115,101,32]) (l9 (pI (qv 1)) rm))) ad)))),?_⟩
 rename_i p s;obtain ⟨n,rfl⟩:∃ x,s=st x:=⟨_,(cy s).symm⟩;obtain ⟨N,⟨a,b,c,e,_,⟨vs,e0,pr⟩,_⟩,hc,hn,q1,q2⟩:=h;simp only [de] at q1 q2 hc hn;have hl:=pr.length;walk_at "rd";refine ⟨_,_,.inr (SqT.of e),rfl,?_⟩;walk_at "rd";refine .inl ⟨⟨_,SqL.of e0⟩,?_⟩;refine dU (xs:=vs) (fun i σ H'=>∃ u v,σ = [some (.ref p),some (.str (st n)),u,v]/\Same H H'/\∀ x ∈ N.2.1.take i,¬ x.1=n) ⟨none,none,rfl,Same.refl _,fun x hx=>by simp at hx⟩ (fun i σ H' _ ⟨_,_,_,z,_⟩=>SqL.of (z _ _ e0)) ?_ ?_
 ·rintro i x σ H1 hx ⟨u,v,rfl,s1,h1⟩;have hi:i < vs.length:=(List.getElem?_eq_some_iff.mp hx).1;have hil:i < N.2.1.length:=by omega
  obtain ⟨y,hy,t,r,ey,et,hr⟩:=bp pr (List.getElem?_eq_getElem hil);obtain rfl:x=.ref t:=by rw [hy] at hx; rw [<- Option.some.inj hx,ey]
  refine ⟨t,[_,_],rfl,SqT.of (s1 _ _ et),rfl,_,[_],rfl,_,[],rfl,rfl,?_⟩;walk_at "rd";refine ite2 (fun g=>?_) fun g=>⟨some (tx N.2.1[i].1),some (.ref r),rfl,s1,fun y hy=>?_⟩
  ·refine q1 N.2.1[i].2 ?_ r H1 s1 (hr.same s1);unfold houseOf;rw [show N.2.1.find? (fun g=>decide (g.1=n))=some N.2.1[i] from List.find?_eq_some_iff_append.mpr ⟨by simpa using g,N.2.1.take i,N.2.1.drop (i+1),by simp,fun y hy=>by simpa using h1 y hy⟩];rfl
  ·rw [List.take_add_one,List.getElem?_eq_getElem hil] at hy;rcases List.mem_append.mp hy with hy | hy
   ·exact h1 y hy
   ·have e:y=N.2.1[i]:=by simpa using hy
    rw [e];exact g
 ·rintro σ H1 ⟨u,v,rfl,s1,h1⟩;walk_at "rd";have e:houseOf N.2.1 n=none:=by
   unfold houseOf;rw [List.find?_eq_none.mpr fun y hy=>by simpa using h1 y (by rw [<- hl,List.take_length]; exact hy)];rfl
  have hz:(st n).length=n.length:=jV n;refine ⟨by rw [jV]; exact Nat.le_of_lt (sizeBig (by decide)),hc,by omega,fun z hzz=>⟨?_,fun _=>⟨by decide,q2 e H1 s1⟩⟩⟩;rw [jV];exact Nat.le_of_lt (sizeBig (by simp only [List.length_cons,List.length_nil]; omega))
noncomputable def cL (K:Frag):Sp:=aC fun q=>bd fun H Q _=>∃ h:House,HouseAt H q h/\h.1.length<=100/\h.2.length<=100/\(∀ x ∈ h.1,x.2.length<=1000)/\∀ (q' g w:Addr) (H':Hp),H q'=none->H g=none->H w=none->Same H H'->HouseN (fun r=>H r=none) H' q' g w h->Q (.ref q') H'
theorem ik (T:Top K mg):Callee P w K mg base 1 "house_copied" ["house"] (cL K):=by
 refine T.fm.cal ig (by unfold cL; exact LenSp.h) (fun _ _ _ _ _ _ us hl=>match us,hl with | [_],_=>rfl) (fun f cdv A outer s H vs Q E hr h=>?_);unfold cL at h;walk_at "el";refine ⟨_,(ak (aF (aq (aa (bn (nt:=2) (fi:=[]) (N':=["door", "rules"]) rfl (cscope rfl (by decide +kernel)) (cnames (N:=["house"]) (sc:=defScope cp) rfl rfl (by decide +kernel)) (ft (by decide) (by decide)) (iterE K rfl (aj (ixE K rfl) (qv 0) ac (fun _ _=>rfl))) (fun _ _ _ _ _=>(tupE K rfl rfl (n:=2) (az (ao (i:=0) (by show (["door", "rules"]:List Str).Nodup; decide +kernel) rfl lc) (az (ao (i:=1) (by show (["door", "rules"]:List Str).Nodup; decide +kernel) rfl lc) bM)))) (fun _ _ _ _ _=>aQ) (fun _ _ _ _ _=>(aq (aa (qv 0) (aa (bH (bB K rfl rfl) rfl T.cD ck (aa (qv 1) ad)) ad))))) (aa (bH (bB K rfl rfl) rfl T.cD ck (aa (aj (ixE K rfl) (qv 0) ac (fun _ _=>rfl)) ad)) ad))))),?_⟩;rename_i p;obtain ⟨h,⟨g0,w0,e0,⟨gv,eg,pg⟩,⟨wv,ew,pw⟩⟩,h1,h2,h3,q⟩:=h;have hgl:=pg.length;have hwl:=pw.length;obtain ⟨z1,z2⟩:=aE pg;walk_at "rd";refine ⟨_,_,.inr (SqT.of e0),rfl,?_⟩;walk_at "rd";refine .inl ⟨⟨_,SqL.of eg⟩,fun g hg=>?_⟩;refine cX (h.1.zip gv) (fun x v H'=>GateN (fun r=>r≠g/\H r=none) H' x.1 v) hg (by rw [List.length_zip]; omega) (fun i H1 hi s1=>⟨gv,gv[i]'(by rw [List.length_zip] at hi; omega),SqL.of (s1 _ _ eg),List.getElem?_eq_getElem _⟩) (fun H1 s1=>⟨gv,SqL.of (s1 _ _ eg),by rw [List.length_zip]; omega⟩) ?_ ?_ ?_ ?_
 ·rintro i H1 v H2 _ ⟨rfl,_⟩;exact Same.refl _
 ·rintro x v H1 H2 acc hd k ⟨t',r,rfl,nr,et,⟨rv,er,pr⟩⟩;have tp:∀ t ts,H1 t=some (.tup ts)->H2 t=some (.tup ts):=fun t ts z=>k _ _ (fun y=>by rw [y,hd] at z; cases z) z
  exact ⟨t',r,rfl,nr,tp _ _ et,⟨rv,k _ _ nr.1 er,bz tp pr⟩⟩
 ·rintro i x v H1 H2 out non hx s1 nD ⟨rfl,a1⟩ ho;obtain ⟨y1,y2⟩:=List.getElem?_zip_eq_some.mp hx;have y3:=a1 gv (SqL.of (s1 _ _ eg));rw [y2] at y3;have y4:=Option.some.inj y3;obtain ⟨t,r,ex,et,⟨rv,er,pr⟩⟩:=z2 x (List.mem_of_getElem? hx);rw [<- y4,ex];refine ⟨t,[_,_],rfl,SqT.of (s1 _ _ et),rfl,_,[_],rfl,_,[],rfl,rfl,?_⟩;walk_at "rd";refine ⟨rv,.inl (SqL.of (s1 _ _ er)),fun r2 hr2=>⟨by decide,fun t2 ht2=>?_⟩⟩;have s2:=ae hr2 (.lst rv);have s3:=ae ht2 (.tup [tx x.1.1,V.ref r2]);have s13:=s1.trans (s2.trans s3);exact ho _ _ (s2.trans s3) ⟨t2,r2,rfl,⟨nD r2 hr2,s1.free hr2⟩,upd_same,⟨rv,s3 _ _ upd_same,bz (fun _ _ z=>s13 _ _ z) pr⟩⟩
 ·intro H1 vs s1 e1 p1;walk_at "rd";refine ⟨_,_,.inr (SqT.of (s1 _ _ e0)),rfl,?_⟩;walk_at "rd";refine ⟨wv,.inl (SqL.of (s1 _ _ ew)),fun w hw=>⟨by decide,fun q' hq'=>?_⟩⟩;have s2:=ae hw (.lst wv);have s3:=ae hq' (.tup [V.ref g,V.ref w]);have s23:=s2.trans s3;have s13:=s1.trans s23;have hz:(h.1.zip gv).map Prod.fst=h.1:=bZ hgl;have p2:Paired (GateN (fun r=>r≠g/\H r=none) H1) h.1 vs:=by
   rw [<- hz];exact bN p1
  refine q q' g w _ ((s1.trans s2).free hq') hg (s1.free hw) s13 ⟨upd_same,fun z=>(by rw [<- z,e1] at hw; cases hw),⟨vs,s23 _ _ e1,L2.Paired.mapP p2 ?_⟩,⟨wv,s3 _ _ upd_same,aM (fun _ _ z=>s13 _ _ z) pw⟩⟩;rintro x v ⟨t,r,rfl,n,h1,⟨rv,er,pr⟩⟩;exact ⟨t,r,rfl,⟨n.1,fun z=>(by rw [z,hw] at er; cases er),n.2⟩,s23 _ _ h1,⟨rv,s23 _ _ er,bz (fun _ _ z=>s23 _ _ z) pr⟩⟩
noncomputable def d5 (K:Frag):Sp:=aC fun a=>bi fun k=>bi fun m=>bd fun H Q _=>∃ ns:List Int,SqL K H a (ns.map V.int)/\0<=k/\k<=100000/\1<=m/\m<=100000/\∀ r:Nat,(r:Int) < m->Q (.int (r:Nat)) H
theorem ap (T:Top K mg):Callee P w K mg base 1 "_law_by" ["_law_script", "_law_k", "_law_many"] (d5 K):=by
 refine T.jL.cal d7 (by unfold d5; exact LenSp.h) (fun _ _ _ _ _ _ us hl=>match us,hl with | [_,_,_],_=>rfl) (fun f cdv A outer s H vs Q E hr h=>?_);unfold d5 at h;walk_at "el";refine ⟨_,(af (ar (i:=3) d7.nd rfl lc ac)
   (bV (b9 (aV ka (aB (lenE K rfl) rfl T.cq bL (aa (qv 0) ad)) ac) (ak (ar (i:=3) d7.nd rfl lc (ai dw (aj (ixE K rfl) (qv 0) (ai dw (qv 1) (aB (lenE K rfl) rfl T.cq bL (aa (qv 0) ad))) (fun _ _=>rfl)) ac))) aZ)
   (af (ar (i:=4) d7.nd rfl lc (ai dw (ai bj (ai ah (ai ah (qv 3) (ai bj ac (qv 1))) ac) (ai ah ac (ai bj (ai bj ac (qv 1)) (qv 1)))) ac))
   (ak (aF (ai dw (ai dw (ai bj (qv 4) (ai ah ac (ai bj ac (qv 1)))) ac) (qv 2))))))),?_⟩
 rename_i a k m;obtain ⟨ns,hS,hk0,hk1,hm0,hm1,q⟩:=h;obtain ⟨k,rfl⟩:∃ x:Nat,k=(x:Int):=⟨k.toNat,by omega⟩;walk_at "rd";refine ⟨fun σ' H'=>∃ c:Int,σ'=[some (.ref a),some (.int k),some (.int m),some (.int c),none]/\H'=H/\0<=c/\c < 999983,⟨_,.inl hS,ite2 (fun g=>⟨_,.inl hS,by simpa using g,?_⟩) fun g=>?_⟩,?_⟩
 ·rw [List.length_map] at g ⊢;have hl:0 < ns.length:=by omega
  have hj:k % ns.length < ns.length:=Nat.mod_lt _ hl;refine ⟨_,V.int ns[k % ns.length],.inl hS,?_,?_⟩
  ·rw [show (k:Int) % (ns.length:Int)=((k % ns.length:Nat):Int) by omega];exact bw (by rw [List.getElem?_map,List.getElem?_eq_getElem hj]; rfl)
  walk_at "rd";exact ⟨_,rfl,Int.emod_nonneg _ (by decide),Int.emod_lt_of_pos _ (by decide)⟩
 ·exact ⟨0,rfl,rfl,by decide,by decide⟩
 ·rintro σ' H' ⟨c,rfl,rfl,c0,c1⟩;walk_at "rd";have hc (x:Int) (h0:0<=x) (h1:x<=2147483647):-(2 ^ 64) < x/\x < 2 ^ 64:=⟨Int.lt_of_lt_of_le (by decide) h0,Int.lt_of_le_of_lt h1 (by decide)⟩;have e0:=Int.emod_nonneg ((c+17*(k:Int)+5)*(48271+613*(k:Int)*(k:Int))) (b:=999983) (by decide);have e1:=Int.emod_lt_of_pos ((c+17*(k:Int)+5)*(48271+613*(k:Int)*(k:Int))) (b:=999983) (by decide);refine ⟨.inr (hc k (by omega) (by omega)),.inr (hc k (by omega) (by omega)),.inr (hc k (by omega) (by omega)),.inl (hc _ (by omega) (by omega)),.inr (hc k (by omega) (by omega)),.inl (hc _ e0 (by omega)),by omega,?_⟩;generalize (c+17*(k:Int)+5)*(48271+613*(k:Int)*(k:Int)) % 999983*(16807+271*(k:Int)) % 1000003=z;have z0:0<=z % m:=Int.emod_nonneg _ (by omega);have z1:z % m < m:=Int.emod_lt_of_pos _ (by omega);have:=q (z % m).toNat (by omega);rw [Int.toNat_of_nonneg z0] at this;exact this
theorem aW {H:Hp} {a:Addr} {k m:Int} {ns:List Int} {Q:VK} {E:XK} (hS:SqL K H a (ns.map V.int)) (hk0:0<=k) (hk1:k<=100000) (hm0:1<=m) (hm1:m<=100000) (q:∀ r:Nat,(r:Int) < m->Q (.int (r:Nat)) H):d5 K [.ref a,.int k,.int m] H Q E:=⟨ns,hS,hk0,hk1,hm0,hm1,q⟩
noncomputable def eX (K:Frag):Sp:=aC fun a=>bi fun k=>bi fun w=>bd fun H Q _=>∃ (ns:List Int) (W:Nat),SqL K H a (ns.map V.int)/\0<=k/\k<=50000/\w=(W:Int)/\W<=1000/\∀ r H',Same H H'->r.length=W->Q (tx r) H'
theorem hX (T:Top K mg):Callee P w K mg base 2 "_law_row" ["_law_script", "_law_k", "_law_width"] (eX K):=by
 refine T.i9.cal kz (by unfold eX; exact LenSp.h) (fun _ _ _ _ _ _ us hl=>match us,hl with | [_,_,_],_=>rfl) (fun f cdv A outer s H vs Q E hr h=>?_);unfold eX at h;walk_at "el";refine ⟨_,(ak (aF (joinE K rfl (bn (nt:=1) (fi:=[0,1]) (N':=["_law_j", "_law_script", "_law_k"]) rfl (cscope rfl (by decide +kernel)) (cnames (N:=["_law_script", "_law_k", "_law_width"]) (sc:=defScope dY) rfl rfl (by decide +kernel)) (aS (by decide)) (aR rfl T.bD (qv 2)) (fun _ _ _ _ _=>(ao (i:=0) (by show (["_law_j", "_law_script", "_law_k"]:List Str).Nodup; decide +kernel) rfl lc)) (fun _ _ _ _ _=>aQ) (fun _ _ _ _ _=>(aj (ixE K rfl) (qs [48,45,49,45,45,45]) (av (ap T) hr.m rfl (aa (qv 1) (aa (ai ah (qv 2) (qv 0)) (aa ac ad)))) (fun _ _=>rfl))))))),?_⟩;rename_i a k w';obtain ⟨ns,W,hS,hk0,hk1,rfl,hW,q⟩:=h;walk_at "rd";refine ⟨by omega,by omega,fun D hD=>?_⟩;rw [Int.toNat_natCast];refine dS (lo:=0) (n:=W) (fun _ v _=>∃ x,v=V.str (st [x])) hD (by omega) (fun _ _ _ _ _ _ _ r=>r) ?_ ?_
 ·intro i H1 out non hi s1 ho;walk_at "rd";refine aW (s1.seq hS) (by omega) (by omega) (by decide) (by decide) fun r hr=>?_
  obtain ⟨x,hx,ex⟩:=gg (l:=[48,45,49,45,45,45]) (i:=r) (by show r < 6; omega);walk_at "rd";exact ⟨x,ex,ho _ _ (Same.refl _) ⟨x,rfl⟩⟩
 ·intro H1 vs s1 e1 p1;obtain ⟨os,rfl,hol,_⟩:=di (P:=fun _=>True) (fun _ _ ⟨x,e⟩=>⟨x,True.intro,e⟩) p1;rw [List.length_range] at hol;walk_at "rd";exact ⟨os,SqL.of e1,by omega,q os H1 s1 hol⟩
noncomputable def dO (K:Frag):Sp:=aC fun a=>bi fun k=>bi fun w=>bd fun H Q _=>∃ (ns:List Int) (W:Nat),SqL K H a (ns.map V.int)/\0<=k/\k<=50000/\w=(W:Int)/\W<=1000/\∀ r H',Same H H'->r.length=W->Q (tx r) H'
theorem jj (T:Top K mg):Callee P w K mg base 2 "_law_signs" ["_law_script", "_law_k", "_law_size"] (dO K):=by
 refine T.gK.cal jk (by unfold dO; exact LenSp.h) (fun _ _ _ _ _ _ us hl=>match us,hl with | [_,_,_],_=>rfl) (fun f cdv A outer s H vs Q E hr h=>?_);unfold dO at h;walk_at "el";refine ⟨_,(ak (aF (joinE K rfl (bn (nt:=1) (fi:=[0,1]) (N':=["_law_j", "_law_script", "_law_k"]) rfl (cscope rfl (by decide +kernel)) (cnames (N:=["_law_script", "_law_k", "_law_size"]) (sc:=defScope cT) rfl rfl (by decide +kernel)) (aS (by decide)) (aR rfl T.bD (qv 2)) (fun _ _ _ _ _=>(ao (i:=0) (by show (["_law_j", "_law_script", "_law_k"]:List Str).Nodup; decide +kernel) rfl lc)) (fun _ _ _ _ _=>aQ) (fun _ _ _ _ _=>(aj (ixE K rfl) (qs [48,49]) (av (ap T) hr.m rfl (aa (qv 1) (aa (ai ah (qv 2) (qv 0)) (aa ac ad)))) (fun _ _=>rfl))))))),?_⟩;rename_i a k w';obtain ⟨ns,W,hS,hk0,hk1,rfl,hW,q⟩:=h;walk_at "rd";refine ⟨by omega,by omega,fun D hD=>?_⟩;rw [Int.toNat_natCast];refine dS (lo:=0) (n:=W) (fun _ v _=>∃ x,v=V.str (st [x])) hD (by omega) (fun _ _ _ _ _ _ _ r=>r) ?_ ?_
 ·intro i H1 out non hi s1 ho;walk_at "rd";refine aW (s1.seq hS) (by omega) (by omega) (by decide) (by decide) fun r hr=>?_
  obtain ⟨x,hx,ex⟩:=gg (l:=[48,49]) (i:=r) (by show r < 2; omega);walk_at "rd";exact ⟨x,ex,ho _ _ (Same.refl _) ⟨x,rfl⟩⟩
 ·intro H1 vs s1 e1 p1;obtain ⟨os,rfl,hol,_⟩:=di (P:=fun _=>True) (fun _ _ ⟨x,e⟩=>⟨x,True.intro,e⟩) p1;rw [List.length_range] at hol;walk_at "rd";exact ⟨os,SqL.of e1,by omega,q os H1 s1 hol⟩
structure RuleW (W:Nat) (r:Rule):Prop where
 row:r.1.length=W
 word:r.2.1.length<=4
 over:r.2.2.length=W
noncomputable def eE (K:Frag):Sp:=aC fun a=>bi fun k=>bi fun w=>bi fun sh=>bd fun H Q _=>∃ (ns:List Int) (W:Nat),SqL K H a (ns.map V.int)/\0<=k/\k<=40000/\w=(W:Int)/\W<=1000/\0<=sh/\sh<=1000/\∀ t H' (r:Rule),H t=none->Same H H'->H' t=some (.tup [tx r.1,tx r.2.1,tx r.2.2])->RuleW W r->Q (.ref t) H'
theorem j5 (T:Top K mg):Callee P w K mg base 3 "_law_rule" ["_law_script", "_law_k", "_law_width", "_law_shift"] (eE K):=by
 refine T.hZ.cal cO (by unfold eE; exact LenSp.h) (fun _ _ _ _ _ _ us hl=>match us,hl with | [_,_,_,_],_=>rfl) (fun f cdv A outer s H vs Q E hr h=>?_);unfold eE at h;walk_at "el";refine ⟨_,(af (ar (i:=4) cO.nd rfl lc (aj (ixE K rfl) (aI (aa (qs [112,97,115,115]) (aa (qs [100,114,111,112]) (aa (qs [112,97,115,115]) (aa (qs [112,97,115,115]) ad))))) (av (ap T) hr.m rfl (aa (qv 0) (aa (qv 1) (aa ac ad)))) (fun _ _=>rfl)))
   (af (ar (i:=5) cO.nd rfl lc (av (hX T) hr.m rfl (aa (qv 0) (aa (ai ah (qv 1) ac) (aa (qv 2) ad)))))
   (af (ar (i:=6) cO.nd rfl lc (joinE K rfl (bn (nt:=1) (fi:=[5,3]) (N':=["_law_j", "_law_signs_here", "_law_shift"]) rfl (cscope rfl (by decide +kernel)) (cnames (N:=["_law_script", "_law_k", "_law_width", "_law_shift", "_law_word", "_law_signs_here", "_law_over"]) (sc:=defScope dz) rfl rfl (by decide +kernel)) (aS (by decide)) (aR rfl T.bD (qv 2)) (fun _ _ _ _ _=>(ao (i:=0) (by show (["_law_j", "_law_signs_here", "_law_shift"]:List Str).Nodup; decide +kernel) rfl lc)) (fun _ _ _ _ _=>aQ) (fun _ _ _ _ _=>(kP (aV sE (ai dw (ai ah (qv 0) (qv 2)) ac) ac) (aj (ixE K rfl) (qv 1) (qv 0) (fun _ _=>rfl)) (qs [45]))))))
   (ak (aF (aq (aa (av (hX T) hr.m rfl (aa (qv 0) (aa (ai ah (qv 1) ac) (aa (qv 2) ad)))) (aa (qv 4) (aa (qv 6) ad))))))))),?_⟩
 rename_i a k w' sh;obtain ⟨ns,W,hS,hk0,hk1,rfl,hW,hs0,hs1,q⟩:=h;walk_at "rd";refine ⟨by decide,fun p1 hp1=>?_⟩;have s1:=ae hp1 (.lst ([passT,dropT,passT,passT].map tx));refine aW (s1.seq hS) (by omega) (by omega) (by decide) (by decide) fun r1 hr1=>?_
 obtain ⟨v,hv,ev⟩:=gg (l:=[passT,dropT,passT,passT].map tx) (i:=r1) (by show r1 < 4; omega);obtain ⟨wd,hwd,rfl⟩:=List.mem_map.mp hv;walk_at "rd";refine ⟨_,_,.inl (SqL.of upd_same),ev,?_⟩;walk_at "rd";refine ⟨ns,W,s1.seq hS,by omega,by omega,rfl,hW,fun sg H2 s2 hl2=>?_⟩;walk_at "rd";refine ⟨by omega,by omega,fun D hD=>?_⟩;rw [Int.toNat_natCast];have s12:=s1.trans s2;refine dS (lo:=0) (n:=W) (fun _ v _=>∃ x,v=V.str (st [x])) hD (by omega) (fun _ _ _ _ _ _ _ r=>r) ?_ ?_
 ·intro i H3 out non hi s3 ho;walk_at "rd";obtain ⟨x,hx,ex⟩:=gg (l:=sg) (i:=i) (by omega);exact ite2 (fun _=>⟨by omega,x,ex,ho _ _ (Same.refl _) ⟨x,rfl⟩⟩) fun _=>ho _ _ (Same.refl _) ⟨45,rfl⟩
 ·intro H3 vs s3 e3 p3;obtain ⟨os,rfl,hol,_⟩:=di (P:=fun _=>True) (fun _ _ ⟨x,e⟩=>⟨x,True.intro,e⟩) p3;rw [List.length_range] at hol;have s13:=s12.trans s3;walk_at "rd";refine ⟨os,SqL.of e3,by omega,ns,W,s13.seq hS,by omega,by omega,rfl,hW,fun rw4 H4 s4 hl4=>⟨by decide,fun t ht=>?_⟩⟩;refine q t _ (rw4,wd,os) ((s13.trans s4).free ht) (s13.trans (s4.trans (ae ht _))) upd_same ⟨hl4,?_,hol⟩;simp only [List.mem_cons,List.not_mem_nil,or_false] at hwd;show wd.length<=4;rcases hwd with z | z | z | z <;> rw [z] <;> decide
structure NamesB (n:Nat) (ls:List (List Nat)):Prop where
 len:ls.length=n
 nd:ls.Nodup
 low:∀ l ∈ ls,Low l
 short:∀ l ∈ ls,1<=l.length/\l.length<=8
theorem NamesB.perm {n:Nat} {ls ms:List (List Nat)} (h:NamesB n ls) (p:ms.Perm ls):NamesB n ms:=
 ⟨p.length_eq.trans h.len,p.nodup_iff.mpr h.nd,fun l hl=>h.low l (p.mem_iff.mp hl),fun l hl=>h.short l (p.mem_iff.mp hl)⟩
theorem lE {w:List Nat} (hw:w.length=8) (hl:Low w) {n:Nat} (hn:n<=8):NamesB n ((List.range n).map fun j=>w.take (j+1)) where
 len:=by simp
 nd:=jr _ fun i j hi hj e=>by
  have:=congrArg List.length e;rw [List.length_take,List.length_take] at this;omega
 low:=fun l hl'=>by
  obtain ⟨j,_,rfl⟩:=List.mem_map.mp hl';exact fun c hc=>hl c (List.mem_of_mem_take hc)
 short:=fun l hl'=>by
  obtain ⟨j,hj,rfl⟩:=List.mem_map.mp hl';have:=List.mem_range.mp hj;rw [List.length_take];omega
theorem mI {w:List Nat} (hw:w.length=8) (hl:Low w) {n m z p:Nat} (hn:n<=8) (hz:z<=8) (hp:p < z):NamesB n ((List.range n).map fun j=>w.take p++[97+(m+7*j) % 26]++(w.drop (p+1)).take (z - (p+1))) where
 len:=by simp
 nd:=jr _ fun i j hi hj e=>by
  have e1:=List.append_cancel_right e;have e2:=List.append_cancel_left e1;have e3:97+(m+7*i) % 26=97+(m+7*j) % 26:=by simpa using e2
  omega
 low:=fun l hl'=>by
  obtain ⟨j,_,rfl⟩:=List.mem_map.mp hl';intro c hc;rcases List.mem_append.mp hc with hc | hc
  ·rcases List.mem_append.mp hc with hc | hc
   ·exact hl c (List.mem_of_mem_take hc)
   ·rw [List.mem_singleton.mp hc];omega
  ·exact hl c (List.mem_of_mem_drop (List.mem_of_mem_take hc))
 short:=fun l hl'=>by
  obtain ⟨j,_,rfl⟩:=List.mem_map.mp hl';simp only [List.length_append,List.length_take,List.length_drop,List.length_cons,List.length_nil];omega
noncomputable def dN (K:Frag):Sp:=aC fun a=>bi fun k=>bi fun n=>bd fun H Q _=>∃ (ns:List Int) (N:Nat),SqL K H a (ns.map V.int)/\0<=k/\k<=50000/\n=(N:Int)/\1<=N/\N<=8/\∀ p H' ls,H p=none->Same H H'->H' p=some (.lst (ls.map tx))->NamesB N ls->Q (.ref p) H'
theorem qR {vs:List V} {l:List Nat} (p:Paired (fun _ v=>∃ x:Nat,(97<=x/\x<=122)/\v=V.str (st [x])) l vs):∃ os:List Nat,vs=os.map (fun k=>V.str (st [k]))/\os.length=l.length/\Low os:=di (P:=fun x:Nat=>97<=x/\x<=122) (fun _ _ r=>r) p
theorem fL (T:Top K mg):Callee P w K mg base 2 "_law_names" ["_law_script", "_law_k", "_law_count"] (dN K):=by
 refine T.gO.cal aP (by unfold dN; exact LenSp.h) (fun _ _ _ _ _ _ us hl=>match us,hl with | [_,_,_],_=>rfl) (fun f cdv A outer s H vs Q E hr h=>?_);unfold dN at h;walk_at "el";refine ⟨_,(af (ar (i:=3) aP.nd rfl lc (qs [97,98,99,100,101,102,103,104,105,106,107,108,109,110,111,112,113,114,115,116,117,118,119,120,121,122]))
   (af (ar (i:=4) aP.nd rfl lc (joinE K rfl (bn (nt:=1) (fi:=[3,0,1]) (N':=["_law_j", "_law_letters", "_law_script", "_law_k"]) rfl (cscope rfl (by decide +kernel)) (cnames (N:=["_law_script", "_law_k", "_law_count", "_law_letters", "_law_word", "_law_turn", "_law_names_here", "_law_size", "_law_place", "_law_first", "_law_signs_here"]) (sc:=defScope bG) rfl rfl (by decide +kernel)) (aS (by decide)) (aR rfl T.bD ac) (fun _ _ _ _ _=>(ao (i:=0) (by show (["_law_j", "_law_letters", "_law_script", "_law_k"]:List Str).Nodup; decide +kernel) rfl lc)) (fun _ _ _ _ _=>aQ) (fun _ _ _ _ _=>(aj (ixE K rfl) (qv 1) (av (ap T) hr.m rfl (aa (qv 2) (aa (ai ah (qv 3) (qv 0)) (aa ac ad)))) (fun _ _=>rfl))))))
   (af (ar (i:=5) aP.nd rfl lc (av (ap T) hr.m rfl (aa (qv 0) (aa (ai ah (qv 1) ac) (aa (qv 2) ad)))))
   (af (cS (i:=6) (nt:=1) (fi:=[4]) (N':=["_law_j", "_law_word"]) aP.nd rfl lc rfl (cscope rfl (by decide +kernel)) (cnames (N:=["_law_script", "_law_k", "_law_count", "_law_letters", "_law_word", "_law_turn", "_law_names_here", "_law_size", "_law_place", "_law_first", "_law_signs_here"]) (sc:=defScope bG) rfl rfl (by decide +kernel)) (aS (by decide)) (aR rfl T.bD (qv 2)) (fun _ _ _ _ _=>(ao (i:=0) (by show (["_law_j", "_law_word"]:List Str).Nodup; decide +kernel) rfl lc)) (fun _ _ _ _ _=>aQ) (fun _ _ _ _ _=>(aU (slE K rfl) (qv 1) bC (bo (ai ah (qv 0) ac)))))
   (bV (b9 (aV gf (av (ap T) hr.m rfl (aa (qv 0) (aa (ai ah (qv 1) ac) (aa ac ad)))) ac) (af (ar (i:=7) aP.nd rfl lc (ai ah ac (av (ap T) hr.m rfl (aa (qv 0) (aa (ai ah (qv 1) ac) (aa ac ad))))))
   (af (ar (i:=8) aP.nd rfl lc (av (ap T) hr.m rfl (aa (qv 0) (aa (ai ah (qv 1) ac) (aa (qv 7) ad)))))
   (af (ar (i:=9) aP.nd rfl lc (av (ap T) hr.m rfl (aa (qv 0) (aa (ai ah (qv 1) ac) (aa ac ad)))))
   (af (cS (i:=10) (nt:=1) (fi:=[3,9]) (N':=["_law_j", "_law_letters", "_law_first"]) aP.nd rfl lc rfl (cscope rfl (by decide +kernel)) (cnames (N:=["_law_script", "_law_k", "_law_count", "_law_letters", "_law_word", "_law_turn", "_law_names_here", "_law_size", "_law_place", "_law_first", "_law_signs_here"]) (sc:=defScope bG) rfl rfl (by decide +kernel)) (aS (by decide)) (aR rfl T.bD (qv 2)) (fun _ _ _ _ _=>(ao (i:=0) (by show (["_law_j", "_law_letters", "_law_first"]:List Str).Nodup; decide +kernel) rfl lc)) (fun _ _ _ _ _=>aQ) (fun _ _ _ _ _=>(aj (ixE K rfl) (qv 1) (ai dw (ai ah (qv 2) (ai bj ac (qv 0))) ac) (fun _ _=>rfl))))
   (ak (cS (i:=6) (nt:=1) (fi:=[4,7,8]) (N':=["_law_sign", "_law_word", "_law_size", "_law_place"]) aP.nd rfl lc rfl (cscope rfl (by decide +kernel)) (cnames (N:=["_law_script", "_law_k", "_law_count", "_law_letters", "_law_word", "_law_turn", "_law_names_here", "_law_size", "_law_place", "_law_first", "_law_signs_here"]) (sc:=defScope bG) rfl rfl (by decide +kernel)) (aS (by decide)) (iterE K rfl (qv 10)) (fun _ _ _ _ _=>(ao (i:=0) (by show (["_law_sign", "_law_word", "_law_size", "_law_place"]:List Str).Nodup; decide +kernel) rfl lc)) (fun _ _ _ _ _=>aQ) (fun _ _ _ _ _=>(ai ah (ai ah (aU (slE K rfl) (qv 1) bC (bo (qv 3))) (qv 0)) (aU slB (qv 1) (bo (ai ah (qv 3) ac)) (bo (qv 2))))))))))) aZ)
   (ak (aF (ai ah (aU (slE K rfl) (qv 6) (bo (qv 5)) bC) (aU (slE K rfl) (qv 6) bC (bo (qv 5))))))))))),?_⟩
 rename_i a k n;obtain ⟨ns,N,hS,hk0,hk1,rfl,hN1,hN8,q⟩:=h;walk_at "rd";intro D hD;refine dS (lo:=0) (n:=8) (fun _ v _=>∃ x:Nat,(97<=x/\x<=122)/\v=V.str (st [x])) hD (by decide) (fun _ _ _ _ _ _ _ r=>r) ?_ ?_
 ·intro i H1 out non hi s1 ho;walk_at "rd";refine aW (s1.seq hS) (by omega) (by omega) (by decide) (by decide) fun r hr=>?_
  walk_at "rd";exact ⟨_,(show atI abc (r:Int)=some (97+r) from bw (ot (by omega))),ho _ _ (Same.refl _) ⟨97+r,⟨by omega,by omega⟩,rfl⟩⟩
 intro H1 vs s1 e1 p1;obtain ⟨w,rfl,hwl,hw⟩:=qR p1;rw [List.length_range] at hwl;walk_at "rd";refine ⟨w,SqL.of e1,by omega,?_⟩;refine aW (s1.seq hS) (by omega) (by omega) (by omega) (by omega) fun r1 hr1=>?_
 walk_at "rd";refine ⟨by omega,by omega,fun D2 hD2=>?_⟩;rw [Int.toNat_natCast];refine iY (lo:=0) (n:=N) (h:=fun j=>[tx (w.take (j+1))]) hD2 (by omega) (fun _=>by simp) ?_ ?_
 ·intro i H2 out non hi s2 ho _;walk_at "rd";refine ⟨by omega,by omega,by omega,?_⟩;rw [show ((i:Int)+1).toNat=i+1 by omega];exact ho _ _ rfl (Same.refl _)
 intro H2 s2 e2;rw [cz (fun j=>tx (w.take (j+1))),show (List.range N).map (fun j=>tx (w.take (j+1)))=((List.range N).map fun j=>w.take (j+1)).map tx by rw [List.map_map]; rfl] at e2;have s12:=s1.trans s2;refine ⟨fun σ' H'=>∃ (p:Addr) (ls:List (List Nat)) (u3 u4 u5 u6:Option V),σ'=[some (.ref a),some (.int k),some (nV N),some (tx ([97,98,99,100,101,102,103,104,105,106,107,108,109,110,111,112,113,114,115,116,117,118,119,120,121,122])),some (tx w),some (nV r1),some (.ref p),u3,u4,u5,u6]/\Same H H'/\H' p=some (.lst (ls.map tx))/\NamesB N ls,?_,?_⟩
 ·refine aW (s12.seq hS) (by omega) (by omega) (by decide) (by decide) fun r2 hr2=>?_
  walk_at "rd";refine ite2 (fun _=>?_) fun _=>⟨D2,_,none,none,none,none,rfl,s12,e2,lE hwl hw hN8⟩
  refine aW (s12.seq hS) (by omega) (by omega) (by decide) (by decide) fun r3 hr3=>?_
  walk_at "rd";refine aW (s12.seq hS) (by omega) (by omega) (by omega) (by omega) fun r4 hr4=>?_
  walk_at "rd";refine aW (s12.seq hS) (by omega) (by omega) (by omega) (by omega) fun r5 hr5=>?_
  walk_at "rd";refine ⟨by omega,by omega,fun D3 hD3=>?_⟩;refine iY (lo:=0) (n:=N) (h:=fun j=>[V.str (st [97+(r5+7*j) % 26])]) hD3 (by omega) (fun _=>by simp) ?_ ?_
  ·intro i H3 out non hi s3 ho _;walk_at "rd";refine ⟨.inl ⟨by decide,by decide⟩,97+(r5+7*i) % 26,?_,ho _ _ rfl (Same.refl _)⟩;rw [show (((r5:Int)+7*(i:Int)) % 26)=(((r5+7*i) % 26:Nat):Int) by omega];exact (show atI abc _=_ from bw (ot (by omega)))
  intro H3 s3 e3;walk_at "rd";rw [cz (fun j=>V.str (st [97+(r5+7*j) % 26]))] at e3;refine .inl ⟨⟨_,SqL.of e3⟩,fun D4 hD4=>?_⟩;refine cV (item:=fun j:Nat=>V.str (st [97+(r5+7*j) % 26])) (xs:=List.range N) (h:=fun j=>[tx (w.take r4++[97+(r5+7*j) % 26]++(w.drop (r4+1)).take (1+r3 - (r4+1)))]) hD4 (SqL.of e3) (by rw [List.length_range]; omega) (fun _=>by simp) ?_ ?_
  ·intro j H4 out non hj s4 ho _;walk_at "rd";have l1:(w.take r4).length=r4:=by rw [List.length_take]; omega
   have l2:(List.take (1+r3 - (r4+1)) (w.drop (r4+1))).length<=8:=by rw [List.length_take]; omega
   rw [show ((1:Int)+(r3:Int)).toNat=1+r3 by omega,show ((r4:Int)+1).toNat=r4+1 by omega,Int.toNat_natCast];refine ⟨by omega,by omega,by omega,by omega,by omega,by omega,by omega,by omega,?_,ho _ _ rfl (Same.refl _)⟩;rw [List.length_append,l1];simp only [List.length_cons,List.length_nil];omega
  intro H4 s4 e4;rw [cz (fun j=>tx (w.take r4++[97+(r5+7*j) % 26]++(w.drop (r4+1)).take (1+r3 - (r4+1)))),show (List.range N).map (fun j=>tx (w.take r4++[97+(r5+7*j) % 26]++(w.drop (r4+1)).take (1+r3 - (r4+1))))=((List.range N).map fun j=>w.take r4++[97+(r5+7*j) % 26]++(w.drop (r4+1)).take (1+r3 - (r4+1))).map tx by rw [List.map_map]; rfl] at e4;exact ⟨D4,_,_,_,_,_,rfl,s12.trans (s3.trans s4),e4,mI hwl hw hN8 (by omega) (by omega)⟩
 ·rintro σ' H3 ⟨p,ls,u3,u4,u5,u6,rfl,s3,e3,NB⟩;walk_at "rd";have hl:(ls.map tx).length=N:=by rw [List.length_map]; exact NB.len
  refine ⟨_,SqL.of e3,fun q1 hq1=>?_⟩;have s4:=ae hq1 (.lst (cutV (ls.map tx) (some (r1:Int)) none));refine ⟨_,SqL.of (s4 _ _ e3),fun q2 hq2=>?_⟩;have s5:=ae hq2 (.lst (cutV (ls.map tx) none (some (r1:Int))));refine ⟨_,_,s5 _ _ upd_same,upd_same,?_,fun q3 hq3=>?_⟩
  ·rw [iF _ _ (by omega),iQ _ _ (by omega),List.length_drop,List.length_take,sizeLine_eq];omega
  have s6:=ae hq3 (.lst (cutV (ls.map tx) (some (r1:Int)) none++cutV (ls.map tx) none (some (r1:Int))));refine q q3 _ (ls.drop r1++ls.take r1) ((s3.trans (s4.trans s5)).free hq3) (s3.trans (s4.trans (s5.trans s6))) ?_ (NB.perm ?_)
  ·rw [upd_same,iF _ _ (by omega),iQ _ _ (by omega),List.map_append,List.map_drop,List.map_take]
  ·refine List.perm_append_comm.trans ?_;rw [List.take_append_drop]
theorem fh {α β:Type} {F:α -> β -> Prop}:∀ {l:List α} {m:List β} (n:Nat),Paired F l m->Paired F (l.take n) (m.take n)
 | _,_,0,_=>by rw [List.take_zero,List.take_zero]; exact .nil
 | _,_,n+1,.nil=>.nil
 | _,_,n+1,.cons r p=>.cons r (fh n p)
theorem hU {α β:Type} {F:α -> β -> Prop}:∀ {l:List α} {m:List β} (n:Nat),Paired F l m->Paired F (l.drop n) (m.drop n)
 | _,_,0,p=>p
 | _,_,n+1,.nil=>.nil
 | _,_,n+1,.cons _ p=>hU n p
noncomputable def toB:List Nat:=[116,111]
noncomputable def padB:List Nat:=[112,97,100]
structure LayB (ls:List Fld):Prop where
 two:2<=ls.length
 few:ls.length<=4
 nd:(ls.map (·.1)).Nodup
 to:∃ n,(toB,n) ∈ ls
 sz:∀ x ∈ ls,x.2<=100
noncomputable def db (K:Frag):Sp:=aC fun a=>bi fun k=>bd fun H Q _=>∃ ns:List Int,SqL K H a (ns.map V.int)/\0<=k/\k<=50000/\∀ p H' ls,H p=none->Same H H'->Lay H' p ls->LayB ls->ls.length<=3->(∀ x ∈ ls,x.2<=3/\x.1≠padB)->Q (.ref p) H'
theorem iO (T:Top K mg):Callee P w K mg base 2 "_law_layout" ["_law_script", "_law_k"] (db K):=by
 refine T.fQ.cal c9 (by unfold db; exact LenSp.h) (fun _ _ _ _ _ _ us hl=>match us,hl with | [_,_],_=>rfl) (fun f cdv A outer s H vs Q E hr h=>?_);unfold db at h;walk_at "el";refine ⟨_,(af (ar (i:=2) c9.nd rfl lc (aU (slE K rfl) (aI (aa (aq (aa (qs [116]) (aa (ai ah ac (av (ap T) hr.m rfl (aa (qv 0) (aa (qv 1) (aa ac ad))))) ad))) (aa (aq (aa (qs [116,111,101]) (aa ac ad))) ad))) bC (bo (ai ah ac (av (ap T) hr.m rfl (aa (qv 0) (aa (ai ah (qv 1) ac) (aa ac ad))))))))
   (af (ar (i:=3) c9.nd rfl lc (av (ap T) hr.m rfl (aa (qv 0) (aa (ai ah (qv 1) ac) (aa (ai ah (aB (lenE K rfl) rfl T.cq bL (aa (qv 2) ad)) ac) ad)))))
   (ak (aF (ai ah (ai ah (aU (slE K rfl) (qv 2) bC (bo (qv 3))) (aI (aa (aq (aa (qs [116,111]) (aa (ai ah ac (av (ap T) hr.m rfl (aa (qv 0) (aa (ai ah (qv 1) ac) (aa ac ad))))) ad))) ad))) (aU (slE K rfl) (qv 2) (bo (qv 3)) bC)))))),?_⟩
 rename_i a k;obtain ⟨ns,hS,hk0,hk1,q⟩:=h;walk_at "rd";refine aW hS (by omega) (by omega) (by decide) (by decide) fun r1 hr1=>?_
 walk_at "rd";refine ⟨by decide,fun t1 ht1=>⟨by decide,fun t2 ht2=>⟨by decide,fun l0 hl0=>?_⟩⟩⟩;have k1:=ae ht1 (.tup [V.str (st [116]),V.int (1+(r1:Int))]);have k2:=ae ht2 (.tup [V.str (st [116,111,101]),V.int 1]);have k3:=ae hl0 (.lst [V.ref t1,V.ref t2]);have s1:=k1.trans (k2.trans k3);have L0:Lay (upd (upd (upd H t1 (.tup [V.str (st [116]),V.int (1+(r1:Int))])) t2 (.tup [V.str (st [116,111,101]),V.int 1])) l0 (.lst [V.ref t1,V.ref t2])) l0 [([116],1+r1),([116,111,101],1)]:=
  ⟨_,upd_same,.cons ⟨t1,rfl,by rw [k3 _ _ (k2 _ _ upd_same)]; push_cast; rfl⟩ (.cons ⟨t2,rfl,k3 _ _ upd_same⟩ .nil)⟩
 generalize upd (upd (upd H t1 (.tup [V.str (st [116]),V.int (1+(r1:Int))])) t2 (.tup [V.str (st [116,111,101]),V.int 1])) l0 (.lst [V.ref t1,V.ref t2])=H1 at s1 L0 ⊢;obtain ⟨v0,e0,p0⟩:=L0;have hv0:=p0.length;refine aW (s1.seq hS) (by omega) (by omega) (by decide) (by decide) fun r2 hr2=>?_
 walk_at "rd";refine ⟨_,SqL.of e0,fun l1 hl1=>?_⟩;rw [show ((1:Int)+(r2:Int))=((1+r2:Nat):Int) by omega,iQ _ _ (by rw [<- hv0]; show 1+r2<=2; omega)];have s2:=ae hl1 (.lst (v0.take (1+r2)));have L1:Lay (upd H1 l1 (.lst (v0.take (1+r2)))) l1 ([([116],1+r1),([116,111,101],1)].take (1+r2)):=⟨_,upd_same,bR (fun t vs z=>s2 _ _ z) (fh _ p0)⟩;have s12:=s1.trans s2;generalize upd H1 l1 (.lst (v0.take (1+r2)))=H2 at s12 L1 ⊢;have okO:([([116],1+r1),([116,111,101],1)].take (1+r2):List Fld)=[([116],1+r1)]\/([([116],1+r1),([116,111,101],1)].take (1+r2):List Fld)=[([116],1+r1),([116,111,101],1)]:=by
  rcases (by omega:r2=0\/r2=1) with rfl | rfl
  ·exact .inl rfl
  ·exact .inr rfl
 generalize ([([116],1+r1),([116,111,101],1)].take (1+r2):List Fld)=os at L1 okO;have hos:1<=os.length/\os.length<=2:=by rcases okO with rfl | rfl <;> simp
 obtain ⟨v1,e1,p1⟩:=L1;have hv1:=p1.length;refine ⟨v1,.inl (SqL.of e1),?_⟩;refine aW (s12.seq hS) (by omega) (by omega) (by omega) (by omega) fun r3 hr3=>?_
 walk_at "rd";refine ⟨_,SqL.of e1,fun l2 hl2=>?_⟩;rw [iQ _ _ (by omega)];have s3:=ae hl2 (.lst (v1.take r3));refine aW ((s12.trans s3).seq hS) (by omega) (by omega) (by decide) (by decide) fun r4 hr4=>?_
 walk_at "rd";refine ⟨by decide,fun t3 ht3=>⟨by decide,fun l3 hl3=>?_⟩⟩;have k4:=ae ht3 (.tup [V.str (st [116,111]),V.int (1+(r4:Int))]);have k5:=ae hl3 (.lst [V.ref t3]);have k45:=k4.trans k5;have lt1:(v1.take r3).length=r3:=by rw [List.length_take]; omega
 refine ⟨_,_,k45 _ _ upd_same,upd_same,by rw [lt1,sizeLine_eq]; simp only [List.length_cons,List.length_nil]; omega,fun l4 hl4=>?_⟩;have k6:=ae hl4 (.lst (v1.take r3++[V.ref t3]));have k36:=s3.trans (k45.trans k6);refine ⟨_,SqL.of (k36 _ _ e1),fun l5 hl5=>?_⟩;rw [iF _ _ (by omega)];have k7:=ae hl5 (.lst (v1.drop r3));refine ⟨_,_,k7 _ _ upd_same,upd_same,by rw [List.length_append,lt1,List.length_drop,sizeLine_eq]; simp only [List.length_cons,List.length_nil]; omega,fun l6 hl6=>?_⟩;have k8:=ae hl6 (.lst (v1.take r3++[V.ref t3]++v1.drop r3));have k48:=k5.trans (k6.trans (k7.trans k8));have sA:=s12.trans (s3.trans (k4.trans k48));have hmem:∀ x ∈ os.take r3++[(toB,1+r4)]++os.drop r3,x ∈ os\/x=(toB,1+r4):=fun x hx=>by
  rcases List.mem_append.mp hx with hx | hx
  ·rcases List.mem_append.mp hx with hx | hx
   ·exact .inl (List.mem_of_mem_take hx)
   ·exact .inr (List.mem_singleton.mp hx)
  ·exact .inl (List.mem_of_mem_drop hx)
 have hlen:(os.take r3++[(toB,1+r4)]++os.drop r3).length=os.length+1:=by
  rw [List.length_append,List.length_append,List.length_take,List.length_drop];simp only [List.length_cons,List.length_nil];omega
 have hsz:∀ x ∈ os.take r3++[(toB,1+r4)]++os.drop r3,x.2<=3/\x.1≠padB:=fun x hx=>by
  rcases hmem x hx with z | rfl
  ·rcases okO with rfl | rfl
   ·rw [List.mem_singleton.mp z];exact ⟨by show 1+r1<=3; omega,by show ([116]:List Nat)≠padB; decide⟩
   ·rcases List.mem_cons.mp z with rfl | z
    ·exact ⟨by show 1+r1<=3; omega,by show ([116]:List Nat)≠padB; decide⟩
    ·rw [List.mem_singleton.mp z];exact ⟨by decide,by decide⟩
  ·exact ⟨by show 1+r4<=3; omega,by show toB≠padB; decide⟩
 refine q l6 _ (os.take r3++[(toB,1+r4)]++os.drop r3) (((s12.trans s3).trans (k4.trans (k5.trans (k6.trans k7)))).free hl6) sA ⟨_,upd_same,d0 (d0 (bR (fun t vs z=>(s3.trans (k4.trans k48)) _ _ z) (fh _ p1)) (.cons ⟨t3,rfl,?_⟩ .nil)) (bR (fun t vs z=>(s3.trans (k4.trans k48)) _ _ z) (hU _ p1))⟩ ⟨by omega,by omega,?_,⟨1+r4,by simp⟩,fun x hx=>Nat.le_trans (hsz x hx).1 (by decide)⟩ (by omega) hsz
 ·rw [k48 _ _ upd_same]
  push_cast
  rfl
 ·have pm:(os.take r3++[(toB,1+r4)]++os.drop r3).Perm ((toB,1+r4)::os):=by
   rw [List.append_assoc];refine List.perm_middle.trans ?_;show ((toB,1+r4)::(os.take r3++os.drop r3)).Perm _;rw [List.take_append_drop]
  rw [(pm.map (·.1)).nodup_iff];rcases okO with rfl | rfl
  ·show ([toB,[116]]:List (List Nat)).Nodup;decide
  ·show ([toB,[116],[116,111,101]]:List (List Nat)).Nodup;decide
noncomputable def d3 (K:Frag):Sp:=aC fun a=>bi fun k=>bi fun z=>aC fun d=>bd fun H Q _=>∃ (ns:List Int) (S:Nat) (ds:List (List Nat)),SqL K H a (ns.map V.int)/\0<=k/\k<=40000/\z=(S:Int)/\S<=100/\H d=some (.lst (ds.map tx))/\1<=ds.length/\ds.length<=100 /\
   ∀ p H' ws,H p=none->Same H H'->Ways H' p ws->ws.length<=5->Q (.ref p) H'
theorem j0 (T:Top K mg):Callee P w K mg base 3 "_law_ways" ["_law_script", "_law_k", "_law_size", "_law_doors"] (d3 K):=by
 refine T.h8.cal cP (by unfold d3; exact LenSp.h) (fun _ _ _ _ _ _ us hl=>match us,hl with | [_,_,_,_],_=>rfl) (fun f cdv A outer s H vs Q E hr h=>?_);unfold d3 at h;walk_at "el";refine ⟨_,(af (ar (i:=4) cP.nd rfl lc (aI ad))
   (af (dh PassesOwn.never rfl (aR rfl T.bD (av (ap T) hr.m rfl (aa (qv 0) (aa (qv 1) (aa ac ad))))) (ao (i:=5) cP.nd rfl lc) (af (ar (i:=6) cP.nd rfl lc (aU (slE K rfl) (av (jj T) hr.m rfl (aa (qv 0) (aa (ai ah (ai ah (qv 1) (ai bj ac (qv 5))) ac) (aa (qv 2) ad)))) bC (bo (av (ap T) hr.m rfl (aa (qv 0) (aa (ai ah (ai ah (qv 1) (ai bj ac (qv 5))) ac) (aa (ai ah (qv 2) ac) ad)))))))
   (ak (b9 (aV (notinE K rfl) (qv 6) (bn (nt:=1) (fi:=[]) (N':=["_law_way"]) rfl (cscope rfl (by decide +kernel)) (cnames (N:=["_law_script", "_law_k", "_law_size", "_law_doors", "_law_ways_here", "_law_j", "_law_signs_here"]) (sc:=defScope dC) rfl rfl (by decide +kernel)) (aS (by decide)) (iterE K rfl (qv 4)) (fun _ _ _ _ _=>(ao (i:=0) (by show (["_law_way"]:List Str).Nodup; decide +kernel) rfl lc)) (fun _ _ _ _ _=>aQ) (fun _ _ _ _ _=>(aj (ixE K rfl) (qv 0) ac (fun _ _=>rfl))))) (ak (aO (aD (qv 4) (aq (aa (qv 6) (aa (aj (ixE K rfl) (qv 3) (av (ap T) hr.m rfl (aa (qv 0) (aa (ai ah (ai ah (qv 1) (ai bj ac (qv 5))) ac) (aa (aB (lenE K rfl) rfl T.cq bL (aa (qv 3) ad)) ad)))) (fun _ _=>rfl)) ad)))))) aZ))))
   (ak (aF (qv 4))))),?_⟩
 rename_i a k z d;obtain ⟨ns,S,ds,hS,hk0,hk1,rfl,hSz,hd,hd1,hd2,q⟩:=h;walk_at "rd";refine ⟨Nat.zero_le _,fun g hg=>?_⟩;have s1:=ae hg (.lst []);refine aW (s1.seq hS) (by omega) (by omega) (by decide) (by decide) fun r1 hr1=>?_
 walk_at "rd";refine ⟨by omega,by omega,?_⟩;rw [Int.toNat_natCast];refine cB (lo:=0) (n:=r1) (fun i σ H'=>∃ (ws:List Way) (u5 u6:Option V),σ = [some (.ref a),some (.int k),some (nV S),some (.ref d),some (.ref g),u5,u6]/\Same H H'/\Ways H' g ws/\ws.length<=i)
  ⟨[],none,none,rfl,s1,⟨[],upd_same,.nil⟩,by simp⟩ ?_ ?_
 ·rintro i σ H1 hi ⟨ws,u5,u6,rfl,s2,hw,hwl⟩;walk_at "rd";have mul8:CMul 8 (i:Int):=.inl ⟨by decide,by decide⟩;refine ⟨mul8,ns,S,s2.seq hS,by omega,by omega,rfl,by omega,fun sg H2 s3 hsl=>⟨mul8,?_⟩⟩;have s23:=s2.trans s3;refine aW (s23.seq hS) (by omega) (by omega) (by omega) (by omega) fun r2 hr2=>?_
  walk_at "rd";refine ⟨by omega,by omega,by omega,?_⟩;rw [Int.toNat_natCast];generalize sg.take r2=bg;obtain ⟨vs,e1,pr⟩:=hw.same s3;have hvl:=pr.length;obtain ⟨z1,z2⟩:=aE pr;refine .inl ⟨⟨_,SqL.of e1⟩,fun D hD=>?_⟩;refine cV (item:=fun x:Way × V=>x.2) (xs:=ws.zip vs) (h:=fun x=>[tx x.1.1]) hD (by rw [z1]; exact SqL.of e1) (by rw [List.length_zip]; omega) (fun _=>by simp) ?_ ?_
  ·intro x H3 out non hx s5 ho _;obtain ⟨t,ex,et⟩:=z2 x hx;rw [ex];walk_at "rd";exact ⟨_,_,.inr (SqT.of (s5 _ _ et)),rfl,ho _ _ rfl (Same.refl _)⟩
  intro H3 s5 e3;rw [show (ws.zip vs).flatMap (fun x=>[tx x.1.1])=(ws.map (·.1)).map tx by
   rw [cz (fun x:Way × V=>tx x.1.1)]
   conv=>rhs; rw [<- bZ (l:=ws) (m:=vs) hvl,List.map_map,List.map_map]
   rfl] at e3
  have s25:=s23.trans s5;have e5:=s5 _ _ e1;walk_at "rd";refine ⟨_,.inl (SqL.of e3),rfl,io _,ite2 (fun _=>?_) fun _=>⟨ws,_,_,rfl,s25,(hw.same s3).same s5,by omega⟩⟩;have hd5:=s25 _ _ hd;refine ⟨⟨_,e5⟩,mul8,_,.inl (SqL.of hd5),?_⟩;rw [List.length_map];refine aW (s25.seq hS) (by omega) (by omega) (by omega) (by omega) fun r3 hr3=>?_
  obtain ⟨dv,hdv,edv⟩:=gg (l:=ds.map tx) (i:=r3) (by rw [List.length_map]; omega);obtain ⟨dn,hdn,rfl⟩:=List.mem_map.mp hdv;walk_at "rd";refine ⟨_,_,.inl (SqL.of hd5),edv,by decide,fun t ht=>?_⟩;have s6:=ae ht (.tup [tx bg,tx dn]);have e6:=s6 _ _ e5;refine ⟨vs,e6,sizeBig (by omega),ws++[(bg,dn)],_,_,rfl,aL (s25.trans s6) hg,⟨_,upd_same,?_⟩,by rw [List.length_append]; simp only [List.length_cons,List.length_nil]; omega⟩;exact aw (aM (bO e6) (aM (fun t vs z=>s6 _ _ z) (aM (fun t vs z=>s5 _ _ z) pr))) ⟨t,rfl,bO e6 _ _ upd_same⟩
 ·rintro σ H1 ⟨ws,u5,u6,rfl,s2,hw,hwl⟩;walk_at "rd";exact q g H1 ws hg s2 hw (by omega)
theorem ko:∀ l:List (Fld × V),(∃ x ∈ l,x.1.1=toB)->(∀ x ∈ l,x.1.2<=3)->∃ (m:Nat) (rest:List V),(l.flatMap fun x=>if decide (x.1.1=toB)=true then [V.int x.1.2] else [])=V.int m::rest/\m<=3
 | [],⟨_,h,_⟩,_=>by cases h
 | x::l,h,hz=>by
  rw [List.flatMap_cons];by_cases g:x.1.1=toB
  ·rw [if_pos (decide_eq_true g)];exact ⟨x.1.2,_,rfl,hz x List.mem_cons_self⟩
  ·rw [if_neg (fun z=>g (of_decide_eq_true z)),List.nil_append];refine ko l ?_ fun y hy=>hz y (List.mem_cons_of_mem _ hy)
   obtain ⟨y,hy,e⟩:=h;rcases List.mem_cons.mp hy with rfl | hy
   ·exact absurd e g
   ·exact ⟨y,hy,e⟩
structure HouseB (hs:House):Prop where
 nd:(hs.1.map (·.1)).Nodup
 g1:1<=hs.1.length
 g3:hs.1.length<=3
 rl:∀ x ∈ hs.1,x.2.length<=3
 w5:hs.2.length<=5
def HouseS (hs:House):Prop:=∀ x ∈ hs.1,∀ r ∈ x.2,r.1.length<=100/\r.2.1.length<=4/\r.2.2.length<=100
noncomputable def dD (K:Frag):Sp:=aC fun a=>bi fun k=>aC fun l=>aC fun d=>bi fun sh=>bd fun H Q _=>∃ (ns:List Int) (ls:List Fld) (ds:List (List Nat)),SqL K H a (ns.map V.int)/\0<=k/\k<=20000/\Lay H l ls/\LayB ls/\(∀ x ∈ ls,x.2<=3)/\H d=some (.lst (ds.map tx))/\ds.Nodup/\1<=ds.length/\ds.length<=3/\0<=sh/\sh<=1000 /\
   ∀ q g w H' hs,H q=none->H g=none->H w=none->Same H H'->HouseN (fun r=>H r=none) H' q g w hs->HouseB hs->HouseS hs->hs.1.map (·.1)=ds->Q (.ref q) H'
theorem fJ (T:Top K mg):Callee P w K mg base 4 "_law_house" ["_law_script", "_law_k", "_law_layout_here", "_law_doors", "_law_shift"] (dD K):=by
 refine T.gP.cal bA (by unfold dD; exact LenSp.h) (fun _ _ _ _ _ _ us hl=>match us,hl with | [_,_,_,_,_],_=>rfl) (fun f cdv A outer s H vs Q E hr h=>?_);unfold dD at h;walk_at "el";refine ⟨_,(af (ar (i:=5) bA.nd rfl lc (aB (mY K rfl rfl) rfl T.rh r6 (aa (bn (nt:=1) (fi:=[]) (N':=["_law_pair"]) rfl (cscope rfl (by decide +kernel)) (cnames (N:=["_law_script", "_law_k", "_law_layout_here", "_law_doors", "_law_shift", "_law_width", "_law_gates", "_law_j", "_law_here", "_law_many", "_law_size"]) (sc:=defScope bP) rfl rfl (by decide +kernel)) (aS (by decide)) (iterE K rfl (qv 2)) (fun _ _ _ _ _=>(ao (i:=0) (by show (["_law_pair"]:List Str).Nodup; decide +kernel) rfl lc)) (fun _ _ _ _ _=>aQ) (fun _ _ _ _ _=>(aj (ixE K rfl) (qv 0) ac (fun _ _=>rfl)))) ad)))
   (af (ar (i:=6) bA.nd rfl lc (aI ad))
   (af (dh PassesOwn.never rfl (aR rfl T.bD (aB (lenE K rfl) rfl T.cq bL (aa (qv 3) ad))) (ao (i:=7) bA.nd rfl lc) (af (ar (i:=8) bA.nd rfl lc (ai ah (ai ah (qv 1) ac) (ai bj ac (qv 7))))
   (af (ar (i:=9) bA.nd rfl lc (aj (ixE K rfl) (aI (aa ac (aa ac (aa ac (aa ac ad))))) (av (ap T) hr.m rfl (aa (qv 0) (aa (ai ah (ai ah (qv 1) ac) (qv 7)) (aa ac ad)))) (fun _ _=>rfl)))
   (ak (aO (aD (qv 6) (aq (aa (aj (ixE K rfl) (qv 3) (qv 7) (fun _ _=>rfl)) (aa (bn (nt:=1) (fi:=[0,5,4,8]) (N':=["_law_i", "_law_script", "_law_width", "_law_shift", "_law_here"]) rfl (cscope rfl (by decide +kernel)) (cnames (N:=["_law_script", "_law_k", "_law_layout_here", "_law_doors", "_law_shift", "_law_width", "_law_gates", "_law_j", "_law_here", "_law_many", "_law_size"]) (sc:=defScope bP) rfl rfl (by decide +kernel)) (aS (by decide)) (aR rfl T.bD (qv 9)) (fun _ _ _ _ _=>(ao (i:=0) (by show (["_law_i", "_law_script", "_law_width", "_law_shift", "_law_here"]:List Str).Nodup; decide +kernel) rfl lc)) (fun _ _ _ _ _=>aQ) (fun _ _ _ _ _=>(av (j5 T) hr.m rfl (aa (qv 1) (aa (ai ah (qv 4) (ai bj ac (qv 0))) (aa (qv 2) (aa (qv 3) ad))))))) ad)))))))))
   (af (ar (i:=10) bA.nd rfl lc (aj (ixE K rfl) (bn (nt:=1) (fi:=[]) (N':=["_law_pair"]) rfl (cscope rfl (by decide +kernel)) (cnames (N:=["_law_script", "_law_k", "_law_layout_here", "_law_doors", "_law_shift", "_law_width", "_law_gates", "_law_j", "_law_here", "_law_many", "_law_size"]) (sc:=defScope bP) rfl rfl (by decide +kernel)) (aS (by decide)) (iterE K rfl (qv 2)) (fun _ _ _ _ _=>(ao (i:=0) (by show (["_law_pair"]:List Str).Nodup; decide +kernel) rfl lc)) (fun _ _ _ _ _=>(ir (aV gf (aj (ixE K rfl) (qv 0) ac (fun _ _=>rfl)) (qs [116,111])))) (fun _ _ _ _ _=>(aj (ixE K rfl) (qv 0) ac (fun _ _=>rfl)))) ac (fun _ _=>rfl)))
   (ak (aF (aq (aa (qv 6) (aa (av (j0 T) hr.m rfl (aa (qv 0) (aa (qv 1) (aa (qv 10) (aa (qv 3) ad))))) ad))))))))),?_⟩
 rename_i a k l d sh;obtain ⟨ns,ls,ds,hS,hk0,hk1,hL,ok,hz,hd,hdn,hd1,hd3,hs0,hs1,q⟩:=h;obtain ⟨vl,el,pl⟩:=id hL;have hll:=pl.length;have few:=ok.few;obtain ⟨z1,z2⟩:=aE pl;walk_at "rd";refine .inl ⟨⟨_,SqL.of el⟩,fun D hD=>?_⟩;refine cV (item:=fun x:Fld × V=>x.2) (xs:=ls.zip vl) (h:=fun x=>[V.int x.1.2]) hD (by rw [z1]; exact SqL.of el) (by rw [List.length_zip]; omega) (fun _=>by simp) ?_ ?_
 ·intro x H1 out non hx s1 ho _;obtain ⟨t,ex,et⟩:=z2 x hx;rw [ex];walk_at "rd";exact ⟨_,_,.inr (SqT.of (s1 _ _ et)),rfl,ho _ _ rfl (Same.refl _)⟩
 intro H1 s1 e1;rw [show (ls.zip vl).flatMap (fun x=>[V.int x.1.2])=((ls.map (·.2)).map fun n:Nat=>(n:Int)).map V.int by
  rw [cz (fun x:Fld × V=>V.int x.1.2)]
  conv=>rhs; rw [<- bZ (l:=ls) (m:=vl) hll,List.map_map,List.map_map,List.map_map]
  rfl] at e1
 refine ⟨_,SqL.of e1,?_⟩;have hwid:∃ W:Nat,((ls.map (·.2)).map fun n:Nat=>(n:Int)).sum=(W:Int)/\W<=12:=by
  have key:∀ l:List Fld,(∀ x ∈ l,x.2<=3)->∃ W:Nat,((l.map (·.2)).map fun n:Nat=>(n:Int)).sum=(W:Int)/\W<=3*l.length:=by
   intro l
   induction l with
   | nil=>exact fun _=>⟨0,rfl,Nat.le_refl _⟩
   | cons x l ih=>
    intro h;obtain ⟨W,e,hW⟩:=ih fun y hy=>h y (List.mem_cons_of_mem _ hy)
    have:=h x List.mem_cons_self;refine ⟨x.2+W,?_,by rw [List.length_cons]; omega⟩;rw [List.map_cons,List.map_cons,List.sum_cons,e]
    push_cast
    rfl
  obtain ⟨W,e,hW⟩:=key ls hz;exact ⟨W,e,by omega⟩
 obtain ⟨W,eW,hW⟩:=hwid;rw [eW];walk_at "rd";refine ⟨Nat.zero_le _,fun gl hgl=>⟨_,.inl (SqL.of ((s1.trans (ae hgl (.lst []))) _ _ hd)),?_⟩⟩;rw [List.length_map];refine ⟨by omega,by omega,?_⟩;rw [Int.toNat_natCast];have sg:=ae hgl (.lst []);refine cB (lo:=0) (n:=ds.length) (fun i σ H'=>∃ (gs:List Gate) (vs:List V) (u7 u8 u9:Option V),σ = [some (.ref a),some (.int k),some (.ref l),some (.ref d),some (.int sh),some (nV W),some (.ref gl),u7,u8,u9,none]/\Same H1 H'/\H' gl=some (.lst vs)/\Paired (GateB gl (fun r=>H r=none) H') gs vs/\gs.map (·.1)=ds.take i/\(∀ x ∈ gs,x.2.length<=3)/\∀ x ∈ gs,∀ r ∈ x.2,RuleW W r)
  ⟨[],[],none,none,none,rfl,sg,upd_same,.nil,by simp,fun x hx=>by simp at hx,fun x hx=>by simp at hx⟩ ?_ ?_
 ·rintro i σ H2 hi ⟨gs,vs,u7,u8,u9,rfl,s2,eg,pg,hgd,hgl3,hgr⟩;walk_at "rd";have m60:CMul 60 (i:Int):=.inl ⟨by decide,by decide⟩;refine ⟨m60,by decide,fun c1 hc1=>?_⟩;have s3:=ae hc1 (.lst [V.int 2,V.int 1,V.int 0,V.int 3]);have s13:=s1.trans (s2.trans s3);refine aW (s13.seq hS) (by omega) (by omega) (by decide) (by decide) fun r1 hr1=>?_
  obtain ⟨c,hc,ec⟩:=oO (cs:=[2,1,0,3]) (B:=3) (vs:=[V.int 2,V.int 1,V.int 0,V.int 3]) rfl (by decide) (i:=r1) (by show r1 < 4; omega);walk_at "rd";refine ⟨_,_,.inl (SqL.of upd_same),ec,?_⟩;walk_at "rd";have eg3:=s3 _ _ eg;refine ⟨⟨_,eg3⟩,_,tx ds[i],.inl (SqL.of (s13 _ _ hd)),bw (by rw [List.getElem?_map,List.getElem?_eq_getElem hi]; rfl),by omega,by omega,fun R hR=>?_⟩;rw [Int.toNat_natCast];refine dS (lo:=0) (n:=c) (fun _ v H'=>∃ r:Rule,RuleW W r/\RuleAt H' r v) hR (by omega) ?_ ?_ ?_
  ·rintro x v H7 H8 acc hd' k' ⟨r,hr,t',rfl,et⟩;exact ⟨r,hr,t',rfl,k' t' _ (fun z=>by rw [z,hd'] at et; cases et) et⟩
  ·intro j H3 out non hj s4 ho;walk_at "rd";exact ⟨.inl ⟨by decide,by decide⟩,ns,W,(s13.trans s4).seq hS,by omega,by omega,rfl,by omega,hs0,hs1,fun t H4 r ht s5 e5 hr=>ho _ _ s5 ⟨r,hr,t,rfl,e5⟩⟩
  intro H3 us s4 e4 p4;obtain ⟨rs,pr4,hrl,hrok⟩:=dL p4;rw [List.length_range] at hrl;refine ⟨by decide,fun t ht=>?_⟩;have s5:=ae ht (.tup [tx ds[i],.ref R]);have eg5:=s5 _ _ (s4 _ _ eg3);have hvl:=pg.length;have hgl2:gs.length=i:=by
   have:=congrArg List.length hgd;rw [List.length_map,List.length_take] at this;omega
  have nRg:R≠gl:=fun z=>by rw [z,eg3] at hR; cases hR
  refine ⟨vs,eg5,sizeBig (by omega),gs++[(ds[i],rs)],_,_,_,_,rfl,aL (s2.trans (s3.trans (s4.trans s5))) hgl,upd_same,?_,?_,fun x hx=>?_,fun x hx=>?_⟩
  ·exact aw (mZ eg5 (lf (s3.trans (s4.trans s5)) pg)) ⟨t,R,rfl,⟨nRg,s13.free hR⟩,bO eg5 _ _ upd_same,jG eg5 nRg (Rules.same ⟨us,e4,pr4⟩ s5)⟩
  ·rw [List.map_append,hgd,List.take_add_one,List.getElem?_eq_getElem hi];rfl
  ·rcases List.mem_append.mp hx with z | z
   ·exact hgl3 x z
   ·rw [List.mem_singleton.mp z];show rs.length<=3;omega
  ·rcases List.mem_append.mp hx with z | z
   ·exact hgr x z
   ·rw [List.mem_singleton.mp z];exact hrok
 ·rintro σ H2 ⟨gs,vs,u7,u8,u9,rfl,s2,eg,pg,hgd,hgl3,hgr⟩;rw [List.take_length] at hgd;have s12:=s1.trans s2;have el2:=s12 _ _ el;walk_at "rd";refine .inl ⟨⟨_,SqL.of el2⟩,fun D2 hD2=>?_⟩;refine cV (item:=fun x:Fld × V=>x.2) (xs:=ls.zip vl) (h:=fun x=>if decide (x.1.1=toB)=true then [V.int x.1.2] else []) hD2 (by rw [z1]; exact SqL.of el2) (by rw [List.length_zip]; omega) (fun _=>by split <;> simp) ?_ ?_
  ·intro x H3 out non hx s3 ho hno;obtain ⟨t,ex,et⟩:=z2 x hx;rw [ex];have et3:=s3 _ _ (s12 _ _ et);walk_at "rd";refine ⟨_,_,.inr (SqT.of et3),rfl,?_⟩;walk_at "rd";exact ite2 (fun g=>⟨_,_,.inr (SqT.of et3),rfl,ho _ _ (if_pos (decide_eq_true g)) (Same.refl _)⟩) fun g=>hno _ (if_neg (fun z=>g (of_decide_eq_true z))) (Same.refl _)
  intro H3 s3 e3;obtain ⟨m,rest,er,hm⟩:=ko (ls.zip vl) (by
   obtain ⟨n,hn⟩:=ok.to;rw [<- bZ (l:=ls) (m:=vl) hll] at hn;obtain ⟨x,hx,e⟩:=List.mem_map.mp hn;exact ⟨x,hx,by rw [e]⟩) fun x hx=>hz x.1 (List.of_mem_zip hx).1
  rw [er] at e3;have s13:=s12.trans s3;walk_at "rd";refine ⟨_,V.int m,.inl (SqL.of e3),show atI _ ((0:Nat):Int)=_ from bw rfl,ns,m,ds,s13.seq hS,hk0,by omega,rfl,by omega,s13 _ _ hd,hd1,by omega,fun wp H4 ws hwp s4 hw hwl=>⟨by decide,fun t ht=>?_⟩⟩;have s5:=ae ht (.tup [V.ref gl,V.ref wp]);have s35:=s3.trans (s4.trans s5);have hgs:gs.length=ds.length:=by rw [<- hgd,List.length_map]
  refine q t gl wp _ (gs,ws) ((s13.trans s4).free ht) (s1.free hgl) (s13.free hwp) (s13.trans (s4.trans s5)) ⟨upd_same,fun z=>(by rw [<- z,s3 _ _ eg] at hwp; cases hwp),⟨vs,s35 _ _ eg,L2.Paired.mapP pg ?_⟩,hw.same s5⟩ ⟨?_,by show 1<=gs.length; omega,by show gs.length<=3; omega,hgl3,hwl⟩ (fun x hx r hr=>?_) hgd
  ·rintro x v ⟨t',r,rfl,n,h1,h2⟩;refine ⟨t',r,rfl,⟨n.1,fun z=>?_,n.2⟩,s35 _ _ h1,h2.same s35⟩;obtain ⟨us,eu,_⟩:=h2;have:=s3 _ _ eu;rw [z,hwp] at this;cases this
  ·show (gs.map (·.1)).Nodup;rw [hgd];exact hdn
  ·have:=hgr x hx r hr;exact ⟨by rw [this.row]; omega,this.word,by rw [this.over]; omega⟩
theorem iZ:∀ {ls:List Line},(endsOf ls).Nodup->∀ x ∈ ls,x.1≠x.2
 | [],_,_,h=>by cases h
 | y::ls,h,x,hx=>by
  have e:endsOf (y::ls)=y.1::y.2::endsOf ls:=rfl;rw [e,List.nodup_cons,List.nodup_cons] at h;rcases List.mem_cons.mp hx with rfl | hx
  ·exact fun z=>h.1 (by rw [z]; exact List.mem_cons_self)
  ·exact iZ h.2.2 x hx
noncomputable def dM (K:Frag):Sp:=aC fun a=>bi fun k=>aC fun p=>bi fun z=>bd fun H Q _=>∃ (ns:List Int) (ss:List Way),SqL K H a (ns.map V.int)/\0<=k/\k<=40000/\z=0/\Ways H p ss/\ss.Nodup/\1<=ss.length/\ss.length<=12 /\
   ∀ q H' ls,H q=none->Same H H'->Lines H' q ls->(∀ x ∈ ls,x.1≠x.2)->ls.length<=6->Q (.ref q) H'
theorem jd (T:Top K mg):Callee P w K mg base 2 "_law_lines" ["_law_script", "_law_k", "_law_spots_here", "_law_spare"] (dM K):=by
 refine T.gJ.cal bI (by unfold dM; exact LenSp.h) (fun _ _ _ _ _ _ us hl=>match us,hl with | [_,_,_,_],_=>rfl) (fun f cdv A outer s H vs Q E hr h=>?_);unfold dM at h;walk_at "el";refine ⟨_,(af (ar (i:=4) bI.nd rfl lc (bH (bB K rfl rfl) rfl T.cD ck (aa (qv 2) ad)))
   (af (ar (i:=5) bI.nd rfl lc (ai oG (aB (iN rfl) rfl T.pf oP (aa ac (aa (ai qa (aB (lenE K rfl) rfl T.cq bL (aa (qv 2) ad)) (qv 3)) ad))) ac))
   (af (ar (i:=6) bI.nd rfl lc (aI ad))
   (af (dh PassesOwn.never rfl (aR rfl T.bD (aB (iN rfl) rfl T.pf oP (aa (av (ap T) hr.m rfl (aa (qv 0) (aa (qv 1) (aa (ai ah ac (qv 5)) ad)))) (aa (av (ap T) hr.m rfl (aa (qv 0) (aa (ai ah (qv 1) ac) (aa (ai ah ac (qv 5)) ad)))) ad)))) (ao (i:=7) bI.nd rfl lc) (af (ar (i:=8) bI.nd rfl lc (kL (qv 4) (av (ap T) hr.m rfl (aa (qv 0) (aa (ai ah (ai ah (qv 1) (ai bj ac (qv 7))) ac) (aa (aB (lenE K rfl) rfl T.cq bL (aa (qv 4) ad)) ad))))))
   (ak (aO (aD (qv 6) (aq (aa (qv 8) (aa (kL (qv 4) (av (ap T) hr.m rfl (aa (qv 0) (aa (ai ah (ai ah (qv 1) (ai bj ac (qv 7))) ac) (aa (aB (lenE K rfl) rfl T.cq bL (aa (qv 4) ad)) ad))))) ad))))))))
   (ak (aF (qv 6))))))),?_⟩
 rename_i a k p z0;obtain ⟨ns,sp,hS,hk0,hk1,rfl,⟨vs,e0,pr⟩,hnd,hl1,hl,q⟩:=h;have hvl:=pr.length;walk_at "rd";refine ⟨_,.inl (SqL.of e0),fun P hP=>?_⟩;have s1:=ae hP (.lst vs);refine ⟨_,.inl (SqL.of (s1 _ _ e0)),?_⟩;refine ⟨Nat.zero_le _,fun c hc=>?_⟩;have s2:=s1.trans (ae hc (.lst []));have eP:=ae hc (.lst []) _ _ (show upd H P (.lst vs) P=some (.lst vs) from upd_same);have ncP:c≠P:=fun z=>by rw [z,upd_same] at hc; cases hc
 have hc0:=s1.free hc;obtain ⟨hm,ehm⟩:∃ x:Nat,(if (0:Int) < (vs.length:Int) - 0 then (vs.length:Int) - 0 else 0) / 2=(x:Int):=⟨vs.length / 2,by split <;> omega⟩;have hm2:2*hm<=vs.length:=by
  split at ehm <;> omega
 rw [ehm];refine aW (s2.seq hS) (by omega) (by omega) (by omega) (by omega) fun r1 hr1=>?_
 refine aW (s2.seq hS) (by omega) (by omega) (by omega) (by omega) fun r2 hr2=>?_
 walk_at "rd";obtain ⟨z,ez,hz⟩:∃ z:Nat,(if (r1:Int) < (r2:Int) then (r2:Int) else (r1:Int))=(z:Int)/\2*z<=vs.length:=by
  split
  ·exact ⟨r2,rfl,by omega⟩
  ·exact ⟨r1,rfl,by omega⟩
 rw [ez,Int.toNat_natCast];refine ⟨by omega,by omega,?_⟩;have nPc:P≠c:=Ne.symm ncP;refine cB (lo:=0) (n:=z) (fun i σ H'=>∃ (rest:List Way) (pv:List V) (ls:List Line) (cv:List V) (u5 u6:Option V),σ = [some (.ref a),some (.int k),some (.ref p),some (.int 0),some (.ref P),some (nV hm),some (.ref c),u5,u6]/\Same H H'/\H' P=some (.lst pv)/\Paired (WayAt H') rest pv/\H' c=some (.lst cv)/\Paired (LineAt H') ls cv/\(endsOf ls++rest).Perm sp/\rest.length+2*i=sp.length/\ls.length=i)
  ⟨sp,vs,[],[],none,none,rfl,s2,eP,aM (fun t us z=>s2 _ _ z) pr,upd_same,.nil,List.Perm.refl _,by omega,rfl⟩ ?_ ?_
 ·rintro i σ H1 hi ⟨rest,pv,ls,cv,u5,u6,rfl,s3,e3,p3,e4,p4,hperm,hrl,hll⟩;have l3:=p3.length;have l4:=p4.length;have mul2:CMul 2 (i:Int):=.inl ⟨by decide,by decide⟩;walk_at "rd";refine ⟨⟨_,e3⟩,mul2,_,.inl (SqL.of e3),aW (s3.seq hS) (by omega) (by omega) (by omega) (by omega) fun r3 hr3=>?_⟩;have h3:r3 < pv.length:=by omega
  have h3r:r3 < rest.length:=by omega
  refine ⟨pv,r3,pv[r3],rfl,e3,by omega,List.getElem?_eq_getElem h3,?_⟩;obtain ⟨y1,hy1,w1⟩:=bp p3 (List.getElem?_eq_getElem h3r);rw [List.getElem?_eq_getElem h3] at hy1;cases hy1;have p5:=ee r3 p3;have le1:(pv.eraseIdx r3).length=pv.length - 1:=List.length_eraseIdx_of_lt h3;have le2:(rest.eraseIdx r3).length=rest.length - 1:=List.length_eraseIdx_of_lt h3r;have s4:Same H (upd H1 P (.lst (pv.eraseIdx r3))):=aL s3 hP;have e5:upd H1 P (.lst (pv.eraseIdx r3)) P=some (.lst (pv.eraseIdx r3)):=upd_same;have e6:upd H1 P (.lst (pv.eraseIdx r3)) c=some (.lst cv):=by rw [au ncP]; exact e4
  have k4:∀ t us,H1 t=some (.tup us)->upd H1 P (.lst (pv.eraseIdx r3)) t=some (.tup us):=bO e3;generalize upd H1 P (.lst (pv.eraseIdx r3))=H2 at s4 e5 e6 k4 ⊢;walk_at "rd";refine ⟨⟨_,e6⟩,⟨_,e5⟩,mul2,_,.inl (SqL.of e5),aW (s4.seq hS) (by omega) (by omega) (by omega) (by omega) fun r4 hr4=>?_⟩;have h4:r4 < (pv.eraseIdx r3).length:=by omega
  have h4r:r4 < (rest.eraseIdx r3).length:=by omega
  refine ⟨_,r4,(pv.eraseIdx r3)[r4],rfl,e5,by omega,List.getElem?_eq_getElem h4,by decide,fun t5 ht5=>?_⟩;obtain ⟨y2,hy2,w2⟩:=bp p5 (List.getElem?_eq_getElem h4r);rw [List.getElem?_eq_getElem h4] at hy2;cases hy2;have p6:=ee r4 p5;have s5:Same H (upd H2 P (.lst ((pv.eraseIdx r3).eraseIdx r4))):=aL s4 hP;have e7:upd H2 P (.lst ((pv.eraseIdx r3).eraseIdx r4)) P=some (.lst ((pv.eraseIdx r3).eraseIdx r4)):=upd_same;have e8:upd H2 P (.lst ((pv.eraseIdx r3).eraseIdx r4)) c=some (.lst cv):=by rw [au ncP]; exact e6
  have k5:∀ t us,H2 t=some (.tup us)->upd H2 P (.lst ((pv.eraseIdx r3).eraseIdx r4)) t=some (.tup us):=bO e5;generalize upd H2 P (.lst ((pv.eraseIdx r3).eraseIdx r4))=H3 at s5 e7 e8 k5 ht5 ⊢;have s6:=ae ht5 (.tup [pv[r3],(pv.eraseIdx r3)[r4]]);have e9:=s6 _ _ e8;have kk:∀ t us,H1 t=some (.tup us)->upd (upd H3 t5 (.tup [pv[r3],(pv.eraseIdx r3)[r4]])) c (.lst (cv++[.ref t5])) t=some (.tup us):=fun t us z=>bO e9 _ _ (s6 _ _ (k5 _ _ (k4 _ _ z)))
  have nc5:c≠t5:=fun z=>by rw [<- z,e8] at ht5; cases ht5
  refine ⟨cv,e9,sizeBig (by omega),(rest.eraseIdx r3).eraseIdx r4,(pv.eraseIdx r3).eraseIdx r4,ls++[(rest[r3],(rest.eraseIdx r3)[r4])],cv++[.ref t5],_,_,rfl,aL (s5.trans s6) hc0,?_,aM kk p6,upd_same,?_,?_,?_,by rw [List.length_append,hll]; rfl⟩
  ·rw [au nPc];exact s6 _ _ e7
  ·refine aw (L2.Paired.mapP p4 fun _ _ y=>cu kk y) ⟨t5,_,_,rfl,bO e9 _ _ upd_same,?_,?_⟩
   ·obtain ⟨ta,ea,ha⟩:=w1;exact ⟨ta,ea,kk _ _ ha⟩
   ·obtain ⟨ta,ea,ha⟩:=w2;exact ⟨ta,ea,kk _ _ ha⟩
  ·refine List.Perm.trans ?_ hperm;unfold endsOf;rw [List.flatMap_append,List.append_assoc];refine List.Perm.append_left _ ?_;show (rest[r3]::(rest.eraseIdx r3)[r4]::(rest.eraseIdx r3).eraseIdx r4).Perm rest;exact ((fZ h4r).cons _).trans (fZ h3r)
  ·have:((rest.eraseIdx r3).eraseIdx r4).length=(rest.eraseIdx r3).length - 1:=List.length_eraseIdx_of_lt h4r;omega
 ·rintro σ H1 ⟨rest,pv,ls,cv,u5,u6,rfl,s3,e3,p3,e4,p4,hperm,hrl,hll⟩;walk_at "rd";refine q c H1 ls hc0 s3 ⟨cv,e4,p4⟩ (iZ (List.nodup_append.mp (hperm.nodup_iff.mpr hnd)).1) (by omega)
def NamedF (A B:Addr) (H:Hp) (x:Named) (v:V):Prop:=∃ t q g w,v=.ref t/\H t=some (.tup [tx x.1,.ref q])/\HouseN (fun r=>r≠A/\r≠B) H q g w x.2/\(g≠A/\g≠B)/\w≠A/\w≠B
theorem dB {A B:Addr} {H H':Hp} (kt:∀ t vs,H t=some (.tup vs)->H' t=some (.tup vs)) (kl:∀ r vs,r≠A->r≠B->H r=some (.lst vs)->H' r=some (.lst vs)) {hs:List Named} {vs:List V} (h:Paired (NamedF A B H) hs vs):Paired (NamedF A B H') hs vs:=by
 refine L2.Paired.mapP h ?_;rintro x v ⟨t,q,g,w,e,et,hN,ng,nw⟩;obtain ⟨gv,eg,pg⟩:=hN.gates;obtain ⟨wv,ew,pw⟩:=hN.ways;refine ⟨t,q,g,w,e,kt _ _ et,⟨kt _ _ hN.tup,hN.ne,⟨gv,kl _ _ ng.1 ng.2 eg,L2.Paired.mapP pg ?_⟩,⟨wv,kl _ _ nw.1 nw.2 ew,aM kt pw⟩⟩,ng,nw⟩;rintro y u ⟨t2,r,e2,n2,h1,⟨rv,er,pr⟩⟩;exact ⟨t2,r,e2,n2,kt _ _ h1,⟨rv,kl _ _ n2.2.2.1 n2.2.2.2 er,bz kt pr⟩⟩
theorem mD {A B:Addr} {H:Hp} {hs:List Named} {vs:List V} (h:Paired (NamedF A B H) hs vs):Paired (NamedAt H) hs vs:=L2.Paired.mapP h fun _ _ ⟨t,q,_,_,e,et,hN,_⟩=>⟨t,q,e,et,hN.at⟩
theorem ge {F G:Addr->Prop} {H:Hp} {q g w:Addr} {hs:House} (h:HouseN F H q g w hs) (k:∀ r,F r->G r):HouseN G H q g w hs:=by
 obtain ⟨gv,eg,pg⟩:=h.gates;exact ⟨h.tup,h.ne,⟨gv,eg,L2.Paired.mapP pg fun _ _ ⟨t,r,e,n,h1,h2⟩=>⟨t,r,e,⟨n.1,n.2.1,k _ n.2.2⟩,h1,h2⟩⟩,h.ways⟩
structure NetB (N:Net):Prop where
 lay:LayB N.1
 nd:(N.2.1.map (·.1)).Nodup
 h1:1<=N.2.1.length
 h4:N.2.1.length<=4
 low:∀ x ∈ N.2.1,Low x.1/\1<=x.1.length/\x.1.length<=8
 house:∀ x ∈ N.2.1,HouseB x.2
 ends:∀ x ∈ N.2.2,x.1≠x.2
 l6:N.2.2.length<=6
noncomputable def eO (K:Frag):Sp:=aC fun a=>bi fun k=>bi fun m=>bi fun z=>bd fun H Q _=>∃ (ns:List Int),SqL K H a (ns.map V.int)/\0<=k/\k<=10000/\1<=m/\m<=4/\z=0 /\
   ∀ q H' N,H q=none->Same H H'->NetAt H' q N->NetB N->(∀ x ∈ N.1,x.2<=3/\x.1≠padB)->N.1.length<=3->(∀ x ∈ N.2.1,HouseS x.2)->Q (.ref q) H'
theorem kC (T:Top K mg):Callee P w K mg base 5 "_law_net" ["_law_script", "_law_k", "_law_most", "_law_spare"] (eO K):=by
 refine T.i8.cal bF (by unfold eO; exact LenSp.h) (fun _ _ _ _ _ _ us hl=>match us,hl with | [_,_,_,_],_=>rfl) (fun f cdv A outer s H vs Q E hr h=>?_);unfold eO at h;walk_at "el";refine ⟨_,(af (ar (i:=4) bF.nd rfl lc (av (iO T) hr.m rfl (aa (qv 0) (aa (qv 1) ad))))
   (af (ar (i:=5) bF.nd rfl lc (av (fL T) hr.m rfl (aa (qv 0) (aa (ai ah (qv 1) ac) (aa (ai ah ac (av (ap T) hr.m rfl (aa (qv 0) (aa (ai ah (qv 1) ac) (aa (qv 2) ad))))) ad)))))
   (af (ar (i:=6) bF.nd rfl lc (av (fL T) hr.m rfl (aa (qv 0) (aa (ai ah (qv 1) ac) (aa ac ad)))))
   (af (ar (i:=7) bF.nd rfl lc (aI ad))
   (af (ar (i:=8) bF.nd rfl lc (aI ad))
   (af (dh PassesOwn.never rfl (aR rfl T.bD (aB (lenE K rfl) rfl T.cq bL (aa (qv 5) ad))) (ao (i:=9) bF.nd rfl lc) (af (ar (i:=10) bF.nd rfl lc (aU (slE K rfl) (qv 6) bC (bo (ai ah ac (av (ap T) hr.m rfl (aa (qv 0) (aa (ai ah (ai ah (qv 1) ac) (qv 9)) (aa ac ad))))))))
   (af (aO (aD (qv 7) (aq (aa (aj (ixE K rfl) (qv 5) (qv 9) (fun _ _=>rfl)) (aa (av (fJ T) hr.m rfl (aa (qv 0) (aa (ai ah (ai ah (qv 1) ac) (ai bj ac (qv 9))) (aa (qv 4) (aa (qv 10) (aa (av (ap T) hr.m rfl (aa (qv 0) (aa (ai ah (qv 1) ac) (aa ac ad)))) ad)))))) ad)))))
   (ak (aO (mU (qv 8) (bn (nt:=1) (fi:=[5,9]) (N':=["_law_door", "_law_names_here", "_law_j"]) rfl (cscope rfl (by decide +kernel)) (cnames (N:=["_law_script", "_law_k", "_law_most", "_law_spare", "_law_layout_here", "_law_names_here", "_law_doors", "_law_houses", "_law_spots_here", "_law_j", "_law_own"]) (sc:=defScope d9) rfl rfl (by decide +kernel)) (aS (by decide)) (iterE K rfl (qv 10)) (fun _ _ _ _ _=>(ao (i:=0) (by show (["_law_door", "_law_names_here", "_law_j"]:List Str).Nodup; decide +kernel) rfl lc)) (fun _ _ _ _ _=>aQ) (fun _ _ _ _ _=>(aq (aa (aj (ixE K rfl) (qv 1) (qv 2) (fun _ _=>rfl)) (aa (qv 0) ad)))))))))))
   (ak (aF (aq (aa (qv 4) (aa (qv 7) (aa (av (jd T) hr.m rfl (aa (qv 0) (aa (ai ah (qv 1) ac) (aa (qv 8) (aa (qv 3) ad))))) ad)))))))))))),?_⟩
 rename_i a k m z;obtain ⟨ns,hS,hk0,hk1,hm1,hm4,rfl,q⟩:=h;walk_at "rd";refine ⟨ns,hS,hk0,by omega,fun l H1 ls hl s1 hL lok hl3 hsz=>?_⟩;walk_at "rd";refine aW (s1.seq hS) (by omega) (by omega) (by omega) (by omega) fun r1 hr1=>?_
 walk_at "rd";refine ⟨ns,1+r1,s1.seq hS,by omega,by omega,by omega,by omega,by omega,fun np H2 nm hnp s2 e2 NB=>?_⟩;have s12:=s1.trans s2;walk_at "rd";refine ⟨ns,3,s12.seq hS,by omega,by omega,rfl,by decide,by decide,fun dp H3 dl hdp s3 e3 DB=>?_⟩;have s13:=s12.trans s3;have hnl:=NB.len;have hdl:=DB.len;walk_at "rd";refine ⟨Nat.zero_le _,fun A hA=>⟨Nat.zero_le _,fun B hB=>⟨_,.inl (SqL.of (((s3.trans (ae hA (.lst []))).trans (ae hB (.lst []))) _ _ e2)),?_⟩⟩⟩;rw [List.length_map];refine ⟨by omega,by omega,?_⟩;rw [Int.toNat_natCast];have nAB:A≠B:=fun z=>by rw [<- z,upd_same] at hB; cases hB
 have sA:=ae hA (.lst []);have sB:=ae hB (.lst []);have hB3:H3 B=none:=sA.free hB;refine cB (lo:=0) (n:=nm.length) (fun i σ H'=>∃ (hs:List Named) (hv:List V) (ss:List Way) (sv:List V) (u9 u10:Option V),σ = [some (.ref a),some (.int k),some (.int m),some (.int 0),some (.ref l),some (.ref np),some (.ref dp),some (.ref A),some (.ref B),u9,u10]/\Same H3 H'/\H' A=some (.lst hv)/\Paired (NamedF A B H') hs hv/\H' B=some (.lst sv)/\Paired (WayAt H') ss sv /\
   hs.map (·.1)=nm.take i/\(∀ x ∈ hs,HouseB x.2/\HouseS x.2)/\ss.Nodup/\(∀ x ∈ ss,x.1 ∈ nm.take i)/\ss.length<=3*i/\i<=ss.length)
  ⟨[],[],[],[],none,none,rfl,sA.trans sB,sB _ _ upd_same,.nil,upd_same,.nil,by simp,fun x hx=>by simp at hx,List.nodup_nil,fun x hx=>by simp at hx,Nat.le_refl _,Nat.le_refl _⟩ ?_ ?_
 ·rintro i σ H4 hi ⟨hs,hv,ss,sv,u9,u10,rfl,s4,eA,pA,eB,pB,hnm,hok,snd,sin,ssl,ssl2⟩;have hlv:=pA.length;have hls:=pB.length;have hhl:hs.length=i:=by
   have:=congrArg List.length hnm;rw [List.length_map,List.length_take] at this;omega
  have s14:=s13.trans s4;walk_at "rd";refine aW (s14.seq hS) (by omega) (by omega) (by decide) (by decide) fun r2 hr2=>?_
  walk_at "rd";have ed4:=s4 _ _ e3;refine ⟨_,SqL.of ed4,fun op hop=>?_⟩;rw [show ((1:Int)+(r2:Int))=((1+r2:Nat):Int) by omega,iQ _ _ (by rw [List.length_map]; omega),<- List.map_take];have s5:=ae hop (.lst ((dl.take (1+r2)).map tx));have e5:upd H4 op (.lst ((dl.take (1+r2)).map tx)) op=some (.lst ((dl.take (1+r2)).map tx)):=upd_same;have nop:op≠B:=fun z=>by rw [z,eB] at hop; cases hop
  have hol:(dl.take (1+r2)).length=1+r2:=by rw [List.length_take]; omega
  have hond:(dl.take (1+r2)).Nodup:=List.Sublist.nodup (List.take_sublist _ _) DB.nd;generalize dl.take (1+r2)=ol at s5 e5 hol hond ⊢;have eA5:=s5 _ _ eA;have s15:=s14.trans s5;have en5:=s5 _ _ (s4 _ _ (s3 _ _ e2));have mul:CMul 300 (i:Int):=.inl ⟨by decide,by decide⟩;have hnv:atI (nm.map tx) (i:Int)=some (tx nm[i]):=bw (by rw [List.getElem?_map,List.getElem?_eq_getElem hi]; rfl);refine ⟨⟨_,eA5⟩,_,tx nm[i],.inl (SqL.of en5),hnv,mul,?_⟩;refine aW (s15.seq hS) (by omega) (by omega) (by decide) (by decide) fun r3 hr3=>?_
  refine ⟨ns,ls,ol,s15.seq hS,by omega,by omega,((hL.same (s2.trans s3)).same s4).same s5,lok,fun x hx=>(hsz x hx).1,e5,hond,by omega,by omega,by omega,by omega,fun hq g w H6 h6 hhq hg hw s6 hN6 hok6 hsh6 hd6=>⟨by decide,fun t ht=>?_⟩⟩;have s7:=ae ht (.tup [tx nm[i],.ref hq]);have eA7:=s7 _ _ (s6 _ _ eA5);have eB7:=s7 _ _ (s6 _ _ (s5 _ _ eB));have eo7:=s7 _ _ (s6 _ _ e5);have en7:=s7 _ _ (s6 _ _ en5);have s47:=s5.trans (s6.trans s7);have fA:∀ r,upd H4 op (.lst (ol.map tx)) r=none->r≠A/\r≠B:=fun r hr=>⟨fun z=>(by rw [z,eA5] at hr; cases hr),fun z=>(by rw [z,s5 _ _ eB] at hr; cases hr)⟩
  have npA:np≠A:=fun z=>by rw [z] at e2; have:=s3 _ _ e2; rw [hA] at this; cases this
  have opA:op≠A:=fun z=>by rw [z,eA] at hop; cases hop
  refine ⟨hv,eA7,sizeBig (by omega),?_⟩;have kt8:∀ t' vs',upd H6 t (.tup [tx nm[i],.ref hq]) t'=some (.tup vs')->upd (upd H6 t (.tup [tx nm[i],.ref hq])) A (.lst (hv++[.ref t])) t'=some (.tup vs'):=bO eA7;have kl8:∀ r vs',r≠A->upd H6 t (.tup [tx nm[i],.ref hq]) r=some (.lst vs')->upd (upd H6 t (.tup [tx nm[i],.ref hq])) A (.lst (hv++[.ref t])) r=some (.lst vs'):=fun r vs' n e=>by rw [au n]; exact e
  have eA8:upd (upd H6 t (.tup [tx nm[i],.ref hq])) A (.lst (hv++[.ref t])) A=some (.lst (hv++[.ref t])):=upd_same;have s38:Same H3 (upd (upd H6 t (.tup [tx nm[i],.ref hq])) A (.lst (hv++[.ref t]))):=aL (s4.trans s47) hA;have pA8:Paired (NamedF A B (upd (upd H6 t (.tup [tx nm[i],.ref hq])) A (.lst (hv++[.ref t])))) (hs++[(nm[i],h6)]) (hv++[.ref t]):=by
   refine aw (dB kt8 (fun r vs' n1 n2 e=>kl8 r vs' n1 e) (dB (fun t' vs' e=>s47 _ _ e) (fun r vs' _ _ e=>s47 _ _ e) pA)) ?_;have hN7:=(ge hN6 fA).same s7;have one:Paired (NamedF A B (upd H6 t (.tup [tx nm[i],.ref hq]))) [(nm[i],h6)] [V.ref t]:=.cons ⟨t,hq,g,w,rfl,upd_same,hN7,fA g hg,fA w hw⟩ .nil;have one:=dB kt8 (fun r vs' n1 n2 e=>kl8 r vs' n1 e) one;cases one with
   | cons r _=>exact r
  have eB8:=kl8 _ _ (Ne.symm nAB) eB7;have eo8:=kl8 _ _ opA eo7;have en8:=kl8 _ _ npA en7;have pB8:=aM kt8 (aM (fun t' vs' e=>s47 _ _ e) pB);generalize upd (upd H6 t (.tup [tx nm[i],.ref hq])) A (.lst (hv++[.ref t]))=H8 at eA8 s38 pA8 eB8 eo8 en8 pB8 ⊢;walk_at "rd";refine ⟨⟨_,eB8⟩,.inl ⟨⟨_,SqL.of eo8⟩,fun D hD=>?_⟩⟩;refine kx (K:=K) tx ol (fun _=>true) (fun x v H'=>WayAt H' (nm[i],x) v) hD (SqL.of eo8) (by omega) ?_ ?_ ?_
  ·rintro x v H9 H10 acc hd' k' ⟨t',rfl,et⟩;exact ⟨t',rfl,k' t' _ (fun z=>by rw [z,hd'] at et; cases et) et⟩
  ·rintro x H9 out non hx s9 ho _;walk_at "rd";exact ⟨_,tx nm[i],.inl (SqL.of (s9 _ _ en8)),hnv,by decide,fun t9 ht9=>ho _ _ rfl (ae ht9 _) ⟨t9,rfl,upd_same⟩⟩
  intro H9 us s9 e9 p9;rw [List.filter_eq_self.mpr fun _ _=>rfl] at p9;have p9:Paired (WayAt H9) (ol.map fun x=>(nm[i],x)) us:=bN p9;have hul:=p9.length;rw [List.length_map] at hul;have eB9:=s9 _ _ eB8;have kt9:∀ t' vs',H9 t'=some (.tup vs')->upd H9 B (.lst (sv++us)) t'=some (.tup vs'):=bO eB9;have hni:nm[i] ∉ nm.take i:=fun z=>by
   obtain ⟨j,hj,e⟩:=List.mem_take_iff_getElem.mp z;have:=(List.getElem_inj NB.nd).mp e;omega
  refine ⟨sv,us,eB9,e9,by rw [sizeLine_eq]; omega,hs++[(nm[i],h6)],hv++[.ref t],ss++ol.map (fun x=>(nm[i],x)),sv++us,_,_,rfl,aL (s38.trans s9) hB3,by rw [au nAB]; exact s9 _ _ eA8,?_,upd_same,?_,?_,fun x hx=>?_,?_,fun x hx=>?_,?_,?_⟩
  ·exact dB (fun t' vs' e=>kt9 _ _ (s9 _ _ e)) (fun r vs' _ n2 e=>by rw [au n2]; exact s9 _ _ e) pA8
  ·exact d0 (aM (fun t' vs' e=>kt9 _ _ (s9 _ _ e)) pB8) (aM kt9 p9)
  ·rw [List.map_append,hnm,List.take_add_one,List.getElem?_eq_getElem hi];rfl
  ·rcases List.mem_append.mp hx with z | z
   ·exact hok x z
   ·rw [List.mem_singleton.mp z];exact ⟨hok6,hsh6⟩
  ·refine List.nodup_append.mpr ⟨snd,List.pairwise_map.mpr (hond.imp fun n e=>n (by cases e; rfl)),fun x hx y hy e=>?_⟩;obtain ⟨z,_,rfl⟩:=List.mem_map.mp hy;rw [e] at hx;exact hni (sin _ hx)
  ·rw [List.take_add_one,List.getElem?_eq_getElem hi];rcases List.mem_append.mp hx with z | z
   ·exact List.mem_append_left _ (sin x z)
   ·obtain ⟨y,_,rfl⟩:=List.mem_map.mp z;exact List.mem_append_right _ (by simp)
  ·rw [List.length_append,List.length_map];omega
  ·rw [List.length_append,List.length_map];omega
 ·rintro σ H4 ⟨hs,hv,ss,sv,u9,u10,rfl,s4,eA,pA,eB,pB,hnm,hok,snd,sin,ssl,ssl2⟩;rw [List.take_length] at hnm sin;have s14:=s13.trans s4;walk_at "rd";refine ⟨ns,ss,s14.seq hS,by omega,by omega,rfl,⟨sv,eB,pB⟩,snd,by omega,by omega,fun lq H5 lns hlq s5 hLn hap hl6=>⟨by decide,fun t ht=>?_⟩⟩;have s6:=ae ht (.tup [V.ref l,V.ref A,V.ref lq]);have s56:=s5.trans s6;have hhl:hs.length=nm.length:=by rw [<- hnm,List.length_map]
  refine q t _ (ls,hs,lns) ((s14.trans s5).free ht) (s14.trans s56) ⟨l,A,lq,upd_same,(((hL.same (s2.trans s3)).same s4).same s56),⟨hv,s56 _ _ eA,?_⟩,hLn.same s6⟩ ⟨lok,?_,by show 1<=hs.length; omega,by show hs.length<=4; omega,fun x hx=>?_,fun x hx=>(hok x hx).1,hap,hl6⟩ hsz hl3 fun x hx=>(hok x hx).2
  ·exact L2.Paired.mapP (mD pA) fun _ _ ⟨t',q',e,h1,h2⟩=>⟨t',q',e,s56 _ _ h1,h2.same s56⟩
  ·show (hs.map (·.1)).Nodup;rw [hnm];exact NB.nd
  ·have:x.1 ∈ nm:=by rw [<- hnm]; exact List.mem_map.mpr ⟨x,hx,rfl⟩
   exact ⟨NB.low _ this,NB.short _ this⟩
noncomputable def hole (g:Addr) (H:Hp):Hp:=fun b=>if b=g then none else H b
theorem ip {g:Addr} {H:Hp}:hole g H g=none:=if_pos rfl
theorem bu {g b:Addr} {H:Hp} (n:b≠g):hole g H b=H b:=if_neg n
theorem cb {g:Addr} {H:Hp}:Same (hole g H) H:=fun b o e=>by
 by_cases n:b=g
 ·rw [n,ip] at e; cases e
 ·rw [bu n] at e; exact e
theorem gY {g:Addr} {H0 H:Hp} (s:Same H0 H) (h:H0 g=none):Same H0 (hole g H):=fun b o e=>by
 rw [bu (fun n=>by rw [n,h] at e; cases e)];exact s b o e
theorem aA {g:Addr} {H H':Hp} (s:Same H H'):Same (hole g H) (hole g H'):=fun b o e=>by
 by_cases n:b=g
 ·rw [n,ip] at e; cases e
 ·rw [bu n] at e ⊢; exact s _ _ e
theorem ci {g:Addr} {H:Hp} {o:HO}:hole g (upd H g o)=hole g H:=by
 funext b;by_cases n:b=g
 ·rw [n,ip,ip]
 ·rw [bu n,bu n,au n]
theorem bv {g:Addr} {H:Hp} {us:List V} (hg:H g=some (.lst us)) {t:Addr} {vs:List V} (h:H t=some (.tup vs)):hole g H t=some (.tup vs):=by
 rw [bu (fun z=>by rw [z,hg] at h; cases h)];exact h
theorem ed {g r:Addr} {H:Hp} {us:List V} {rs:List Rule} (hg:H g=some (.lst us)) (n:r≠g) (h:Rules H r rs):Rules (hole g H) r rs:=by
 obtain ⟨vs,e,pr⟩:=h;exact ⟨vs,by rw [bu n]; exact e,bz (fun _ _=>bv hg) pr⟩
noncomputable def dk:Sp:=gA fun r=>gA fun p=>gF fun _=>bd fun H Q _=>r.cps.toList.length<=1000/\p.cps.toList.length<=1000/\∀ z,z.length=r.cps.toList.length+p.cps.toList.length->Q (tx z) H
theorem eR (T:Top K mg):Callee P w K mg base 1 "_law_padded" ["_law_row_here", "_law_pad", "_law_front"] dk:=by
 refine T.fR.cal iA (by unfold dk; exact LenSp.h) (fun _ _ _ _ _ _ us hl=>match us,hl with | [_,_,_],_=>rfl) (fun f cdv A outer s H vs Q E hr h=>?_);unfold dk at h;walk_at "el";refine ⟨_,(af (b9 (iG (qv 2)) (ak (aF (ai ah (qv 1) (qv 0)))) aZ)
   (ak (aF (ai ah (qv 0) (qv 1))))),?_⟩
 rename_i r p b;obtain ⟨r,rfl⟩:∃ x,r=st x:=⟨_,(cy r).symm⟩;obtain ⟨p,rfl⟩:∃ x,p=st x:=⟨_,(cy p).symm⟩;obtain ⟨h1,h2,q⟩:=h;simp only [de] at h1 h2 q;walk_at "rd";cases b with
 | true=>exact ⟨by omega,q _ (by rw [List.length_append]; omega)⟩
 | false=>exact ⟨by omega,q _ (by rw [List.length_append])⟩
noncomputable def bU (K:Frag):Sp:=aC fun t=>bi fun z=>gF fun _=>bd fun H Q _=>∃ (r:Rule) (S:Nat),H t=some (.tup [tx r.1,tx r.2.1,tx r.2.2])/\(r.1.length<=100/\r.2.1.length<=4/\r.2.2.length<=100)/\z=(S:Int)/\S<=42 /\
   ∀ t' H' (r':Rule),H t'=none->Same H H'->H' t'=some (.tup [tx r'.1,tx r'.2.1,tx r'.2.2])->r'.1.length<=r.1.length+S->r'.2.1=r.2.1->r'.2.2.length<=r.2.2.length+S->Q (.ref t') H'
theorem fG (T:Top K mg):Callee P w K mg base 2 "_law_rule_padded" ["_law_rule_here", "_law_size", "_law_front"] (bU K):=by
 refine T.du.cal fE (by unfold bU; exact LenSp.h) (fun _ _ _ _ _ _ us hl=>match us,hl with | [_,_,_],_=>rfl) (fun f cdv A outer s H vs Q E hr h=>?_);unfold bU at h;walk_at "el";refine ⟨_,(ak (aF (aq (aa (av (eR T) hr.m rfl (aa (aj (ixE K rfl) (qv 0) ac (fun _ _=>rfl)) (aa (ai bj (qs [45]) (qv 1)) (aa (qv 2) ad)))) (aa (aj (ixE K rfl) (qv 0) ac (fun _ _=>rfl)) (aa (av (eR T) hr.m rfl (aa (aj (ixE K rfl) (qv 0) ac (fun _ _=>rfl)) (aa (ai bj (qs [45]) (qv 1)) (aa (qv 2) ad)))) ad)))))),?_⟩;rename_i t z b;obtain ⟨r,S,et,hr,rfl,hS,q⟩:=h;walk_at "rd";refine ⟨_,_,.inr (SqT.of et),rfl,by omega,by omega,?_⟩;refine ⟨by simp only [de]; omega,by simp; omega,fun z1 hz1=>?_⟩;refine ⟨_,tx r.2.1,.inr (SqT.of et),rfl,_,tx r.2.2,.inr (SqT.of et),rfl,by omega,by omega,by simp only [de]; omega,by simp; omega,fun z2 hz2=>⟨by decide,fun t' ht'=>?_⟩⟩;simp only [de,List.length_replicate,Int.toNat_natCast] at hz1 hz2;exact q t' _ (z1,r.2.1,z2) ht' (ae ht' _) upd_same (by show z1.length<=_; omega) rfl (by show z2.length<=_; omega)
noncomputable def doorsOf (hs:List Named):List (List Nat × List (List Nat)):=hs.map fun x=>(x.1,x.2.1.map (·.1))
noncomputable def padL (ls:List Fld) (S:Nat) (b:Bool):List Fld:=if S=0 then ls else if b=true then (padB,S)::ls else ls++[(padB,S)]
theorem pK {ls:List Fld} {S:Nat} {b:Bool} (ok:LayB ls) (h3:ls.length<=3) (hS:S<=42) (np:∀ x ∈ ls,x.1≠padB):LayB (padL ls S b):=by
 unfold padL;have nin:padB ∉ ls.map (·.1):=fun z=>by
  obtain ⟨x,hx,e⟩:=List.mem_map.mp z;exact np x hx e
 obtain ⟨n,hn⟩:=ok.to;split
 ·exact ok
 ·split
  ·refine ⟨by have:=ok.two; rw [List.length_cons]; omega,by rw [List.length_cons]; omega,List.nodup_cons.mpr ⟨nin,ok.nd⟩,⟨n,List.mem_cons_of_mem _ hn⟩,fun x hx=>?_⟩;rcases List.mem_cons.mp hx with rfl | hx
   ·show S<=100;omega
   ·exact ok.sz x hx
  ·refine ⟨by have:=ok.two; rw [List.length_append]; omega,by rw [List.length_append]; simp only [List.length_cons,List.length_nil]; omega,?_,⟨n,List.mem_append_left _ hn⟩,fun x hx=>?_⟩
   ·rw [List.map_append];exact List.nodup_append.mpr ⟨ok.nd,List.nodup_cons.mpr ⟨by simp,List.nodup_nil⟩,fun x hx y hy e=>nin (by have e2:x=padB:=e.trans (List.mem_singleton.mp hy); rw [<- e2]; exact hx)⟩
   ·rcases List.mem_append.mp hx with hx | hx
    ·exact ok.sz x hx
    ·rw [List.mem_singleton.mp hx];show S<=100;omega
noncomputable def dG (K:Frag):Sp:=aC fun q=>bi fun z=>gF fun b=>bd fun H Q _=>∃ (N:Net) (S:Nat),NetAt H q N/\NetB N/\N.1.length<=3/\(∀ x ∈ N.1,x.1≠padB)/\(∀ x ∈ N.2.1,HouseS x.2)/\z=(S:Int)/\S<=42 /\
   ∀ q' H' N',Same H H'->NetAt H' q' N'->NetB N'->N'.1=padL N.1 S b->N'.2.2=N.2.2->doorsOf N'.2.1=doorsOf N.2.1->Q (.ref q') H'
theorem fI (T:Top K mg):Callee P w K mg base 3 "_law_wider" ["_law_net_here", "_law_size", "_law_front"] (dG K):=by
 refine T.gM.cal aT (by unfold dG; exact LenSp.h) (fun _ _ _ _ _ _ us hl=>match us,hl with | [_,_,_],_=>rfl) (fun f cdv A outer s H vs Q E hr h=>?_);unfold dG at h;walk_at "el";refine ⟨_,(af (b9 (aV gf (qv 1) ac) (ak (aF (qv 0))) aZ)
   (af (ar (i:=3) aT.nd rfl lc (ai ah (aj (ixE K rfl) (qv 0) ac (fun _ _=>rfl)) (aI (aa (aq (aa (qs [112,97,100]) (aa (qv 1) ad))) ad))))
   (bV (b9 (iG (qv 2)) (ak (ar (i:=3) aT.nd rfl lc (ai ah (aI (aa (aq (aa (qs [112,97,100]) (aa (qv 1) ad))) ad)) (aj (ixE K rfl) (qv 0) ac (fun _ _=>rfl))))) aZ)
   (af (ar (i:=4) aT.nd rfl lc (aI ad))
   (af (dh PassesOwn.never rfl (iterE K rfl (aj (ixE K rfl) (qv 0) ac (fun _ _=>rfl))) (tupE K rfl rfl (n:=2) (az (ao (i:=5) aT.nd rfl lc) (az (ao (i:=6) aT.nd rfl lc) bM))) (af (ar (i:=7) aT.nd rfl lc (aI ad))
   (af (dh PassesOwn.never rfl (iterE K rfl (aj (ixE K rfl) (qv 6) ac (fun _ _=>rfl))) (tupE K rfl rfl (n:=2) (az (ao (i:=8) aT.nd rfl lc) (az (ao (i:=9) aT.nd rfl lc) bM))) (ak (aO (aD (qv 7) (aq (aa (qv 8) (aa (bn (nt:=1) (fi:=[1,2]) (N':=["_law_rule_here", "_law_size", "_law_front"]) rfl (cscope rfl (by decide +kernel)) (cnames (N:=["_law_net_here", "_law_size", "_law_front", "_law_layout_here", "_law_houses", "_law_name", "_law_house_here", "_law_gates", "_law_door", "_law_rules"]) (sc:=defScope cN) rfl rfl (by decide +kernel)) (aS (by decide)) (iterE K rfl (qv 9)) (fun _ _ _ _ _=>(ao (i:=0) (by show (["_law_rule_here", "_law_size", "_law_front"]:List Str).Nodup; decide +kernel) rfl lc)) (fun _ _ _ _ _=>aQ) (fun _ _ _ _ _=>(av (fG T) hr.m rfl (aa (qv 0) (aa (qv 1) (aa (qv 2) ad)))))) ad)))))))
   (ak (aO (aD (qv 4) (aq (aa (qv 5) (aa (aq (aa (qv 7) (aa (aj (ixE K rfl) (qv 6) ac (fun _ _=>rfl)) ad))) ad)))))))))
   (ak (aF (aq (aa (qv 3) (aa (qv 4) (aa (aj (ixE K rfl) (qv 0) ac (fun _ _=>rfl)) ad))))))))))),?_⟩
 rename_i q z b;obtain ⟨N,S,hN,nb,hl3,np,hsh,rfl,hS,q'⟩:=h;walk_at "rd";refine ite2 (fun g=>q' q H N (Same.refl _) hN nb ?_ rfl rfl) fun g=>?_
 ·unfold padL;rw [if_pos (by omega)]
 obtain ⟨la,ha,ca,et,hL,hH,hC⟩:=id hN;refine ⟨_,_,.inr (SqT.of et),rfl,?_⟩;walk_at "rd";obtain ⟨lv,el,pl⟩:=id hL;have hll:=pl.length;refine ⟨by decide,fun t1 ht1=>⟨by decide,fun l1 hl1=>?_⟩⟩;have k1:=ae ht1 (.tup [V.str (st [112,97,100]),V.int (S:Int)]);have k2:=ae hl1 (.lst [V.ref t1]);have k12:=k1.trans k2;refine ⟨lv,_,k12 _ _ el,upd_same,by rw [sizeLine_eq]; simp only [List.length_cons,List.length_nil]; omega,fun l2 hl2=>?_⟩;have k3:=ae hl2 (.lst (lv++[V.ref t1]));have s3:=k12.trans k3;have L3:Lay (upd (upd (upd H t1 (.tup [V.str (st [112,97,100]),V.int (S:Int)])) l1 (.lst [V.ref t1])) l2 (.lst (lv++[V.ref t1]))) l2 (N.1++[(padB,S)]):=⟨_,upd_same,aw (bR (fun t vs z=>s3 _ _ z) pl) ⟨t1,rfl,k3 _ _ (k2 _ _ upd_same)⟩⟩;generalize upd (upd (upd H t1 (.tup [V.str (st [112,97,100]),V.int (S:Int)])) l1 (.lst [V.ref t1])) l2 (.lst (lv++[V.ref t1]))=H3 at s3 L3 ⊢;refine ⟨fun σ' H'=>∃ lp:Addr,σ'=[some (.ref q),some (nV S),some (.bl b),some (.ref lp),none,none,none,none,none,none]/\Same H H'/\Lay H' lp (padL N.1 S b),?_,?_⟩
 ·cases b with
  | false=>
   rw [if_neg (by decide)];refine ⟨l2,rfl,s3,?_⟩;unfold padL;rw [if_neg (by omega),if_neg (by decide)];exact L3
  | true=>
   rw [if_pos rfl];refine ⟨by decide,fun t4 ht4=>⟨by decide,fun l4 hl4=>?_⟩⟩;have k4:=ae ht4 (.tup [V.str (st [112,97,100]),V.int (S:Int)]);have k5:=ae hl4 (.lst [V.ref t4]);have s5:=s3.trans (k4.trans k5);refine ⟨_,V.ref la,.inr (SqT.of (s5 _ _ et)),rfl,?_⟩;walk_at "rd";refine ⟨_,lv,upd_same,s5 _ _ el,by rw [sizeLine_eq]; simp only [List.length_cons,List.length_nil]; omega,fun l5 hl5=>?_⟩;have k6:=ae hl5 (.lst ([V.ref t4]++lv));refine ⟨l5,rfl,s5.trans k6,?_⟩;unfold padL;rw [if_neg (by omega),if_pos rfl];exact ⟨_,upd_same,.cons ⟨t4,rfl,k6 _ _ (k5 _ _ upd_same)⟩ (bR (fun t vs z=>(s5.trans k6) _ _ z) pl)⟩
 rintro σ' H4 ⟨lp,rfl,s4,L4⟩;obtain ⟨hv,eh,ph⟩:=id hH;have hhl:=ph.length;have h4:=nb.h4;walk_at "rd";refine ⟨Nat.zero_le _,fun A hA=>?_⟩;have sA:=ae hA (.lst []);refine ⟨_,V.ref ha,.inr (SqT.of ((s4.trans sA) _ _ et)),rfl,?_⟩;walk_at "rd";refine .inl ⟨⟨_,SqL.of ((s4.trans sA) _ _ eh)⟩,?_⟩;refine dU (xs:=hv) (fun i σ H'=>∃ (hs:List Named) (vs:List V) (u5 u6 u7 u8 u9:Option V),σ = [some (.ref q),some (nV S),some (.bl b),some (.ref lp),some (.ref A),u5,u6,u7,u8,u9]/\Same H4 H'/\H' A=some (.lst vs)/\Paired (NamedAt (hole A H')) hs vs/\doorsOf hs=doorsOf (N.2.1.take i)/\∀ x ∈ hs,HouseB x.2)
  ⟨[],[],none,none,none,none,none,rfl,sA,upd_same,.nil,by simp [doorsOf],fun x hx=>by simp at hx⟩ (fun i σ H' _ ⟨_,_,_,_,_,_,_,_,z,_⟩=>SqL.of (z _ _ (s4 _ _ eh))) ?_ ?_
 ·rintro i x σ H5 hx ⟨hs,vs,u5,u6,u7,u8,u9,rfl,s5,eA,pA,hdo,hhb⟩;have hi:i < hv.length:=(List.getElem?_eq_some_iff.mp hx).1;have hil:i < N.2.1.length:=by omega
  obtain ⟨y,hy,t,hq,ey,ett,hHq⟩:=bp ph (List.getElem?_eq_getElem hil);obtain rfl:x=.ref t:=by rw [hy] at hx; rw [<- Option.some.inj hx,ey]
  have hmem:=List.getElem_mem hil;have hb5:=nb.house _ hmem;have hs5:=hsh _ hmem;obtain ⟨gp,wp,eq1,⟨gv,eg,pg⟩,hW⟩:=hHq;have hgl:=pg.length;have s05:=s4.trans s5;refine ⟨t,[_,_],rfl,SqT.of (s05 _ _ ett),rfl,_,[_],rfl,_,[],rfl,rfl,?_⟩;walk_at "rd";refine ⟨Nat.zero_le _,fun B hB=>?_⟩;have sB:=ae hB (.lst []);have nAB:A≠B:=fun z=>by rw [<- z,eA] at hB; cases hB
  refine ⟨_,V.ref gp,.inr (SqT.of ((s05.trans sB) _ _ eq1)),rfl,?_⟩;walk_at "rd";refine .inl ⟨⟨_,SqL.of ((s05.trans sB) _ _ eg)⟩,?_⟩;refine dU (xs:=gv) (fun j σ H'=>∃ (gs:List Gate) (us:List V) (u8 u9:Option V),σ = [some (.ref q),some (nV S),some (.bl b),some (.ref lp),some (.ref A),some (tx N.2.1[i].1),some (.ref hq),some (.ref B),u8,u9]/\Same H5 H'/\H' B=some (.lst us)/\Paired (GateAt (hole A (hole B H'))) gs us/\gs.map (·.1)=(N.2.1[i].2.1.map (·.1)).take j/\∀ x ∈ gs,x.2.length<=3)
   ⟨[],[],_,_,rfl,sB,upd_same,.nil,by simp,fun x hx=>by simp at hx⟩ (fun j σ H' _ ⟨_,_,_,_,_,z,_⟩=>SqL.of (z _ _ (s05 _ _ eg))) ?_ ?_
  ·rintro j x σ H6 hx ⟨gs,us,u8,u9,rfl,s6,eB,pB,hgn,hg3⟩;have hj:j < gv.length:=(List.getElem?_eq_some_iff.mp hx).1;have hjl:j < N.2.1[i].2.1.length:=by omega
   obtain ⟨y,hy,tg,rp,ey,etg,hR⟩:=bp pg (List.getElem?_eq_getElem hjl);obtain rfl:x=.ref tg:=by rw [hy] at hx; rw [<- Option.some.inj hx,ey]
   have s06:=s05.trans s6;have hgm:=List.getElem_mem hjl;have hr3:=hb5.rl _ hgm;have g3:=hb5.g3;obtain ⟨rv,er,pr⟩:=hR.same s06;have hrl:=pr.length;obtain ⟨z1,z2⟩:=aE pr;refine ⟨tg,[_,_],rfl,SqT.of (s06 _ _ etg),rfl,_,[_],rfl,_,[],rfl,rfl,?_⟩;walk_at "rd";refine ⟨⟨_,eB⟩,.inl ⟨⟨_,SqL.of er⟩,fun R hR6=>?_⟩⟩;refine kx (K:=K) (fun x:Rule × V=>x.2) (N.2.1[i].2.1[j].2.zip rv) (fun _=>true) (fun _ v H'=>∃ r:Rule,True/\RuleAt H' r v) hR6 (by rw [z1]; exact SqL.of er) (by rw [List.length_zip]; omega) ?_ ?_ ?_
   ·rintro x v H7 H8 acc hd' k' ⟨r,_,t',rfl,et'⟩;exact ⟨r,True.intro,t',rfl,k' t' _ (fun z=>by rw [z,hd'] at et'; cases et') et'⟩
   ·rintro x H7 out non hx s7 ho _;obtain ⟨tr,exr,etr⟩:=z2 x hx;rw [exr];walk_at "rd";exact ⟨x.1,S,s7 _ _ etr,hs5 _ hgm _ (List.of_mem_zip hx).1,rfl,hS,fun t' H8 r' ht' s8 e8 _ _ _=>ho _ _ rfl s8 ⟨r',True.intro,t',rfl,e8⟩⟩
   intro H7 ws s7 e7 p7;rw [List.filter_eq_self.mpr fun _ _=>rfl] at p7;obtain ⟨rs,pr7,hrs,_⟩:=dL p7;rw [List.length_zip] at hrs;refine ⟨by decide,fun t8 ht8=>?_⟩;have s8:=ae ht8 (.tup [tx N.2.1[i].2.1[j].1,.ref R]);have s68:=s7.trans s8;have eB8:=s68 _ _ eB;have eA8:=s68 _ _ (s6 _ _ eA);have nRB:R≠B:=fun z=>by rw [z,eB] at hR6; cases hR6
   have nRA:R≠A:=fun z=>by rw [z,s6 _ _ eA] at hR6; cases hR6
   have hul:=pB.length;have hgs:gs.length=j:=by
    have:=congrArg List.length hgn;rw [List.length_map,List.length_take,List.length_map] at this;omega
   refine ⟨us,eB8,sizeBig (by omega),gs++[(N.2.1[i].2.1[j].1,rs)],us++[.ref t8],_,_,rfl,aL (s6.trans s68) hB,upd_same,?_,?_,fun x hx=>?_⟩
   ·rw [ci];have R8:Rules (upd H7 t8 (.tup [tx N.2.1[i].2.1[j].1,.ref R])) R rs:=Rules.same ⟨ws,e7,pr7⟩ s8;have R9:=ed (g:=A) (by rw [bu nAB]; exact eA8) nRA (ed eB8 nRB R8);refine aw (L2.Paired.mapP pB fun _ _ ⟨t',r',e,h1,h2⟩=>⟨t',r',e,aA (aA s68) _ _ h1,h2.same (aA (aA s68))⟩) ⟨t8,R,rfl,?_,R9⟩;exact bv (us:=vs) (by rw [bu nAB]; exact eA8) (bv eB8 upd_same)
   ·rw [List.map_append,hgn,List.take_add_one,List.getElem?_map,List.getElem?_eq_getElem hjl];rfl
   ·rcases List.mem_append.mp hx with z | z
    ·exact hg3 x z
    ·rw [List.mem_singleton.mp z];show rs.length<=3;omega
  ·rintro σ H6 ⟨gs,us,u8,u9,rfl,s6,eB,pB,hgn,hg3⟩;have s06:=s05.trans s6;rw [List.take_of_length_le (by rw [List.length_map]; omega)] at hgn;have hgs:gs.length=N.2.1[i].2.1.length:=by
    have:=congrArg List.length hgn;rw [List.length_map,List.length_map] at this;exact this
   have eA6:=s6 _ _ eA;walk_at "rd";refine ⟨⟨_,eA6⟩,_,V.ref wp,.inr (SqT.of (s06 _ _ eq1)),rfl,by decide,fun t7 ht7=>⟨by decide,fun t8 ht8=>?_⟩⟩;have k7:=ae ht7 (.tup [V.ref B,V.ref wp]);have k8:=ae ht8 (.tup [tx N.2.1[i].1,V.ref t7]);have k78:=k7.trans k8;have eA8:=k78 _ _ eA6;have hvl:=pA.length;have hhs:hs.length=i:=by
    have:=congrArg List.length hdo;unfold doorsOf at this;rw [List.length_map,List.length_map,List.length_take] at this;omega
   have nwA:wp≠A:=fun z=>by
    obtain ⟨wv,ew,_⟩:=hW;have:=s4 _ _ ew;rw [z,hA] at this;cases this
   refine ⟨vs,eA8,sizeBig (by omega),hs++[(N.2.1[i].1,(gs,N.2.1[i].2.2))],vs++[.ref t8],_,_,_,_,_,rfl,aL (s5.trans (s6.trans k78)) hA,upd_same,?_,?_,fun x hx=>?_⟩
   ·rw [ci];have s68:=s6.trans k78;refine aw (L2.Paired.mapP pA fun _ _ ⟨t',q',e,h1,h2⟩=>⟨t',q',e,aA s68 _ _ h1,h2.same (aA s68)⟩) ⟨t8,t7,rfl,bv eA8 upd_same,B,wp,bv eA8 (k8 _ _ upd_same),⟨us,?_,?_⟩,?_⟩
    ·rw [bu (Ne.symm nAB)];exact k78 _ _ eB
    ·have sm:Same (hole A (hole B H6)) (hole A (upd (upd H6 t7 (.tup [V.ref B,V.ref wp])) t8 (.tup [tx N.2.1[i].1,V.ref t7]))):=aA (cb.trans k78);exact L2.Paired.mapP pB fun _ _ ⟨t',r',e,h1,h2⟩=>⟨t',r',e,sm _ _ h1,h2.same sm⟩
    ·obtain ⟨wv,ew,pw⟩:=hW.same (s06.trans k78);exact ⟨wv,by rw [bu nwA]; exact ew,aM (fun _ _=>bv eA8) pw⟩
   ·unfold doorsOf at hdo ⊢;rw [List.map_append,hdo,List.take_add_one,List.getElem?_eq_getElem hil,Option.toList_some,List.map_append,List.map_cons,List.map_nil,List.map_cons,List.map_nil];dsimp only;rw [hgn]
   ·rcases List.mem_append.mp hx with z | z
    ·exact hhb x z
    ·rw [List.mem_singleton.mp z];refine ⟨?_,?_,?_,hg3,hb5.w5⟩
     ·show (gs.map (·.1)).Nodup;rw [hgn];exact hb5.nd
     ·show 1<=gs.length;have:=hb5.g1;omega
     ·show gs.length<=3;have:=hb5.g3;omega
 ·rintro σ H5 ⟨hs,vs,u5,u6,u7,u8,u9,rfl,s5,eA,pA,hdo,hhb⟩;rw [<- hhl,List.take_length] at hdo;have s05:=s4.trans s5;walk_at "rd";refine ⟨_,V.ref ca,.inr (SqT.of (s05 _ _ et)),rfl,by decide,fun t6 ht6=>?_⟩;have k6:=ae ht6 (.tup [V.ref lp,V.ref A,V.ref ca]);have s6:=s05.trans k6;have names:hs.map (·.1)=N.2.1.map (·.1):=by
   have:=congrArg (List.map (·.1)) hdo;unfold doorsOf at this;rw [List.map_map,List.map_map] at this;exact this
  have hlen:hs.length=N.2.1.length:=by
   have:=congrArg List.length names;rw [List.length_map,List.length_map] at this;exact this
  refine q' t6 _ (padL N.1 S b,hs,N.2.2) s6 ⟨lp,A,ca,upd_same,L4.same (s5.trans k6),⟨vs,k6 _ _ eA,?_⟩,hC.same s6⟩ ⟨pK nb.lay hl3 hS np,?_,by show 1<=hs.length; have:=nb.h1; omega,by show hs.length<=4; omega,fun x hx=>?_,hhb,nb.ends,nb.l6⟩ rfl rfl hdo
  ·have sm:=(cb (g:=A) (H:=H5)).trans k6;exact L2.Paired.mapP pA fun _ _ ⟨t',q'',e,h1,h2⟩=>⟨t',q'',e,sm _ _ h1,h2.same sm⟩
  ·show (hs.map (·.1)).Nodup;rw [names];exact nb.nd
  ·have:x.1 ∈ N.2.1.map (·.1):=by rw [<- names]; exact List.mem_map.mpr ⟨x,hx,rfl⟩
   obtain ⟨y,hy,e⟩:=List.mem_map.mp this;rw [<- e];exact nb.low y hy
def NamedC (b:Addr) (F:Addr->Prop) (H:Hp) (x:Named) (v:V):Prop:=∃ t q g w,v=.ref t/\H t=some (.tup [tx x.1,.ref q])/\HouseN (fun r=>r≠b/\F r) H q g w x.2/\(g≠b/\F g)/\w≠b/\F w
structure NetC (F:Addr->Prop) (H:Hp) (q a b c:Addr) (N:Net):Prop where
 tup:H q=some (.tup [.ref a,.ref b,.ref c])
 lay:Lay H a N.1
 houses:∃ vs,H b=some (.lst vs)/\Paired (NamedC b F H) N.2.1 vs
 lines:Lines H c N.2.2
 fa:F a
 fb:F b
 fc:F c
theorem NetC.at {F:Addr->Prop} {H:Hp} {q a b c:Addr} {N:Net} (h:NetC F H q a b c N):NetAt H q N:=by
 obtain ⟨vs,e,p⟩:=h.houses;exact ⟨a,b,c,h.tup,h.lay,⟨vs,e,L2.Paired.mapP p fun _ _ ⟨t,q,_,_,e,et,hN,_⟩=>⟨t,q,e,et,hN.at⟩⟩,h.lines⟩
noncomputable def dH (K:Frag):Sp:=aC fun q=>bd fun H Q _=>∃ N:Net,NetAt H q N/\NetB N/\∀ (q' a b c:Addr) (H':Hp),H q'=none->Same H H'->NetC (fun r=>H r=none) H' q' a b c N->Q (.ref q') H'
theorem jn (T:Top K mg):Callee P w K mg base 2 "net_copied" ["net"] (dH K):=by
 refine T.gI.cal jm (by unfold dH; exact LenSp.h) (fun _ _ _ _ _ _ us hl=>match us,hl with | [_],_=>rfl) (fun f cdv A outer s H vs Q E hr h=>?_);unfold dH at h;walk_at "el";refine ⟨_,(ak (aF (aq (aa (bH (bB K rfl rfl) rfl T.cD ck (aa (aj (ixE K rfl) (qv 0) ac (fun _ _=>rfl)) ad)) (aa (bn (nt:=2) (fi:=[]) (N':=["name", "house"]) rfl (cscope rfl (by decide +kernel)) (cnames (N:=["net"]) (sc:=defScope cQ) rfl rfl (by decide +kernel)) (ft (by decide) (by decide)) (iterE K rfl (aj (ixE K rfl) (qv 0) ac (fun _ _=>rfl))) (fun _ _ _ _ _=>(tupE K rfl rfl (n:=2) (az (ao (i:=0) (by show (["name", "house"]:List Str).Nodup; decide +kernel) rfl lc) (az (ao (i:=1) (by show (["name", "house"]:List Str).Nodup; decide +kernel) rfl lc) bM)))) (fun _ _ _ _ _=>aQ) (fun _ _ _ _ _=>(aq (aa (qv 0) (aa (av (ik T) hr.m rfl (aa (qv 1) ad)) ad))))) (aa (bH (bB K rfl rfl) rfl T.cD ck (aa (aj (ixE K rfl) (qv 0) ac (fun _ _=>rfl)) ad)) ad)))))),?_⟩;rename_i q;obtain ⟨N,⟨la,ha,ca,et,hL,hH,hC⟩,nb,q'⟩:=h;obtain ⟨lv,el,pl⟩:=id hL;obtain ⟨hv,eh,ph⟩:=id hH;obtain ⟨cv,ec,pc⟩:=id hC;have hhl:=ph.length;have h4:=nb.h4;obtain ⟨z1,z2⟩:=aE ph;walk_at "rd";refine ⟨_,_,.inr (SqT.of et),rfl,?_⟩;walk_at "rd";refine ⟨lv,.inl (SqL.of el),fun a ha0=>?_⟩;have s1:=ae ha0 (.lst lv);refine ⟨_,V.ref ha,.inr (SqT.of (s1 _ _ et)),rfl,?_⟩;walk_at "rd";refine .inl ⟨⟨_,SqL.of (s1 _ _ eh)⟩,fun b hb=>?_⟩;refine cX (N.2.1.zip hv) (fun x v H'=>NamedC b (fun r=>H r=none) H' x.1 v) hb (by rw [List.length_zip]; omega) (fun i H1 hi s2=>⟨hv,hv[i]'(by rw [List.length_zip] at hi; omega),SqL.of (s2 _ _ (s1 _ _ eh)),List.getElem?_eq_getElem _⟩) (fun H1 s2=>⟨hv,SqL.of (s2 _ _ (s1 _ _ eh)),by rw [List.length_zip]; omega⟩) ?_ ?_ ?_ ?_
 ·rintro i H1 v H2 _ ⟨rfl,_⟩;exact Same.refl _
 ·rintro x v H1 H2 acc hd k ⟨t,q2,g,w,rfl,e1,hN,ng,nw⟩;have tp:∀ t ts,H1 t=some (.tup ts)->H2 t=some (.tup ts):=fun t ts z=>k _ _ (fun y=>by rw [y,hd] at z; cases z) z
  obtain ⟨gv,eg,pg⟩:=hN.gates;obtain ⟨wv,ew,pw⟩:=hN.ways;refine ⟨t,q2,g,w,rfl,tp _ _ e1,⟨tp _ _ hN.tup,hN.ne,⟨gv,k _ _ ng.1 eg,L2.Paired.mapP pg ?_⟩,⟨wv,k _ _ nw.1 ew,aM tp pw⟩⟩,ng,nw⟩;rintro y u ⟨t2,r,e2,n2,h1,⟨rv,er,pr⟩⟩;exact ⟨t2,r,e2,n2,tp _ _ h1,⟨rv,k _ _ n2.2.2.1 er,bz tp pr⟩⟩
 ·rintro i x v H1 H2 out non hx s2 nD ⟨rfl,a1⟩ ho;obtain ⟨y1,y2⟩:=List.getElem?_zip_eq_some.mp hx;have y3:=a1 hv (SqL.of (s2 _ _ (s1 _ _ eh)));rw [y2] at y3;have y4:=Option.some.inj y3;obtain ⟨t,q2,ex,e1,hHq⟩:=z2 x (List.mem_of_getElem? hx);have hok:=nb.house x.1 (List.of_mem_zip (List.mem_of_getElem? hx)).1;have g3:=hok.g3;have w5:=hok.w5;rw [<- y4,ex];have s12:=s1.trans s2;refine ⟨t,[_,_],rfl,SqT.of (s12 _ _ e1),rfl,_,[_],rfl,_,[],rfl,rfl,?_⟩;walk_at "rd";refine ⟨x.1.2,hHq.same s12,by omega,by omega,fun y hy=>Nat.le_trans (hok.rl y hy) (by decide),fun q3 g w H3 hq3 hg hw s3 hN3=>⟨by decide,fun t2 ht2=>?_⟩⟩;have s4:=ae ht2 (.tup [tx x.1.1,V.ref q3]);exact ho _ _ (s3.trans s4) ⟨t2,q3,g,w,rfl,upd_same,ge (hN3.same s4) (fun r hr=>⟨nD r hr,s12.free hr⟩),⟨nD g hg,s12.free hg⟩,nD w hw,s12.free hw⟩
 ·intro H1 vs s2 e1 p1;have s12:=s1.trans s2;walk_at "rd";refine ⟨_,V.ref ca,.inr (SqT.of (s12 _ _ et)),rfl,?_⟩;walk_at "rd";refine ⟨cv,.inl (SqL.of (s12 _ _ ec)),fun c hc=>⟨by decide,fun t ht=>?_⟩⟩;have s3:=ae hc (.lst cv);have s4:=ae ht (.tup [V.ref a,V.ref b,V.ref c]);have s34:=s3.trans s4;have s14:=s12.trans s34;have hz:(N.2.1.zip hv).map Prod.fst=N.2.1:=bZ hhl;have p2:Paired (NamedC b (fun r=>H r=none) H1) N.2.1 vs:=by
   rw [<- hz];exact bN p1
  refine q' t a b c _ ((s12.trans s3).free ht) s14 ⟨upd_same,⟨lv,(s2.trans s34) _ _ upd_same,bR (fun _ _ z=>s14 _ _ z) pl⟩,⟨vs,s34 _ _ e1,L2.Paired.mapP p2 ?_⟩,⟨cv,s4 _ _ upd_same,L2.Paired.mapP pc fun _ _ y=>cu (fun _ _ z=>s14 _ _ z) y⟩,ha0,s1.free hb,s12.free hc⟩;rintro x v ⟨t',q2,g,w,e,e2,hN,ng,nw⟩;exact ⟨t',q2,g,w,e,s34 _ _ e2,hN.same s34,ng,nw⟩
noncomputable def dm (K:Frag):Sp:=aC fun q=>bd fun H Q _=>∃ N:Net,NetAt H q N/\NetB N/\∀ (q':Addr) (H':Hp),Same H H'->NetAt H' q' N->Q (.ref q') H'
theorem fe (T:Top K mg):Callee P w K mg base 1 "_law_copied" ["_law_net_here"] (dm K):=by
 refine T.fU.cal cj (by unfold dm; exact LenSp.h) (fun _ _ _ _ _ _ us hl=>match us,hl with | [_],_=>rfl) (fun f cdv A outer s H vs Q E hr h=>?_);unfold dm at h;walk_at "el";refine ⟨_,(af (ar (i:=1) cj.nd rfl lc (aI ad))
   (af (dh PassesOwn.never rfl (iterE K rfl (aj (ixE K rfl) (qv 0) ac (fun _ _=>rfl))) (tupE K rfl rfl (n:=2) (az (ao (i:=2) cj.nd rfl lc) (az (ao (i:=3) cj.nd rfl lc) bM))) (ak (aO (aD (qv 1) (aq (aa (qv 2) (aa (aq (aa (bn (nt:=2) (fi:=[]) (N':=["_law_door", "_law_rules"]) rfl (cscope rfl (by decide +kernel)) (cnames (N:=["_law_net_here", "_law_houses", "_law_name", "_law_house_here"]) (sc:=defScope cE) rfl rfl (by decide +kernel)) (ft (by decide) (by decide)) (iterE K rfl (aj (ixE K rfl) (qv 3) ac (fun _ _=>rfl))) (fun _ _ _ _ _=>(tupE K rfl rfl (n:=2) (az (ao (i:=0) (by show (["_law_door", "_law_rules"]:List Str).Nodup; decide +kernel) rfl lc) (az (ao (i:=1) (by show (["_law_door", "_law_rules"]:List Str).Nodup; decide +kernel) rfl lc) bM)))) (fun _ _ _ _ _=>aQ) (fun _ _ _ _ _=>(aq (aa (qv 0) (aa (bH (bB K rfl rfl) rfl T.cD ck (aa (qv 1) ad)) ad))))) (aa (bH (bB K rfl rfl) rfl T.cD ck (aa (aj (ixE K rfl) (qv 3) ac (fun _ _=>rfl)) ad)) ad))) ad)))))))
   (ak (aF (aq (aa (bH (bB K rfl rfl) rfl T.cD ck (aa (aj (ixE K rfl) (qv 0) ac (fun _ _=>rfl)) ad)) (aa (qv 1) (aa (bH (bB K rfl rfl) rfl T.cD ck (aa (aj (ixE K rfl) (qv 0) ac (fun _ _=>rfl)) ad)) ad)))))))),?_⟩
 rename_i q;obtain ⟨N,⟨la,ha,ca,et,hL,hH,hC⟩,nb,q'⟩:=h;obtain ⟨lv,el,pl⟩:=id hL;obtain ⟨hv,eh,ph⟩:=id hH;obtain ⟨cv,ec,pc⟩:=id hC;have hhl:=ph.length;have h4:=nb.h4;walk_at "rd";refine ⟨Nat.zero_le _,fun A hA=>?_⟩;have sA:=ae hA (.lst []);refine ⟨_,V.ref ha,.inr (SqT.of (sA _ _ et)),rfl,?_⟩;walk_at "rd";refine .inl ⟨⟨_,SqL.of (sA _ _ eh)⟩,?_⟩;refine dU (xs:=hv) (fun i σ H'=>∃ (vs:List V) (u2 u3:Option V),σ = [some (.ref q),some (.ref A),u2,u3]/\Same H H'/\H' A=some (.lst vs)/\Paired (NamedAt (hole A H')) (N.2.1.take i) vs)
  ⟨[],none,none,rfl,sA,upd_same,.nil⟩ (fun i σ H' _ ⟨_,_,_,_,z,_⟩=>SqL.of (z _ _ eh)) ?_ ?_
 ·rintro i x σ H5 hx ⟨vs,u2,u3,rfl,s5,eA,pA⟩;have hi:i < hv.length:=(List.getElem?_eq_some_iff.mp hx).1;have hil:i < N.2.1.length:=by omega
  obtain ⟨y,hy,t,hq,ey,ett,hHq⟩:=bp ph (List.getElem?_eq_getElem hil);obtain rfl:x=.ref t:=by rw [hy] at hx; rw [<- Option.some.inj hx,ey]
  have hb5:=nb.house _ (List.getElem_mem hil);obtain ⟨gp,wp,eq1,⟨gv,eg,pg⟩,⟨wv,ew,pw⟩⟩:=hHq;have hgl:=pg.length;have g3:=hb5.g3;obtain ⟨z1,z2⟩:=aE pg;refine ⟨t,[_,_],rfl,SqT.of (s5 _ _ ett),rfl,_,[_],rfl,_,[],rfl,rfl,?_⟩;walk_at "rd";refine ⟨⟨_,eA⟩,_,V.ref gp,.inr (SqT.of (s5 _ _ eq1)),rfl,?_⟩;walk_at "rd";refine .inl ⟨⟨_,SqL.of (s5 _ _ eg)⟩,fun B hB=>?_⟩;have nAB:A≠B:=fun z=>by rw [<- z,eA] at hB; cases hB
  refine cX (N.2.1[i].2.1.zip gv) (fun x v H'=>GateN (fun r=>r≠B/\r≠A) H' x.1 v) hB (by rw [List.length_zip]; omega) (fun j H1 hj s2=>⟨gv,gv[j]'(by rw [List.length_zip] at hj; omega),SqL.of (s2 _ _ (s5 _ _ eg)),List.getElem?_eq_getElem _⟩) (fun H1 s2=>⟨gv,SqL.of (s2 _ _ (s5 _ _ eg)),by rw [List.length_zip]; omega⟩) ?_ ?_ ?_ ?_
  ·rintro j H1 v H2 _ ⟨rfl,_⟩;exact Same.refl _
  ·rintro x v H1 H2 acc hd k ⟨t',r,rfl,nr,et',⟨rv,er,pr⟩⟩;have tp:∀ t ts,H1 t=some (.tup ts)->H2 t=some (.tup ts):=fun t ts z=>k _ _ (fun y=>by rw [y,hd] at z; cases z) z
   exact ⟨t',r,rfl,nr,tp _ _ et',⟨rv,k _ _ nr.1 er,bz tp pr⟩⟩
  ·rintro j x v H1 H2 out non hx s2 nD ⟨rfl,a1⟩ ho;obtain ⟨y1,y2⟩:=List.getElem?_zip_eq_some.mp hx;have y3:=a1 gv (SqL.of (s2 _ _ (s5 _ _ eg)));rw [y2] at y3;have y4:=Option.some.inj y3;obtain ⟨tg,r,ex,etg,⟨rv,er,pr⟩⟩:=z2 x (List.mem_of_getElem? hx);rw [<- y4,ex];have s52:=s5.trans s2;refine ⟨tg,[_,_],rfl,SqT.of (s52 _ _ etg),rfl,_,[_],rfl,_,[],rfl,rfl,?_⟩;walk_at "rd";refine ⟨rv,.inl (SqL.of (s52 _ _ er)),fun r2 hr2=>⟨by decide,fun t2 ht2=>?_⟩⟩;have k2:=ae hr2 (.lst rv);have k3:=ae ht2 (.tup [tx x.1.1,V.ref r2]);have k23:=k2.trans k3;exact ho _ _ k23 ⟨t2,r2,rfl,⟨nD r2 hr2,fun z=>by rw [z,s2 _ _ eA] at hr2; cases hr2⟩,upd_same,⟨rv,k3 _ _ upd_same,bz (fun _ _ z=>(s52.trans k23) _ _ z) pr⟩⟩
  intro H6 us s6 e6 p6;have s56:=s5.trans s6;have eA6:=s6 _ _ eA;have hz:(N.2.1[i].2.1.zip gv).map Prod.fst=N.2.1[i].2.1:=bZ hgl;have p6:Paired (GateN (fun r=>r≠B/\r≠A) H6) N.2.1[i].2.1 us:=by
   rw [<- hz];exact bN p6
  refine ⟨_,V.ref wp,.inr (SqT.of (s56 _ _ eq1)),rfl,?_⟩;walk_at "rd";refine ⟨wv,.inl (SqL.of (s56 _ _ ew)),fun w hw=>⟨by decide,fun t7 ht7=>⟨by decide,fun t8 ht8=>?_⟩⟩⟩;have k6:=ae hw (.lst wv);have k7:=ae ht7 (.tup [V.ref B,V.ref w]);have k8:=ae ht8 (.tup [tx N.2.1[i].1,V.ref t7]);have k68:=k6.trans (k7.trans k8);have eA8:=k68 _ _ eA6;have nwA:w≠A:=fun z=>by rw [z,eA6] at hw; cases hw
  have hvl:=pA.length;rw [List.length_take] at hvl;refine ⟨vs,eA8,sizeBig (by omega),vs++[.ref t8],_,_,rfl,aL (s56.trans k68) hA,upd_same,?_⟩;rw [ci,List.take_add_one,List.getElem?_eq_getElem hil,Option.toList_some];have s68:=s6.trans k68;refine aw (L2.Paired.mapP pA fun _ _ ⟨t',q',e,h1,h2⟩=>⟨t',q',e,aA s68 _ _ h1,h2.same (aA s68)⟩) ⟨t8,t7,rfl,bv eA8 upd_same,B,w,bv eA8 (k8 _ _ upd_same),⟨us,?_,?_⟩,?_⟩
  ·rw [bu (Ne.symm nAB)];exact k68 _ _ e6
  ·refine L2.Paired.mapP p6 ?_;rintro x v ⟨t',r,e,n,h1,h2⟩;exact ⟨t',r,e,bv eA8 (k68 _ _ h1),ed eA8 n.2 (h2.same k68)⟩
  ·exact ⟨wv,by rw [bu nwA]; exact k8 _ _ (k7 _ _ upd_same),aM (fun _ _=>bv eA8) (aM (fun _ _ z=>(s56.trans k68) _ _ z) pw)⟩
 ·rintro σ H5 ⟨vs,u2,u3,rfl,s5,eA,pA⟩;rw [<- hhl,List.take_length] at pA;walk_at "rd";refine ⟨_,V.ref la,.inr (SqT.of (s5 _ _ et)),rfl,?_⟩;walk_at "rd";refine ⟨lv,.inl (SqL.of (s5 _ _ el)),fun l6 hl6=>?_⟩;have k6:=ae hl6 (.lst lv);refine ⟨_,V.ref ca,.inr (SqT.of ((s5.trans k6) _ _ et)),rfl,?_⟩;walk_at "rd";refine ⟨cv,.inl (SqL.of ((s5.trans k6) _ _ ec)),fun c7 hc7=>⟨by decide,fun t8 ht8=>?_⟩⟩;have k7:=ae hc7 (.lst cv);have k8:=ae ht8 (.tup [V.ref l6,V.ref A,V.ref c7]);have k68:=k6.trans (k7.trans k8);have s8:=s5.trans k68;have sm:=(cb (g:=A) (H:=H5)).trans k68;exact q' t8 _ s8 ⟨l6,A,c7,upd_same,⟨lv,(k7.trans k8) _ _ upd_same,bR (fun _ _ z=>s8 _ _ z) pl⟩,⟨vs,k68 _ _ eA,L2.Paired.mapP pA fun _ _ ⟨t',q'',e,h1,h2⟩=>⟨t',q'',e,sm _ _ h1,h2.same sm⟩⟩,⟨cv,k8 _ _ upd_same,L2.Paired.mapP pc fun _ _ y=>cu (fun _ _ z=>s8 _ _ z) y⟩⟩
structure Alike (N M:Net):Prop where
 lay:M.1=N.1
 lines:M.2.2=N.2.2
 doors:doorsOf M.2.1=doorsOf N.2.1
noncomputable def dJ (K:Frag):Sp:=aC fun a=>bi fun m=>bi fun z=>bd fun H Q _=>∃ (ns:List Int),SqL K H a (ns.map V.int)/\1<=m/\m<=4/\z=0 /\
   ∀ (t q1 q2:Addr) (v:V) (H':Hp) (N M:Net),Same H H'->H' t=some (.tup [.ref q1,.ref q2,v])->NetAt H' q1 N->NetAt H' q2 M->NetB N->NetB M->Alike N M->Q (.ref t) H'
theorem jl (T:Top K mg):Callee P w K mg base 6 "_law_twins" ["_law_script", "_law_most", "_law_spare"] (dJ K):=by
 refine T.gH.cal aJ (by unfold dJ; exact LenSp.h) (fun _ _ _ _ _ _ us hl=>match us,hl with | [_,_,_],_=>rfl) (fun f cdv A outer s H vs Q E hr h=>?_);unfold dJ at h;walk_at "el";refine ⟨_,(af (ar (i:=3) aJ.nd rfl lc (aj (ixE K rfl) (aI (aa ac (aa ac (aa ac (aa (ai ah ac (av (ap T) hr.m rfl (aa (qv 0) (aa ac (aa ac ad))))) ad))))) (av (ap T) hr.m rfl (aa (qv 0) (aa ac (aa ac ad)))) (fun _ _=>rfl)))
   (af (ar (i:=4) aJ.nd rfl lc (oB gf (av (ap T) hr.m rfl (aa (qv 0) (aa ac (aa ac ad)))) ac))
   (af (ar (i:=5) aJ.nd rfl lc (av (kC T) hr.m rfl (aa (qv 0) (aa ac (aa (qv 1) (aa (qv 2) ad))))))
   (af (ar (i:=6) aJ.nd rfl lc (aI ad))
   (af (dh PassesOwn.never rfl (aR rfl T.bD (aB (lenE K rfl) rfl T.cq bL (aa (aj (ixE K rfl) (qv 5) ac (fun _ _=>rfl)) ad))) (ao (i:=7) aJ.nd rfl lc) (af (j8 (aj (ixE K rfl) (aj (ixE K rfl) (qv 5) ac (fun _ _=>rfl)) (qv 7) (fun _ _=>rfl)) (seqE K rfl rfl (n:=2) (az (ao (i:=8) aJ.nd rfl lc) (az (ao (i:=9) aJ.nd rfl lc) bM))))
   (bV (b9 (aV ka (av (ap T) hr.m rfl (aa (qv 0) (aa (ai ah ac (qv 7)) (aa ac ad)))) ac) (af (cS (i:=10) (nt:=1) (fi:=[]) (N':=["_law_gate"]) aJ.nd rfl lc rfl (cscope rfl (by decide +kernel)) (cnames (N:=["_law_script", "_law_most", "_law_spare", "_law_size", "_law_front", "_law_one", "_law_houses", "_law_j", "_law_name", "_law_house_here", "_law_doors", "_law_other"]) (sc:=defScope cR) rfl rfl (by decide +kernel)) (aS (by decide)) (iterE K rfl (aj (ixE K rfl) (qv 9) ac (fun _ _=>rfl))) (fun _ _ _ _ _=>(ao (i:=0) (by show (["_law_gate"]:List Str).Nodup; decide +kernel) rfl lc)) (fun _ _ _ _ _=>aQ) (fun _ _ _ _ _=>(aj (ixE K rfl) (qv 0) ac (fun _ _=>rfl))))
   (ak (ar (i:=9) aJ.nd rfl lc (av (fJ T) hr.m rfl (aa (qv 0) (aa (ai ah ac (ai bj ac (qv 7))) (aa (aj (ixE K rfl) (qv 5) ac (fun _ _=>rfl)) (aa (qv 10) (aa (av (ap T) hr.m rfl (aa (qv 0) (aa ac (aa ac ad)))) ad))))))))) aZ)
   (ak (aO (aD (qv 6) (aq (aa (qv 8) (aa (qv 9) ad)))))))))
   (af (ar (i:=11) aJ.nd rfl lc (av (fI T) hr.m rfl (aa (aq (aa (aj (ixE K rfl) (qv 5) ac (fun _ _=>rfl)) (aa (qv 6) (aa (aj (ixE K rfl) (qv 5) ac (fun _ _=>rfl)) ad)))) (aa (qv 3) (aa (qv 4) ad)))))
   (ak (aF (aq (aa (av (fI T) hr.m rfl (aa (qv 5) (aa (qv 3) (aa (qv 4) ad)))) (aa (qv 11) (aa (aq (aa (qv 3) (aa (qv 4) ad))) ad)))))))))))),?_⟩
 rename_i a m z;obtain ⟨ns,hS,hm1,hm4,rfl,q⟩:=h;walk_at "rd";refine aW hS (by decide) (by decide) (by decide) (by decide) fun r1 hr1=>?_
 walk_at "rd";refine ⟨by decide,fun p1 hp1=>?_⟩;have s1:=ae hp1 (.lst [V.int 0,V.int 0,V.int 0,V.int (1+(r1:Int))]);refine aW (s1.seq hS) (by decide) (by decide) (by decide) (by decide) fun r2 hr2=>?_
 walk_at "rd";obtain ⟨S,hS42,eS⟩:∃ S:Nat,S<=42/\atI [V.int 0,V.int 0,V.int 0,V.int (1+(r1:Int))] (r2:Int)=some (nV S):=by
  rcases (by omega:r2=0\/r2=1\/r2=2\/r2=3) with rfl | rfl | rfl | rfl
  ·exact ⟨0,by decide,rfl⟩
  ·exact ⟨0,by decide,rfl⟩
  ·exact ⟨0,by decide,rfl⟩
  ·exact ⟨1+r1,by omega,by show some (V.int (1+(r1:Int)))=_; push_cast; rfl⟩
 refine ⟨_,_,.inl (SqL.of upd_same),eS,?_⟩;refine aW (s1.seq hS) (by decide) (by decide) (by decide) (by decide) fun r3 hr3=>?_
 walk_at "rd";refine ⟨ns,s1.seq hS,by decide,by decide,hm1,hm4,rfl,fun n1 H2 N hn1 s2 hN nb hsz hl3 hsh=>?_⟩;have s12:=s1.trans s2;obtain ⟨la,ha,ca,et,hL,hH,hC⟩:=id hN;obtain ⟨hv,eh,ph⟩:=id hH;have hhl:=ph.length;have h4:=nb.h4;walk_at "rd";refine ⟨Nat.zero_le _,fun A hA=>?_⟩;have sA:=ae hA (.lst []);refine ⟨_,V.ref ha,.inr (SqT.of (sA _ _ et)),rfl,?_⟩;walk_at "rd";refine ⟨_,.inl (SqL.of (sA _ _ eh)),by omega,by omega,?_⟩;rw [Int.toNat_natCast];generalize decide ((r3:Int)=0)=fr;refine cB (lo:=0) (n:=hv.length) (fun i σ H'=>∃ (hs:List Named) (vs:List V) (u7 u8 u9 u10:Option V),σ = [some (.ref a),some (.int m),some (.int 0),some (nV S),some (.bl fr),some (.ref n1),some (.ref A),u7,u8,u9,u10,none]/\Same H2 H'/\H' A=some (.lst vs)/\Paired (NamedAt (hole A H')) hs vs/\doorsOf hs=doorsOf (N.2.1.take i)/\∀ x ∈ hs,HouseB x.2/\HouseS x.2)
  ⟨[],[],none,none,none,none,rfl,sA,upd_same,.nil,by simp [doorsOf],fun x hx=>by simp at hx⟩ ?_ ?_
 ·rintro i σ H5 hi ⟨hs,vs,u7,u8,u9,u10,rfl,s5,eA,pA,hdo,hhb⟩;have hil:i < N.2.1.length:=by omega
  obtain ⟨y,hy,t,hq,ey,ett,hHq⟩:=bp ph (List.getElem?_eq_getElem hil);subst ey;have hmem:=List.getElem_mem hil;have hb5:=nb.house _ hmem;have hvl:=pA.length;have hhs:hs.length=i:=by
   have:=congrArg List.length hdo;unfold doorsOf at this;rw [List.length_map,List.length_map,List.length_take] at this;omega
  walk_at "rd";refine ⟨_,V.ref ha,.inr (SqT.of (s5 _ _ et)),rfl,?_⟩;walk_at "rd";refine ⟨_,V.ref t,.inl (SqL.of (s5 _ _ eh)),bw hy,[_,_],.inr (SqT.of (s5 _ _ ett)),rfl,_,[_],rfl,_,[],rfl,rfl,?_⟩;have sh5:Same H2 (hole A H5):=gY s5 hA;have s15:=s12.trans s5;walk_at "rd";refine ⟨fun σ' H'=>∃ (q':Addr) (h':House) (u10:Option V),σ'=[some (.ref a),some (.int m),some (.int 0),some (nV S),some (.bl fr),some (.ref n1),some (.ref A),some (nV i),some (tx N.2.1[i].1),some (.ref q'),u10,none]/\Same H5 H'/\HouseAt (hole A H') q' h'/\HouseB h'/\HouseS h'/\h'.1.map (·.1)=N.2.1[i].2.1.map (·.1),?_,?_⟩
  ·refine aW (s15.seq hS) (by omega) (by omega) (by decide) (by decide) fun r4 hr4=>?_
   walk_at "rd";refine ite2 (fun _=>?_) fun _=>⟨hq,N.2.1[i].2,_,rfl,Same.refl _,hHq.same sh5,hb5,hsh _ hmem,rfl⟩
   obtain ⟨gp,wp,eq1,⟨gv,eg,pg⟩,_⟩:=id hHq;have hgl:=pg.length;have g3:=hb5.g3;have g1:=hb5.g1;obtain ⟨z1,z2⟩:=aE pg;refine ⟨_,V.ref gp,.inr (SqT.of (s5 _ _ eq1)),rfl,?_⟩;walk_at "rd";refine .inl ⟨⟨_,SqL.of (s5 _ _ eg)⟩,fun D hD=>?_⟩;refine cV (item:=fun x:Gate × V=>x.2) (xs:=N.2.1[i].2.1.zip gv) (h:=fun x=>[tx x.1.1]) hD (by rw [z1]; exact SqL.of (s5 _ _ eg)) (by rw [List.length_zip]; omega) (fun _=>by simp) ?_ ?_
   ·intro x H6 out non hx s6 ho _;obtain ⟨tg,r,ex,etg,_⟩:=z2 x hx;rw [ex];walk_at "rd";exact ⟨_,_,.inr (SqT.of (s6 _ _ (s5 _ _ etg))),rfl,ho _ _ rfl (Same.refl _)⟩
   intro H6 s6 e6;rw [show (N.2.1[i].2.1.zip gv).flatMap (fun x=>[tx x.1.1])=(N.2.1[i].2.1.map (·.1)).map tx by
    rw [cz (fun x:Gate × V=>tx x.1.1)]
    conv=>rhs; rw [<- bZ (l:=N.2.1[i].2.1) (m:=gv) hgl,List.map_map,List.map_map]
    rfl] at e6
   have s56:=s5.trans s6;have s16:=s12.trans s56;refine ⟨.inl ⟨by decide,by decide⟩,_,V.ref la,.inr (SqT.of (s56 _ _ et)),rfl,?_⟩;refine aW (s16.seq hS) (by decide) (by decide) (by decide) (by decide) fun r5 hr5=>?_
   walk_at "rd";refine ⟨ns,N.1,N.2.1[i].2.1.map (·.1),s16.seq hS,by omega,by omega,hL.same s56,nb.lay,fun x hx=>(hsz x hx).1,e6,hb5.nd,by rw [List.length_map]; omega,by rw [List.length_map]; omega,by omega,by omega,fun q7 g w H7 h7 hq7 hg hw s7 hN7 hok7 hsh7 hd7=>?_⟩;have eA6:=s6 _ _ eA;have eA7:=s7 _ _ eA6;have ne:∀ r,H6 r=none->r≠A:=fun r hr z=>by rw [z,eA6] at hr; cases hr
   refine ⟨q7,h7,_,rfl,s6.trans s7,?_,hok7,hsh7,hd7⟩;obtain ⟨gv7,eg7,pg7⟩:=hN7.gates;obtain ⟨wv7,ew7,pw7⟩:=hN7.ways;refine ⟨g,w,bv eA7 hN7.tup,⟨gv7,by rw [bu (ne g hg)]; exact eg7,L2.Paired.mapP pg7 ?_⟩,⟨wv7,by rw [bu (ne w hw)]; exact ew7,aM (fun _ _=>bv eA7) pw7⟩⟩;rintro x v ⟨t',r,e,n,h1,h2⟩;exact ⟨t',r,e,bv eA7 h1,ed eA7 (ne r n.2.2) h2⟩
  ·rintro σ' H6 ⟨q',h',u10',rfl,s6,hH6,hb6,hsh6,hd6⟩;walk_at "rd";have eA6:=s6 _ _ eA;refine ⟨⟨_,eA6⟩,by decide,fun t8 ht8=>?_⟩;have k8:=ae ht8 (.tup [tx N.2.1[i].1,V.ref q']);have eA8:=k8 _ _ eA6;refine ⟨vs,eA8,sizeBig (by omega),hs++[(N.2.1[i].1,h')],vs++[.ref t8],_,_,_,_,rfl,aL (s5.trans (s6.trans k8)) hA,upd_same,?_,?_,fun x hx=>?_⟩
   ·rw [ci];have s68:=s6.trans k8;exact aw (L2.Paired.mapP pA fun _ _ ⟨t',q'',e,h1,h2⟩=>⟨t',q'',e,aA s68 _ _ h1,h2.same (aA s68)⟩) ⟨t8,q',rfl,bv eA8 upd_same,hH6.same (aA k8)⟩
   ·unfold doorsOf at hdo ⊢;rw [List.map_append,hdo,List.take_add_one,List.getElem?_eq_getElem hil,Option.toList_some,List.map_append,List.map_cons,List.map_nil,List.map_cons,List.map_nil];dsimp only;rw [hd6]
   ·rcases List.mem_append.mp hx with z | z
    ·exact hhb x z
    ·rw [List.mem_singleton.mp z];exact ⟨hb6,hsh6⟩
 ·rintro σ H5 ⟨hs,vs,u7,u8,u9,u10,rfl,s5,eA,pA,hdo,hhb⟩;rw [<- hhl,List.take_length] at hdo;have names:hs.map (·.1)=N.2.1.map (·.1):=by
   have:=congrArg (List.map (·.1)) hdo;unfold doorsOf at this;rw [List.map_map,List.map_map] at this;exact this
  have hlen:hs.length=N.2.1.length:=by
   have:=congrArg List.length names;rw [List.length_map,List.length_map] at this;exact this
  have pA5:Paired (NamedAt H5) hs vs:=L2.Paired.mapP pA fun _ _ ⟨t',q'',e,h1,h2⟩=>⟨t',q'',e,cb _ _ h1,h2.same cb⟩
  walk_at "rd";refine ⟨_,V.ref la,.inr (SqT.of (s5 _ _ et)),rfl,_,V.ref ca,.inr (SqT.of (s5 _ _ et)),rfl,by decide,fun t6 ht6=>?_⟩;have k6:=ae ht6 (.tup [V.ref la,V.ref A,V.ref ca]);have s6:=s5.trans k6;have nbM:NetB (N.1,hs,N.2.2):=by
   refine ⟨nb.lay,?_,by show 1<=hs.length; have:=nb.h1; omega,by show hs.length<=4; omega,fun x hx=>?_,fun x hx=>(hhb x hx).1,nb.ends,nb.l6⟩
   ·show (hs.map (·.1)).Nodup;rw [names];exact nb.nd
   ·have:x.1 ∈ N.2.1.map (·.1):=by rw [<- names]; exact List.mem_map.mpr ⟨x,hx,rfl⟩
    obtain ⟨y,hy,e⟩:=List.mem_map.mp this;rw [<- e];exact nb.low y hy
  refine ⟨(N.1,hs,N.2.2),S,⟨la,A,ca,upd_same,hL.same s6,⟨vs,k6 _ _ eA,L2.Paired.mapP pA5 fun _ _ ⟨t',q'',e,h1,h2⟩=>⟨t',q'',e,k6 _ _ h1,h2.same k6⟩⟩,hC.same s6⟩,nbM,hl3,fun x hx=>(hsz x hx).2,fun x hx=>(hhb x hx).2,rfl,hS42,fun q7 H7 M s7 hM nbM' eM1 eM2 eM3=>?_⟩;walk_at "rd";have s67:=s6.trans s7;refine ⟨N,S,hN.same s67,nb,hl3,fun x hx=>(hsz x hx).2,hsh,rfl,hS42,fun q8 H8 N8 s8 hN8 nb8 e81 e82 e83=>⟨by decide,fun t9 ht9=>⟨by decide,fun t10 ht10=>?_⟩⟩⟩;have k9:=ae ht9 (.tup [nV S,.bl fr]);have k10:=ae ht10 (.tup [V.ref q8,V.ref q7,V.ref t9]);have k90:=k9.trans k10;refine q t10 q8 q7 (.ref t9) _ N8 M (s12.trans (s67.trans (s8.trans k90))) upd_same (hN8.same k90) (hM.same (s8.trans k90)) nb8 nbM' ⟨eM1.trans e81.symm,eM2.trans e82.symm,?_⟩;rw [eM3,e83];exact hdo
mutual
noncomputable def gdD:D->Bool
 | .f (.str _)=>true
 | .f (.int _)=>true
 | .f _=>false
 | .l xs=>gdDs xs
 | .t xs=>gdDs xs
noncomputable def gdDs:List D->Bool
 | []=>true
 | x::xs=>gdD x && gdDs xs
end
mutual
theorem fz:∀ (d e:D),gdD d=true->gdD e=true->(eqD d e=true ↔ d=e)
 | .f x,.f y,h1,h2=>by
  cases x <;> cases y <;> simp_all [gdD,eqD,eqV]
 | .l xs,.l ys,h1,h2=>by
  rw [eqD,eqDs_iff xs ys (by rw [gdD] at h1; exact h1) (by rw [gdD] at h2; exact h2)];simp
 | .t xs,.t ys,h1,h2=>by
  rw [eqD,eqDs_iff xs ys (by rw [gdD] at h1; exact h1) (by rw [gdD] at h2; exact h2)];simp
 | .f _,.l _,_,_=>by simp [eqD]
 | .f _,.t _,_,_=>by simp [eqD]
 | .l _,.f _,_,_=>by simp [eqD]
 | .l _,.t _,_,_=>by simp [eqD]
 | .t _,.f _,_,_=>by simp [eqD]
 | .t _,.l _,_,_=>by simp [eqD]
theorem eqDs_iff:∀ (ds es:List D),gdDs ds=true->gdDs es=true->(eqDs ds es=true ↔ ds=es)
 | [],[],_,_=>by simp [eqDs]
 | [],_::_,_,_=>by simp [eqDs]
 | _::_,[],_,_=>by simp [eqDs]
 | x::xs,y::ys,h1,h2=>by
  rw [gdDs,Bool.and_eq_true] at h1 h2;rw [eqDs,Bool.and_eq_true,fz x y h1.1 h2.1,eqDs_iff xs ys h1.2 h2.2];simp
end
theorem b5 {α:Type} {f:α -> D}:∀ l:List α,(∀ x ∈ l,gdD (f x)=true)->gdDs (l.map f)=true
 | [],_=>by simp [gdDs]
 | x::l,h=>by rw [List.map_cons,gdDs,h x List.mem_cons_self,b5 l fun y hy=>h y (List.mem_cons_of_mem _ hy)]; rfl
theorem gx {α β:Type} {f:α -> β} (inj:∀ x y,f x=f y->x=y):∀ {l m:List α},l.map f=m.map f->l=m
 | [],[],_=>rfl
 | [],_::_,h=>by simp at h
 | _::_,[],h=>by simp at h
 | x::l,y::m,h=>by
  rw [List.map_cons,List.map_cons,List.cons.injEq] at h;rw [inj x y h.1,gx inj h.2]
theorem iL {a b:List Nat} (h:tx a=tx b):a=b:=by
 have:st a=st b:=by injection h
 exact rT.mp this
noncomputable def layD (ls:List Fld):D:=.l (ls.map fldD)
noncomputable def lineD (x:Line):D:=.t [wayD x.1,wayD x.2]
noncomputable def linesD (ls:List Line):D:=.l (ls.map lineD)
noncomputable def doorD (x:List Nat × List (List Nat)):D:=.t [.f (tx x.1),.l (x.2.map fun d=>.f (tx d))]
noncomputable def doorsD (ds:List (List Nat × List (List Nat))):D:=.l (ds.map doorD)
theorem oN (x y:Fld) (h:fldD x=fldD y):x=y:=by
 unfold fldD at h;simp only [D.t.injEq,List.cons.injEq,D.f.injEq,and_true] at h;have e2:(x.2:Int)=(y.2:Int):=by injection h.2
 exact Prod.ext (iL h.1) (by omega)
theorem kT (x y:Way) (h:wayD x=wayD y):x=y:=by
 unfold wayD at h;simp only [D.t.injEq,List.cons.injEq,D.f.injEq,and_true] at h;exact Prod.ext (iL h.1) (iL h.2)
theorem mw (x y:Line) (h:lineD x=lineD y):x=y:=by
 unfold lineD at h;simp only [D.t.injEq,List.cons.injEq,and_true] at h;exact Prod.ext (kT _ _ h.1) (kT _ _ h.2)
theorem mO (x y:List Nat × List (List Nat)) (h:doorD x=doorD y):x=y:=by
 unfold doorD at h;simp only [D.t.injEq,List.cons.injEq,D.f.injEq,D.l.injEq,and_true] at h;refine Prod.ext (iL h.1) (gx (f:=fun d=>D.f (tx d)) (fun a b e=>iL (by simpa using e)) h.2)
theorem sq (a b:List Fld):eqD (layD a) (layD b)=decide (a=b):=by
 have g:∀ l:List Fld,gdD (layD l)=true:=fun l=>by
  unfold layD;rw [gdD];exact b5 l fun x _=>by simp [fldD,gdD,gdDs]
 rw [Bool.eq_iff_iff,decide_eq_true_iff,fz _ _ (g a) (g b)];constructor
 ·intro h;unfold layD at h;exact gx oN (by simpa using h)
 ·exact fun h=>by rw [h]
theorem oV (a b:List Line):eqD (linesD a) (linesD b)=decide (a=b):=by
 have g:∀ l:List Line,gdD (linesD l)=true:=fun l=>by
  unfold linesD;rw [gdD];exact b5 l fun x _=>by simp [lineD,wayD,gdD,gdDs]
 rw [Bool.eq_iff_iff,decide_eq_true_iff,fz _ _ (g a) (g b)];constructor
 ·intro h;unfold linesD at h;exact gx mw (by simpa using h)
 ·exact fun h=>by rw [h]
theorem nJ (a b:List (List Nat × List (List Nat))):eqD (doorsD a) (doorsD b)=decide (a=b):=by
 have g:∀ l,gdD (doorsD l)=true:=fun l=>by
  unfold doorsD;rw [gdD];refine b5 l fun x _=>?_
  unfold doorD;rw [gdD,gdDs,gdDs,gdDs,gdD,gdD,b5 x.2 fun d _=>by rw [gdD]];rfl
 rw [Bool.eq_iff_iff,decide_eq_true_iff,fz _ _ (g a) (g b)];constructor
 ·intro h;unfold doorsD at h;exact gx mO (by simpa using h)
 ·exact fun h=>by rw [h]
theorem gU {H:Hp} {p:Addr} {ls:List Fld} (h:Lay H p ls):Deep K H 4 (.ref p) (layD ls):=by
 obtain ⟨vs,e,pr⟩:=h;refine .inr (.inl ⟨p,vs,ls.map fldD,rfl,rfl,SqL.of e,?_⟩);clear e
 induction pr with
 | nil=>exact .nil
 | cons r _ ih=>
  obtain ⟨t,rfl,q⟩:=r;exact .cons (.inr (.inr ⟨t,_,_,rfl,rfl,SqT.of q,.cons (bE 2 rfl) (.cons (bE 2 rfl) .nil)⟩)) ih
theorem gZ {H:Hp} {x:Way} {v:V} (n:Nat) (h:WayAt H x v):Deep K H (n+1) v (wayD x):=by
 obtain ⟨t,rfl,q⟩:=h;exact .inr (.inr ⟨t,_,_,rfl,rfl,SqT.of q,.cons (bE n rfl) (.cons (bE n rfl) .nil)⟩)
theorem fj {H:Hp} {p:Addr} {ls:List Line} (h:Lines H p ls):Deep K H 4 (.ref p) (linesD ls):=by
 obtain ⟨vs,e,pr⟩:=h;refine .inr (.inl ⟨p,vs,ls.map lineD,rfl,rfl,SqL.of e,?_⟩);clear e
 induction pr with
 | nil=>exact .nil
 | cons r _ ih=>
  obtain ⟨t,u1,u2,rfl,q,w1,w2⟩:=r;exact .cons (.inr (.inr ⟨t,_,_,rfl,rfl,SqT.of q,.cons (gZ 1 w1) (.cons (gZ 1 w2) .nil)⟩)) ih
theorem hJ {H:Hp} {p:Addr} {ls:List (List Nat)} (n:Nat) (e:H p=some (.lst (ls.map tx))):Deep K H (n+1) (.ref p) (.l (ls.map fun d=>.f (tx d))):=by
 refine .inr (.inl ⟨p,_,_,rfl,rfl,SqL.of e,?_⟩);clear e
 induction ls with
 | nil=>exact .nil
 | cons x l ih=>exact .cons (bE n rfl) ih
def NetL (N:Net):Prop:=N.2.1.length<=100/\∀ x ∈ N.2.1,x.2.1.length<=100
theorem NetB.l {N:Net} (h:NetB N):NetL N:=⟨Nat.le_trans h.h4 (by decide),fun x hx=>Nat.le_trans (h.house x hx).g3 (by decide)⟩
noncomputable def df (K:Frag):Sp:=aC fun q=>bd fun H Q _=>∃ h:House,HouseAt H q h/\h.1.length<=100/\∀ p H',H p=none->Same H H'->H' p=some (.lst ((h.1.map (·.1)).map tx))->Q (.ref p) H'
theorem i6 (T:Top K mg):Callee P w K mg base 1 "house_doors" ["house"] (df K):=by
 refine T.fO.cal ix (by unfold df; exact LenSp.h) (fun _ _ _ _ _ _ us hl=>match us,hl with | [_],_=>rfl) (fun f cdv A outer s H vs Q E hr h=>?_);unfold df at h;walk_at "el";refine ⟨_,(ak (aF (bn (nt:=2) (fi:=[]) (N':=["door", "rules"]) rfl (cscope rfl (by decide +kernel)) (cnames (N:=["house"]) (sc:=defScope cG) rfl rfl (by decide +kernel)) (ft (by decide) (by decide)) (iterE K rfl (aj (ixE K rfl) (qv 0) ac (fun _ _=>rfl))) (fun _ _ _ _ _=>(tupE K rfl rfl (n:=2) (az (ao (i:=0) (by show (["door", "rules"]:List Str).Nodup; decide +kernel) rfl lc) (az (ao (i:=1) (by show (["door", "rules"]:List Str).Nodup; decide +kernel) rfl lc) bM)))) (fun _ _ _ _ _=>aQ) (fun _ _ _ _ _=>(qv 0))))),?_⟩;rename_i q;obtain ⟨h,⟨g,w,e,⟨gv,eg,pg⟩,_⟩,hl,q'⟩:=h;have hgl:=pg.length;obtain ⟨z1,z2⟩:=aE pg;walk_at "rd";refine ⟨_,V.ref g,.inr (SqT.of e),rfl,?_⟩;walk_at "rd";refine .inl ⟨⟨_,SqL.of eg⟩,fun D hD=>?_⟩;refine cV (item:=fun x:Gate × V=>x.2) (xs:=h.1.zip gv) (h:=fun x=>[tx x.1.1]) hD (by rw [z1]; exact SqL.of eg) (by rw [List.length_zip]; omega) (fun _=>by simp) ?_ ?_
 ·intro x H6 out non hx s6 ho _;obtain ⟨tg,r,ex,etg,_⟩:=z2 x hx;rw [ex];refine ⟨tg,[_,_],rfl,SqT.of (s6 _ _ etg),rfl,_,[_],rfl,_,[],rfl,rfl,?_⟩;walk_at "rd";exact ho _ _ rfl (Same.refl _)
 intro H6 s6 e6;rw [show (h.1.zip gv).flatMap (fun x=>[tx x.1.1])=(h.1.map (·.1)).map tx by
  rw [cz (fun x:Gate × V=>tx x.1.1)]
  conv=>rhs; rw [<- bZ (l:=h.1) (m:=gv) hgl,List.map_map,List.map_map]
  rfl] at e6
 exact q' D H6 hD s6 e6
noncomputable def ek (K:Frag):Sp:=aC fun q=>bd fun H Q _=>∃ N:Net,NetAt H q N/\NetL N/\∀ p H',Same H H'->Deep K H' 4 (.ref p) (doorsD (doorsOf N.2.1))->Q (.ref p) H'
theorem gz (T:Top K mg):Callee P w K mg base 2 "net_doors" ["net"] (ek K):=by
 refine T.ia.cal jP (by unfold ek; exact LenSp.h) (fun _ _ _ _ _ _ us hl=>match us,hl with | [_],_=>rfl) (fun f cdv A outer s H vs Q E hr h=>?_);unfold ek at h;walk_at "el";refine ⟨_,(ak (aF (bn (nt:=2) (fi:=[]) (N':=["name", "house"]) rfl (cscope rfl (by decide +kernel)) (cnames (N:=["net"]) (sc:=defScope dA) rfl rfl (by decide +kernel)) (ft (by decide) (by decide)) (iterE K rfl (aj (ixE K rfl) (qv 0) ac (fun _ _=>rfl))) (fun _ _ _ _ _=>(tupE K rfl rfl (n:=2) (az (ao (i:=0) (by show (["name", "house"]:List Str).Nodup; decide +kernel) rfl lc) (az (ao (i:=1) (by show (["name", "house"]:List Str).Nodup; decide +kernel) rfl lc) bM)))) (fun _ _ _ _ _=>aQ) (fun _ _ _ _ _=>(aq (aa (qv 0) (aa (av (i6 T) hr.m rfl (aa (qv 1) ad)) ad))))))),?_⟩;rename_i q;obtain ⟨N,⟨la,ha,ca,et,hL,⟨hv,eh,ph⟩,hC⟩,nb,q'⟩:=h;have hhl:=ph.length;have h4:=nb.1;obtain ⟨z1,z2⟩:=aE ph;walk_at "rd";refine ⟨_,V.ref ha,.inr (SqT.of et),rfl,?_⟩;walk_at "rd";refine .inl ⟨⟨_,SqL.of eh⟩,fun D hD=>?_⟩;refine cX (N.2.1.zip hv) (fun x v H'=>∃ t l,v=.ref t/\l≠D/\H' t=some (.tup [tx x.1.1,.ref l])/\H' l=some (.lst ((x.1.2.1.map (·.1)).map tx))) hD (by rw [List.length_zip]; omega) (fun i H1 hi s2=>⟨hv,hv[i]'(by rw [List.length_zip] at hi; omega),SqL.of (s2 _ _ eh),List.getElem?_eq_getElem _⟩) (fun H1 s2=>⟨hv,SqL.of (s2 _ _ eh),by rw [List.length_zip]; omega⟩) ?_ ?_ ?_ ?_
 ·rintro i H1 v H2 _ ⟨rfl,_⟩;exact Same.refl _
 ·rintro x v H1 H2 acc hd k ⟨t,l,rfl,nl,e1,e2⟩;exact ⟨t,l,rfl,nl,k _ _ (fun y=>by rw [y,hd] at e1; cases e1) e1,k _ _ nl e2⟩
 ·rintro i x v H1 H2 out non hx s2 nD ⟨rfl,a1⟩ ho;obtain ⟨y1,y2⟩:=List.getElem?_zip_eq_some.mp hx;have y3:=a1 hv (SqL.of (s2 _ _ eh));rw [y2] at y3;have y4:=Option.some.inj y3;obtain ⟨t,q2,ex,e1,hHq⟩:=z2 x (List.mem_of_getElem? hx);have g3:=nb.2 x.1 (List.of_mem_zip (List.mem_of_getElem? hx)).1;rw [<- y4,ex];refine ⟨t,[_,_],rfl,SqT.of (s2 _ _ e1),rfl,_,[_],rfl,_,[],rfl,rfl,?_⟩;walk_at "rd";refine ⟨x.1.2,hHq.same s2,by omega,fun l H3 hl s3 e3=>⟨by decide,fun t2 ht2=>?_⟩⟩;have s4:=ae ht2 (.tup [tx x.1.1,V.ref l]);exact ho _ _ (s3.trans s4) ⟨t2,l,rfl,nD l hl,upd_same,s4 _ _ e3⟩
 intro H1 vs s1 e1 p1;refine q' D H1 s1 (.inr (.inl ⟨D,vs,_,rfl,rfl,SqL.of e1,?_⟩));have hz:(N.2.1.zip hv).map Prod.fst=N.2.1:=bZ hhl;have p2:Paired (fun (x:Named) v=>∃ t l,v=.ref t/\l≠D/\H1 t=some (.tup [tx x.1,.ref l])/\H1 l=some (.lst ((x.2.1.map (·.1)).map tx))) N.2.1 vs:=by
  rw [<- hz];exact bN p1
 clear p1 e1 hz;unfold doorsOf;rw [List.map_map];generalize N.2.1=hs at p2
 induction p2 with
 | nil=>exact .nil
 | cons r _ ih=>
  obtain ⟨t,l,rfl,_,h1,h2⟩:=r;exact .cons (.inr (.inr ⟨t,_,_,rfl,rfl,SqT.of h1,.cons (bE 2 rfl) (.cons (hJ 1 h2) .nil)⟩)) ih
theorem my {H H':Hp} {a:Addr} {xs:List V} (e:Same H H') (h:SqT K H a xs):SqT K H' a xs:=by
 rcases h with (h | ⟨o,h⟩) | h
 ·exact .inl (.inl (e _ _ h))
 ·exact .inl (.inr ⟨o,e _ _ h⟩)
 ·exact .inr h
theorem fY {H H':Hp} (s:Same H H'):∀ (n:Nat) (v:V) (d:D),Deep K H n v d->Deep K H' n v d
 | 0,_,_,h=>h
 | n+1,v,d,h=>by
  rcases h with h | ⟨a,vs,ds,e1,e2,h,p⟩ | ⟨a,vs,ds,e1,e2,h,p⟩
  ·exact .inl h
  ·exact .inr (.inl ⟨a,vs,ds,e1,e2,Same.seq s h,L2.Paired.mapP p fun _ _ z=>fY s n _ _ z⟩)
  ·exact .inr (.inr ⟨a,vs,ds,e1,e2,my s h,L2.Paired.mapP p fun _ _ z=>fY s n _ _ z⟩)
def Like (N M:Net):Prop:=N.1=M.1/\N.2.2=M.2.2/\doorsOf N.2.1=doorsOf M.2.1
noncomputable def bT (K:Frag):Sp:=aC fun p=>aC fun q=>bd fun H Q E=>∃ N M:Net,NetAt H p N/\NetAt H q M/\NetL N/\NetL M/\(Like N M->∀ H',Same H H'->Q .non H')/\(¬ Like N M->∀ H',Same H H'->E (.ref (xA K "Unlike")) none H')
theorem fF (T:Top K mg):CalleeX P w K mg base 3 "check_changeable" ["one", "other"] (bT K):=by
 refine T.dt.calX fH (by unfold bT; exact LenSp.h) (fun _ _ _ _ _ _ us hl=>match us,hl with | [_,_],_=>rfl) (fun f cdv A outer s H vs Q E hr h=>?_);unfold bT at h;walk_at "el";refine ⟨_,(af (b9 (aV (neDE K rfl hr) (aj (ixE K rfl) (qv 0) ac (fun _ _=>rfl)) (aj (ixE K rfl) (qv 1) ac (fun _ _=>rfl))) (ak (gm rfl fu rfl T.bx.1 T.bx.2 (aa (qs [116,104,101,32,108,97,121,111,117,116,115,32,97,114,101,32,110,111,116,32,101,113,117,97,108]) ad))) aZ)
   (af (b9 (aV (neDE K rfl hr) (aj (ixE K rfl) (qv 0) ac (fun _ _=>rfl)) (aj (ixE K rfl) (qv 1) ac (fun _ _=>rfl))) (ak (gm rfl fu rfl T.bx.1 T.bx.2 (aa (qs [116,104,101,32,108,105,110,101,115,32,97,114,101,32,110,111,116,32,101,113,117,97,108]) ad))) aZ)
   (ak (b9 (aV (neDE K rfl hr) (av (gz T) hr.m rfl (aa (qv 0) ad)) (av (gz T) hr.m rfl (aa (qv 1) ad))) (ak (gm rfl fu rfl T.bx.1 T.bx.2 (aa (qs [116,104,101,32,104,111,117,115,101,115,32,111,114,32,116,104,101,105,114,32,100,111,111,114,115,32,97,114,101,32,110,111,116,32,116,104,101,32,115,97,109,101]) ad))) aZ)))),?_⟩
 rename_i p q;obtain ⟨N,M,hN,hM,nb,mb,q1,q2⟩:=h;obtain ⟨la,ha,ca,et,hL,hH,hC⟩:=id hN;obtain ⟨la',ha',ca',et',hL',hH',hC'⟩:=id hM;walk_at "rd";refine ⟨_,V.ref la,.inr (SqT.of et),rfl,_,V.ref la',.inr (SqT.of et'),rfl,4,_,_,by decide,gU hL,gU hL',?_⟩;rw [sq];by_cases g1:N.1=M.1
 ·rw [decide_eq_true g1];walk_at "rd";refine ⟨_,V.ref ca,.inr (SqT.of et),rfl,_,V.ref ca',.inr (SqT.of et'),rfl,4,_,_,by decide,fj hC,fj hC',?_⟩;rw [oV];by_cases g2:N.2.2=M.2.2
  ·rw [decide_eq_true g2];walk_at "rd";refine ⟨N,hN,nb,fun d1 H1 s1 D1=>⟨M,hM.same s1,mb,fun d2 H2 s2 D2=>⟨4,_,_,by decide,fY s2 4 _ _ D1,D2,?_⟩⟩⟩;rw [nJ];by_cases g3:doorsOf N.2.1=doorsOf M.2.1
   ·rw [decide_eq_true g3];walk_at "rd";exact q1 ⟨g1,g2,g3⟩ H2 (s1.trans s2)
   ·rw [decide_eq_false g3];walk_at "rd";exact ⟨by decide,q2 (fun z=>g3 z.2.2) H2 (s1.trans s2)⟩
  ·rw [decide_eq_false g2];walk_at "rd";exact ⟨by decide,q2 (fun z=>g2 z.2.1) H (Same.refl _)⟩
 ·rw [decide_eq_false g1];walk_at "rd";exact ⟨by decide,q2 (fun z=>g1 z.1) H (Same.refl _)⟩
noncomputable def mixH (hs ks:List Named) (nm:List (List Nat)):List Named:=(hs.zip ks).map fun p=>if p.2.1 ∈ nm then p.2 else p.1
noncomputable def mixN (N M:Net) (nm:List (List Nat)):Net:=(N.1,mixH N.2.1 M.2.1 nm,N.2.2)
theorem jF {α β γ:Type} {f:α × α -> γ}:∀ {l m:List α} {u v:List β},l.length=u.length->m.length=v.length->((l.zip u).zip (m.zip v)).map (fun x=>f (x.1.1,x.2.1))=(l.zip m).map f
 | [],_,_,_,_,_=>by rw [List.zip_nil_left,List.zip_nil_left,List.zip_nil_left]; rfl
 | _::_,[],_,_,_,_=>by rw [List.zip_nil_left,List.zip_nil_right,List.zip_nil_right]; rfl
 | _::_,_::_,[],_,h,_=>by cases h
 | _::_,_::_,_::_,[],_,h=>by cases h
 | a::l,b::m,c::u,d::v,h,k=>by
  rw [List.zip_cons_cons,List.zip_cons_cons,List.zip_cons_cons,List.zip_cons_cons,List.map_cons,List.map_cons,jF (by simpa using h) (by simpa using k)]
noncomputable def fg (K:Frag):Sp:=aC fun p=>aC fun q=>aC fun l=>bd fun H Q _=>∃ (N M:Net) (nm:List (List Nat)),NetAt H p N/\NetAt H q M/\NetB N/\NetB M/\N.2.1.length=M.2.1.length/\H l=some (.lst (nm.map tx))/\∀ t H',Same H H'->NetAt H' t (mixN N M nm)->Q (.ref t) H'
theorem kB (T:Top K mg):Callee P w K mg base 1 "mixed_by" ["one", "other", "names"] (fg K):=by
 refine T.ja.cal km (by unfold fg; exact LenSp.h) (fun _ _ _ _ _ _ us hl=>match us,hl with | [_,_,_],_=>rfl) (fun f cdv A outer s H vs Q E hr h=>?_);unfold fg at h;walk_at "el";refine ⟨_,(ak (aF (aq (aa (aj (ixE K rfl) (qv 0) ac (fun _ _=>rfl)) (aa (bn (nt:=2) (fi:=[2]) (N':=["mine", "its", "names"]) rfl (cscope rfl (by decide +kernel)) (cnames (N:=["one", "other", "names"]) (sc:=defScope dZ) rfl rfl (by decide +kernel)) (ft (by decide) (by decide)) (pP rfl rfl T.ri (aj (ixE K rfl) (qv 0) ac (fun _ _=>rfl)) (aj (ixE K rfl) (qv 1) ac (fun _ _=>rfl))) (fun _ _ _ _ _=>(tupE K rfl rfl (n:=2) (az (ao (i:=0) (by show (["mine", "its", "names"]:List Str).Nodup; decide +kernel) rfl lc) (az (ao (i:=1) (by show (["mine", "its", "names"]:List Str).Nodup; decide +kernel) rfl lc) bM)))) (fun _ _ _ _ _=>aQ) (fun _ _ _ _ _=>(kP (aV (inE K rfl) (aj (ixE K rfl) (qv 1) ac (fun _ _=>rfl)) (qv 2)) (qv 1) (qv 0)))) (aa (aj (ixE K rfl) (qv 0) ac (fun _ _=>rfl)) ad)))))),?_⟩;rename_i p q l;obtain ⟨N,M,nm,hN,hM,nb,mb,hlen,el,q'⟩:=h;obtain ⟨la,ha,ca,et,hL,⟨hv,eh,ph⟩,hC⟩:=id hN;obtain ⟨la',ha',ca',et',hL',⟨hv',eh',ph'⟩,hC'⟩:=id hM;have hhl:=ph.length;have hhl':=ph'.length;have h4:=nb.h4;have z2:=(aE ph).2;have z2':=(aE ph').2;walk_at "rd";refine ⟨_,V.ref la,.inr (SqT.of et),rfl,_,V.ref ha,.inr (SqT.of et),rfl,_,V.ref ha',.inr (SqT.of et'),rfl,.inl ⟨⟨_,SqL.of eh⟩,⟨_,SqL.of eh'⟩,fun D hD=>?_⟩⟩;refine cX ((N.2.1.zip hv).zip (M.2.1.zip hv')) (fun x v _=>v=if x.2.1.1 ∈ nm then x.2.2 else x.1.2) hD (by simp only [List.length_zip]; omega) ?_ ?_ ?_ ?_ ?_ ?_
 ·intro i H1 hi s1;simp only [List.length_zip] at hi;exact ⟨⟨hv,hv[i]'(by omega),SqL.of (s1 _ _ eh),List.getElem?_eq_getElem _⟩,⟨hv',hv'[i]'(by omega),SqL.of (s1 _ _ eh'),List.getElem?_eq_getElem _⟩⟩
 ·intro H1 s1;exact .inl ⟨hv,SqL.of (s1 _ _ eh),by simp only [List.length_zip]; omega⟩
 ·rintro i H1 v H2 _ ⟨T,x,y,rfl,hT,rfl,_⟩;exact ae hT _
 ·intro x v H1 H2 acc _ _ h;exact h
 ·rintro i x v H1 H2 out non hx s1 nD ⟨T,u,w,rfl,hT,rfl,a1,a2⟩ ho;obtain ⟨y1,y2⟩:=List.getElem?_zip_eq_some.mp hx;obtain ⟨m1,m2⟩:=List.getElem?_zip_eq_some.mp y1;obtain ⟨m3,m4⟩:=List.getElem?_zip_eq_some.mp y2;have b1:=a1 hv (SqL.of (s1 _ _ eh));have b2:=a2 hv' (SqL.of (s1 _ _ eh'));rw [m2] at b1;rw [m4] at b2
  replace b1:=Option.some.inj b1
  replace b2:=Option.some.inj b2
  subst b1 b2;obtain ⟨t,q2,ex,e1,_⟩:=z2' x.2 (List.mem_of_getElem? y2);rw [ex] at ho ⊢;have sT:=ae hT (.tup [x.1.2,.ref t]);refine ⟨T,[_,_],rfl,SqT.of upd_same,rfl,_,[_],rfl,_,[],rfl,rfl,?_⟩;walk_at "rd";refine ⟨_,_,.inr (SqT.of (sT _ _ (s1 _ _ e1))),rfl,nm.map tx,.inl (SqL.of (sT _ _ (s1 _ _ el))),rfl,io nm,?_⟩;rw [lu];by_cases g:x.2.1.1 ∈ nm
  ·rw [if_pos (decide_eq_true g)];exact ho _ _ (Same.refl _) (by rw [if_pos g])
  ·rw [if_neg (by rw [decide_eq_true_eq]; exact g)];exact ho _ _ (Same.refl _) (by rw [if_neg g])
 intro H1 vs s1 e1 p1;refine ⟨_,V.ref ca,.inr (SqT.of (s1 _ _ et)),rfl,by decide,fun t ht=>?_⟩;have s2:=ae ht (.tup [.ref la,.ref D,.ref ca]);refine q' t _ (s1.trans s2) ⟨la,D,ca,upd_same,hL.same (s1.trans s2),⟨vs,s2 _ _ e1,?_⟩,hC.same (s1.trans s2)⟩;have ss:=s1.trans s2;clear e1;generalize hxs:(N.2.1.zip hv).zip (M.2.1.zip hv')=xs at p1;have hm:mixH N.2.1 M.2.1 nm=xs.map fun x=>if x.2.1.1 ∈ nm then x.2.1 else x.1.1:=by
  rw [<- hxs];exact (jF (f:=fun p:Named × Named=>if p.2.1 ∈ nm then p.2 else p.1) hhl hhl').symm
 have hall:∀ x ∈ xs,NamedAt H x.1.1 x.1.2/\NamedAt H x.2.1 x.2.2:=by
  intro x hx;rw [<- hxs] at hx;exact ⟨z2 _ (List.of_mem_zip hx).1,z2' _ (List.of_mem_zip hx).2⟩
 show Paired _ (mixH N.2.1 M.2.1 nm) vs;rw [hm];clear hm hxs
 induction p1 with
 | nil=>exact .nil
 | @cons x v xs vs r _ ih=>
  refine .cons ?_ (ih fun x hx=>hall x (List.mem_cons_of_mem _ hx));obtain ⟨⟨t1,q1,a1,a2,a3⟩,⟨t3,q3,c1,c2,c3⟩⟩:=hall x List.mem_cons_self;rw [r];by_cases g:x.2.1.1 ∈ nm
  ·rw [if_pos g,show (fun x:(Named × V) × Named × V=>if x.2.1.1 ∈ nm then x.2.1 else x.1.1) x=x.2.1 from if_pos g];exact ⟨t3,q3,c1,ss _ _ c2,c3.same ss⟩
  ·rw [if_neg g,show (fun x:(Named × V) × Named × V=>if x.2.1.1 ∈ nm then x.2.1 else x.1.1) x=x.1.1 from if_neg g];exact ⟨t1,q1,a1,ss _ _ a2,a3.same ss⟩
theorem gq {N M:Net} (h:Like N M):N.2.1.length=M.2.1.length:=by
 have:=congrArg List.length h.2.2;unfold doorsOf at this
 rwa [List.length_map,List.length_map] at this
theorem ma {N M:Net} (h:Like N M):∀ x ∈ N.2.1.zip M.2.1,x.1.1=x.2.1/\x.1.2.1.map (·.1)=x.2.2.1.map (·.1):=by
 have h3:=h.2.2;unfold doorsOf at h3;generalize N.2.1=hs at h3;generalize M.2.1=ks at h3
 induction hs generalizing ks with
 | nil=>intro x hx; rw [List.zip_nil_left] at hx; cases hx
 | cons a hs ih=>
  cases ks with
  | nil=>cases h3
  | cons b ks=>
   rw [List.map_cons,List.map_cons] at h3;injection h3 with e1 e2
   intro x hx;rw [List.zip_cons_cons] at hx;rcases List.mem_cons.mp hx with rfl | hx
   ·injection e1 with e3 e4
    exact ⟨e3,e4⟩
   ·exact ih ks e2 x hx
theorem mB {N M:Net} (h:Like N M) (nm:List (List Nat)):(mixN N M nm).2.1.map (·.1)=N.2.1.map (·.1):=by
 show ((N.2.1.zip M.2.1).map _).map _=_;rw [List.map_map]
 conv=>rhs; rw [<- bZ (gq h)]
 rw [List.map_map];refine List.map_congr_left fun x hx=>?_
 show (if x.2.1 ∈ nm then x.2 else x.1).1=x.1.1;by_cases g:x.2.1 ∈ nm
 ·rw [if_pos g,(ma h x hx).1]
 ·rw [if_neg g]
theorem nN {N M:Net} {nm:List (List Nat)} {x:Named} (h:x ∈ (mixN N M nm).2.1):x ∈ N.2.1\/x ∈ M.2.1:=by
 obtain ⟨y,hy,e⟩:=List.mem_map.mp (show x ∈ (N.2.1.zip M.2.1).map _ from h);obtain ⟨y1,y2⟩:=List.of_mem_zip hy;by_cases g:y.2.1 ∈ nm
 ·rw [if_pos g] at e;exact .inr (e ▸ y2)
 ·rw [if_neg g] at e;exact .inl (e ▸ y1)
theorem q5 {N M:Net} (h:Like N M) (nb:NetB N) (mb:NetB M) (nm:List (List Nat)):NetB (mixN N M nm):=by
 have e:=mB h nm;have el:=congrArg List.length e;rw [List.length_map,List.length_map] at el;exact ⟨nb.lay,by rw [e]; exact nb.nd,by rw [el]; exact nb.h1,by rw [el]; exact nb.h4,fun x hx=>(nN hx).elim (nb.low x) (mb.low x),fun x hx=>(nN hx).elim (nb.house x) (mb.house x),nb.ends,nb.l6⟩
theorem ju {hs:List Named} {n:List Nat}:houseOf hs n=none ↔ n ∉ hs.map (·.1):=by
 unfold houseOf;rw [Option.map_eq_none_iff,List.find?_eq_none];constructor
 ·intro h k;obtain ⟨x,hx,e⟩:=List.mem_map.mp k;exact h x hx (decide_eq_true e)
 ·intro h x hx k;exact h (List.mem_map.mpr ⟨x,hx,of_decide_eq_true k⟩)
theorem nM {F G:Addr->Prop} {H:Hp} {q a b c:Addr} {N:Net} (h:NetC F H q a b c N) (k:∀ r,F r->G r):NetC G H q a b c N:=by
 obtain ⟨vs,e,p⟩:=h.houses;exact ⟨h.tup,h.lay,⟨vs,e,L2.Paired.mapP p fun _ _ ⟨t,q,g,w,e,et,hN,hg,n1,n2⟩=>⟨t,q,g,w,e,et,ge hN fun r hr=>⟨hr.1,k r hr.2⟩,⟨hg.1,k _ hg.2⟩,n1,k _ n2⟩⟩,h.lines,k _ h.fa,k _ h.fb,k _ h.fc⟩
noncomputable def d6 (K:Frag):Sp:=aC fun p=>aC fun q=>aC fun l=>bd fun H Q E=>∃ (N M:Net) (nm:List (List Nat)),NetAt H p N/\NetAt H q M/\NetL N/\NetL M/\(Like N M->NetB N/\NetB M)/\H l=some (.lst (nm.map tx))/\nm.length<=100/\(∀ n ∈ nm,(∀ c ∈ n,c < 16 ^ 8)/\n.length<=1000) /\
  (Like N M->(∀ n ∈ nm,n ∈ N.2.1.map (·.1))->∀ (q' a b c:Addr) (H':Hp),H q'=none->Same H H'->NetC (fun r=>H r=none) H' q' a b c (mixN N M nm)->Q (.ref q') H') /\
  (Like N M->(∃ n ∈ nm,n ∉ N.2.1.map (·.1))->∀ H',Same H H'->E (.ref (xA K "NoHouse")) none H') /\
  (¬ Like N M->∀ H',Same H H'->E (.ref (xA K "Unlike")) none H')
theorem eF (T:Top K mg):CalleeX P w K mg base 4 "net_mixed" ["one", "other", "names"] (d6 K):=by
 refine T.h9.calX gB (by unfold d6; exact LenSp.h) (fun _ _ _ _ _ _ us hl=>match us,hl with | [_,_,_],_=>rfl) (fun f cdv A outer s H vs Q E hr h=>?_);unfold d6 at h;walk_at "el";refine ⟨_,(af (aO (nO (fF T) hr.m jt rfl (aa (qv 0) (aa (qv 1) ad))))
   (af (dh PassesOwn.leaving rfl (iterE K rfl (qv 2)) (ao (i:=3) gB.nd rfl lc) (ak (aO (nO (i3 T) hr.m jt rfl (aa (qv 0) (aa (qv 3) ad))))))
   (ak (aF (av (jn T) hr.m rfl (aa (av (kB T) hr.m rfl (aa (qv 0) (aa (qv 1) (aa (qv 2) ad)))) ad)))))),?_⟩
 rename_i p q l;obtain ⟨N,M,nm,hN,hM,nl,ml,lb,el,hl,hc,q1,q2,q3⟩:=h;walk_at "rd";refine ⟨N,M,hN,hM,nl,ml,fun hk H1 s1=>.inl ⟨⟨_,SqL.of (s1 _ _ el)⟩,?_⟩,fun hk H1 s1=>q3 hk H1 s1⟩;obtain ⟨nb,mb⟩:=lb hk;refine kU tx nm (fun i σ H2=>(∃ x,σ = [some (V.ref p),some (V.ref q),some (V.ref l),x])/\Same H H2/\∀ n ∈ nm.take i,n ∈ N.2.1.map (·.1)) ⟨⟨_,rfl⟩,s1,fun n h=>by cases h⟩ ?_ ?_ ?_
 ·rintro i σ H2 _ ⟨_,s2,_⟩;exact SqL.of (s2 _ _ el)
 ·rintro i n σ H2 hn ⟨⟨x,rfl⟩,s2,hi⟩;have hm:=List.mem_of_getElem? hn;obtain ⟨c1,c2⟩:=hc n hm;walk_at "rd";refine ⟨N,hN.same s2,by rw [de]; exact c1,by rw [de]; exact c2,?_,?_⟩
  ·rw [de];intro h hh q2 H3 s3 _;refine ⟨⟨_,rfl⟩,s2.trans s3,fun m hm2=>?_⟩;rw [List.take_add_one,hn] at hm2;rcases List.mem_append.mp hm2 with z | z
   ·exact hi m z
   ·cases List.mem_singleton.mp z;refine Decidable.byContradiction fun k=>?_
    rw [ju.mpr k] at hh;cases hh
  ·rw [de];intro hh H3 s3;exact q2 hk ⟨n,hm,ju.mp hh⟩ H3 (s2.trans s3)
 ·rintro σ H2 ⟨⟨x,rfl⟩,s2,hi⟩;rw [List.take_length] at hi;walk_at "rd";refine ⟨N,M,nm,hN.same s2,hM.same s2,nb,mb,gq hk,s2 _ _ el,fun t H3 s3 hT=>⟨_,hT,q5 hk nb mb nm,fun q' a b c H4 hq' s4 hC=>?_⟩⟩;have s5:=s2.trans s3;refine q1 hk hi q' a b c H4 (s5.free hq') (s5.trans s4) (nM hC fun r hr=>s5.free hr)
noncomputable def mixV (hs:List Named) (hv:List V) (ks:List Named) (kv:List V) (nm:List (List Nat)):List V:=((hs.zip hv).zip (ks.zip kv)).map fun x=>if x.2.1.1 ∈ nm then x.2.2 else x.1.2
theorem lC {H:Hp} {nm:List (List Nat)}:∀ {hs ks:List Named} {hv kv:List V},Paired (NamedAt H) hs hv->Paired (NamedAt H) ks kv->Paired (NamedAt H) (mixH hs ks nm) (mixV hs hv ks kv nm):=by
 intro hs ks hv kv p1
 induction p1 generalizing ks kv with
 | nil=>intro _; unfold mixH mixV; rw [List.zip_nil_left,List.zip_nil_left,List.zip_nil_left]; exact .nil
 | @cons a v hs hv r _ ih=>
  intro p2;cases p2 with
  | nil=>exact .nil
  | @cons b w ks kv r2 p2=>
   refine .cons ?_ (ih p2);show NamedAt H (if b.1 ∈ nm then b else a) (if b.1 ∈ nm then w else v);by_cases g:b.1 ∈ nm
   ·rw [if_pos g,if_pos g]; exact r2
   ·rw [if_neg g,if_neg g]; exact r
noncomputable def eQ (K:Frag):Sp:=aC fun p=>aC fun q=>aC fun l=>bd fun H Q _=>∃ (N M:Net) (nm:List (List Nat)),NetAt H p N/\NetAt H q M/\NetB N/\NetB M/\Like N M/\H l=some (.lst (nm.map tx))/\∀ t H',Same H H'->NetAt H' t (mixN N M nm)->Q (.ref t) H'
theorem kA (T:Top K mg):Callee P w K mg base 1 "_law_due" ["_law_one", "_law_other", "_law_names_here"] (eQ K):=by
 refine T.i7.cal cH (by unfold eQ; exact LenSp.h) (fun _ _ _ _ _ _ us hl=>match us,hl with | [_,_,_],_=>rfl) (fun f cdv A outer s H vs Q E hr h=>?_);unfold eQ at h;walk_at "el";refine ⟨_,(af (ar (i:=3) cH.nd rfl lc (aI ad))
   (af (dh PassesOwn.never rfl (aR rfl T.bD (aB (lenE K rfl) rfl T.cq bL (aa (aj (ixE K rfl) (qv 0) ac (fun _ _=>rfl)) ad))) (ao (i:=4) cH.nd rfl lc) (af (ar (i:=5) cH.nd rfl lc (aj (ixE K rfl) (aj (ixE K rfl) (qv 0) ac (fun _ _=>rfl)) (qv 4) (fun _ _=>rfl)))
   (bV (b9 (aV (inE K rfl) (aj (ixE K rfl) (qv 5) ac (fun _ _=>rfl)) (qv 2)) (ak (ar (i:=5) cH.nd rfl lc (aj (ixE K rfl) (aj (ixE K rfl) (qv 1) ac (fun _ _=>rfl)) (qv 4) (fun _ _=>rfl)))) aZ)
   (ak (aO (aD (qv 3) (qv 5)))))))
   (ak (aF (aq (aa (aj (ixE K rfl) (qv 0) ac (fun _ _=>rfl)) (aa (qv 3) (aa (aj (ixE K rfl) (qv 0) ac (fun _ _=>rfl)) ad)))))))),?_⟩
 rename_i p q l;obtain ⟨N,M,nm,hN,hM,nb,mb,hk,el,q'⟩:=h;obtain ⟨la,ha,ca,et,hL,⟨hv,eh,ph⟩,hC⟩:=id hN;obtain ⟨la',ha',ca',et',hL',⟨hv',eh',ph'⟩,hC'⟩:=id hM;have hlen:=gq hk;have hhl:=ph.length;have hhl':=ph'.length;have h4:=nb.h4;have hml:(mixV N.2.1 hv M.2.1 hv' nm).length=hv.length:=by
  unfold mixV;rw [List.length_map,List.length_zip,List.length_zip,List.length_zip];omega
 walk_at "rd";refine ⟨by decide,fun D hD=>?_⟩;have s0:=ae hD (.lst []);refine ⟨_,V.ref ha,.inr (SqT.of (s0 _ _ et)),rfl,?_⟩;walk_at "rd";refine ⟨hv,.inl (SqL.of (s0 _ _ eh)),by omega,by omega,?_⟩;rw [Int.toNat_natCast];refine cB (fun i σ H1=>(∃ x y,σ = [some (V.ref p),some (V.ref q),some (V.ref l),some (V.ref D),x,y])/\Same H H1/\H1 D=some (.lst ((mixV N.2.1 hv M.2.1 hv' nm).take i))) ⟨⟨_,_,rfl⟩,s0,upd_same⟩ ?_ ?_
 ·rintro i σ H1 hi ⟨⟨x,y,rfl⟩,s1,e1⟩;rw [Int.zero_add];obtain ⟨x,hx⟩:∃ x,((N.2.1.zip hv).zip (M.2.1.zip hv'))[i]? = some x:=⟨_,List.getElem?_eq_getElem (by rw [List.length_zip,List.length_zip,List.length_zip]; omega)⟩;obtain ⟨y1,y2⟩:=List.getElem?_zip_eq_some.mp hx;obtain ⟨m1,m2⟩:=List.getElem?_zip_eq_some.mp y1;obtain ⟨m3,m4⟩:=List.getElem?_zip_eq_some.mp y2;obtain ⟨t,q2,ex,et2,_⟩:=(aE ph).2 x.1 (List.mem_of_getElem? y1);have en:x.1.1.1=x.2.1.1:=(ma hk (x.1.1,x.2.1) (List.mem_of_getElem? (List.getElem?_zip_eq_some.mpr ⟨m1,m3⟩))).1;have hmi:(mixV N.2.1 hv M.2.1 hv' nm)[i]? = some (if x.2.1.1 ∈ nm then x.2.2 else x.1.2):=by
   unfold mixV;rw [List.getElem?_map,hx];rfl
  walk_at "rd";refine ⟨_,V.ref ha,.inr (SqT.of (s1 _ _ et)),rfl,hv,V.ref t,.inl (SqL.of (s1 _ _ eh)),bw (by rw [m2,ex]),?_⟩;refine ⟨fun σ' H'=>σ'=[some (V.ref p),some (V.ref q),some (V.ref l),some (V.ref D),some (V.int ↑i),some (if x.2.1.1 ∈ nm then x.2.2 else x.1.2)]/\H'=H1,⟨_,_,.inr (SqT.of (s1 _ _ et2)),rfl,nm.map tx,.inl (SqL.of (s1 _ _ el)),rfl,io nm,?_⟩,?_⟩
  ·rw [lu,en];by_cases g:x.2.1.1 ∈ nm
   ·rw [if_pos (decide_eq_true g),if_pos g];exact ⟨_,V.ref ha',.inr (SqT.of (s1 _ _ et')),rfl,hv',_,.inl (SqL.of (s1 _ _ eh')),bw m4,rfl,rfl⟩
   ·rw [if_neg (by rw [decide_eq_true_eq]; exact g),if_neg g,ex];exact ⟨rfl,rfl⟩
  ·rintro _ _ ⟨rfl,rfl⟩;refine ⟨⟨_,e1⟩,_,e1,sizeBig (by rw [List.length_take]; omega),⟨_,_,rfl⟩,aL s1 hD,?_⟩;rw [upd_same,List.take_add_one,hmi];rfl
 ·rintro σ H1 ⟨⟨x,y,rfl⟩,s1,e1⟩;rw [<- hml,List.take_length] at e1;walk_at "rd";refine ⟨_,V.ref la,.inr (SqT.of (s1 _ _ et)),rfl,_,V.ref ca,.inr (SqT.of (s1 _ _ et)),rfl,by decide,fun t ht=>?_⟩;have ss:=s1.trans (ae ht (.tup [.ref la,.ref D,.ref ca]));refine q' t _ ss ⟨la,D,ca,upd_same,hL.same ss,⟨_,ae ht _ _ _ e1,lC (L2.Paired.mapP ph fun _ _ z=>?_) (L2.Paired.mapP ph' fun _ _ z=>?_)⟩,hC.same ss⟩
  ·obtain ⟨t1,q1,a1,a2,a3⟩:=z;exact ⟨t1,q1,a1,ss _ _ a2,a3.same ss⟩
  ·obtain ⟨t1,q1,a1,a2,a3⟩:=z;exact ⟨t1,q1,a1,ss _ _ a2,a3.same ss⟩
noncomputable def cK (K:Frag):Sp:=aC fun p=>aC fun q=>aC fun l=>bd fun H Q _=>∃ (N M:Net) (nm:List (List Nat)),NetAt H p N/\NetAt H q M/\NetL N/\NetL M/\(Like N M->NetB N/\NetB M/\∃ n ∈ nm,n ∉ N.2.1.map (·.1))/\H l=some (.lst (nm.map tx))/\nm.length<=100/\(∀ n ∈ nm,(∀ c ∈ n,c < 16 ^ 8)/\n.length<=1000) /\
  ∀ t H' ,Same H H'->(Like N M->H' t=some (.tup [.bl false,.bl true]))->(¬ Like N M->H' t=some (.tup [.bl true,.bl false]))->Q (.ref t) H'
theorem cJ (T:Top K mg):Callee P w K mg base 5 "_law_refusal" ["_law_one", "_law_other", "_law_names_here"] (cK K):=by
 refine T.fo.cal bY (by unfold cK; exact LenSp.h) (fun _ _ _ _ _ _ us hl=>match us,hl with | [_,_,_],_=>rfl) (fun f cdv A outer s H vs Q E hr h=>?_);unfold cK at h;walk_at "el";refine ⟨_,(af (ar (i:=3) bY.nd rfl lc sy)
   (bV (oZ (D:=xA K "ThrongError") (i:=4) (fun _ _=>(ak (aO (rJ (eF T) hr.m passesT rfl (aa (qv 0) (aa (qv 1) (aa (qv 2) ad))))))) (fun _=>(ak (ar (i:=3) bY.nd rfl lc (qv 4)))) rfl rfl rfl T.dQ.1 T.dQ.2 bY.nd rfl rfl)
   (af (b9 (PW.pt (me (pe (iG (im K rfl rfl rfl T.bS (qv 3) (re rfl T.gL ji)))) (j9 (iG (im K rfl rfl rfl T.bS (qv 3) (lx T.gN rfl)))))) (ak (aF (aq (aa eU (aa eU ad))))) aZ)
   (ak (aF (aq (aa (im K rfl rfl rfl T.bS (qv 3) (lx T.bx rfl)) (aa (im K rfl rfl rfl T.bS (qv 3) (lx T.bJ rfl)) ad)))))))),?_⟩
 rename_i p q l;obtain ⟨N,M,nm,hN,hM,nl,ml,lb,el,hl,hc,q'⟩:=h;walk_at "rd";refine ⟨fun σ' H'=>∃ ea,σ'=[some (V.ref p),some (V.ref q),some (V.ref l),some (V.ref ea),none]/\Same H H'/\(Like N M/\H' ea=some (XO (xA K "NoHouse") ea)\/¬ Like N M/\H' ea=some (XO (xA K "Unlike") ea)),⟨N,M,nm,hN,hM,nl,ml,fun z=>⟨(lb z).1,(lb z).2.1⟩,el,hl,hc,?_,?_,?_⟩,?_⟩
 ·intro hk k;obtain ⟨n,hn,k2⟩:=(lb hk).2.2;exact absurd (k n hn) k2
 ·intro hk _ H1 s1;exact ⟨_,rfl,T.aG.caught,fun ea he=>⟨ea,rfl,s1.trans (ae he _),.inl ⟨hk,upd_same⟩⟩⟩
 ·intro hk H1 s1;exact ⟨_,rfl,T.aN.caught,fun ea he=>⟨ea,rfl,s1.trans (ae he _),.inr ⟨hk,upd_same⟩⟩⟩
 ·rintro σ' H1 ⟨ea,rfl,s1,⟨hk,e⟩ | ⟨hk,e⟩⟩
  ·refine ⟨_,true,e,T.bJ.2,T.cY.kit,?_⟩;rw [if_neg (by decide)];refine ⟨_,false,e,T.bJ.2,Xn.kit T.bf T.gN,?_⟩;rw [if_neg (by decide)];exact ⟨_,false,e,T.bJ.2,Xn.kit T.be T.bx,_,true,e,T.bJ.2,Xn.kit T.ba T.bJ,by decide,fun t ht=>q' t _ (s1.trans (ae ht _)) (fun _=>upd_same) fun z=>absurd hk z⟩
  ·refine ⟨_,true,e,T.bx.2,T.dX.kit,?_⟩;rw [if_neg (by decide)];refine ⟨_,false,e,T.bx.2,Xn.kit T.br T.gN,?_⟩;rw [if_neg (by decide)];exact ⟨_,true,e,T.bx.2,Xn.kit T.bq T.bx,_,false,e,T.bx.2,Xn.kit T.bh T.bJ,by decide,fun t ht=>q' t _ (s1.trans (ae ht _)) (fun z=>absurd z hk) fun _=>upd_same⟩
noncomputable def strgs:List (List Nat):=[[120],[120,120],[120,120,120],[120,120,120,120],[120,120,120,120,120],[120,120,120,120,120,120]]
theorem iv {α:Type} [DecidableEq α]:∀ {l m:List α},l.Nodup->(∀ x ∈ l,x ∈ m)->l.length<=m.length
 | [],_,_,_=>Nat.zero_le _
 | a::l,m,h,k=>by
  obtain ⟨h1,h2⟩:=List.nodup_cons.mp h;have ha:=k a List.mem_cons_self;have:=iv (m:=m.erase a) h2 fun x hx=>(List.mem_erase_of_ne fun z=>h1 (by rw [<- z]; exact hx)).mpr (k x (List.mem_cons_of_mem _ hx))
  rw [List.length_erase_of_mem ha] at this;have:=List.length_pos_of_mem ha;rw [List.length_cons];omega
noncomputable def cx (K:Frag):Sp:=aC fun l=>bd fun H Q _=>∃ nm:List (List Nat),H l=some (.lst (nm.map tx))/\nm.length<=5/\∀ n H',Same H H'->n ∉ nm->n ∈ strgs->Q (tx n) H'
theorem bQ (T:Top K mg):Callee P w K mg base 1 "_law_stranger" ["_law_names_here"] (cx K):=by
 refine T.eK.cal gQ (by unfold cx; exact LenSp.h) (fun _ _ _ _ _ _ us hl=>match us,hl with | [_],_=>rfl) (fun f cdv A outer s H vs Q E hr h=>?_);unfold cx at h;walk_at "el";refine ⟨_,(ak (aF (aj (ixE K rfl) (bn (nt:=1) (fi:=[0]) (N':=["_law_name", "_law_names_here"]) rfl (cscope rfl (by decide +kernel)) (cnames (N:=["_law_names_here"]) (sc:=defScope b6) rfl rfl (by decide +kernel)) (aS (by decide)) (iterE K rfl (aq (aa (qs [120]) (aa (qs [120,120]) (aa (qs [120,120,120]) (aa (qs [120,120,120,120]) (aa (qs [120,120,120,120,120]) (aa (qs [120,120,120,120,120,120]) ad)))))))) (fun _ _ _ _ _=>(ao (i:=0) (by show (["_law_name", "_law_names_here"]:List Str).Nodup; decide +kernel) rfl lc)) (fun _ _ _ _ _=>(ir (aV (notinE K rfl) (qv 0) (qv 1)))) (fun _ _ _ _ _=>(qv 0))) ac (fun _ _=>rfl)))),?_⟩;rename_i l;obtain ⟨nm,el,hl,q'⟩:=h;walk_at "rd";refine ⟨by decide,fun p hp=>.inr ⟨⟨_,SqT.of upd_same⟩,fun D hD=>?_⟩⟩;have s0:=ae hp (.tup (strgs.map tx));refine kf strgs (fun n=>decide (n ∉ nm)) (fun n v _=>v=tx n) hD (by decide) ?_ ?_ ?_ ?_ ?_ ?_
 ·intro i H1 hi s1;exact ⟨strgs.map tx,_,SqT.of (s1 _ _ upd_same),List.getElem?_eq_getElem (by rw [List.length_map]; exact hi)⟩
 ·intro H1 s1;exact ⟨strgs.map tx,SqT.of (s1 _ _ upd_same),by rw [List.length_map]; omega⟩
 ·rintro i H1 v H2 _ ⟨rfl,_⟩;exact Same.refl _
 ·intro x v H1 H2 acc _ _ h;exact h
 ·rintro i x v H1 H2 out non hx s1 ⟨rfl,a1⟩ ho hno;have a2:=a1 (strgs.map tx) (SqT.of (s1 _ _ upd_same));rw [List.getElem?_map,hx] at a2;cases a2;walk_at "rd";refine ⟨nm.map tx,.inl (SqL.of (s1 _ _ (s0 _ _ el))),rfl,io nm,?_⟩;rw [lu];by_cases g:x ∈ nm
  ·rw [if_neg (by rw [decide_eq_true g]; decide)];exact hno _ (decide_eq_false fun z=>z g) (Same.refl _)
  ·rw [if_pos (decide_eq_false g)];exact ho _ _ (decide_eq_true g) (Same.refl _) rfl
 ·intro H1 vs s1 e1 p1;obtain ⟨x,l2,e2⟩:∃ x l2,strgs.filter (fun n=>decide (n ∉ nm))=x::l2:=by
   cases e:strgs.filter (fun n=>decide (n ∉ nm)) with
   | cons x l=>exact ⟨x,l,rfl⟩
   | nil=>
    have h1:∀ n ∈ strgs,n ∈ nm:=by
     intro n hn;have:=List.filter_eq_nil_iff.mp e n hn;rw [decide_eq_true_eq] at this;exact Decidable.not_not.mp this
    have:=iv (by decide:strgs.Nodup) h1;rw [show strgs.length=6 from rfl] at this;omega
  have hx:x ∈ strgs.filter (fun n=>decide (n ∉ nm)):=e2 ▸ List.mem_cons_self;obtain ⟨x1,x2⟩:=List.mem_filter.mp hx;rw [e2] at p1;cases p1 with
  | cons r _=>
   subst r;walk_at "rd";exact ⟨_,_,.inl (SqL.of e1),bw (j:=0) rfl,q' x _ (s0.trans s1) (of_decide_eq_true x2) x1⟩
theorem iz {N M:Net} (h:Like N M):N.2.1.map (·.1)=M.2.1.map (·.1):=by
 have:=congrArg (List.map Prod.fst) h.2.2;unfold doorsOf at this;rw [List.map_map,List.map_map] at this;exact this
theorem ov {α β:Type} {f:α -> β} {l:List α} (nd:(l.map f).Nodup) (h2:2<=l.length):l≠l.reverse:=by
 intro e;have h0:(l.map f)[0]? = (l.map f)[l.length - 1]?:=by
  conv=>lhs; rw [e]
  rw [List.getElem?_map,List.getElem?_map,List.getElem?_reverse (by omega)];rfl
 have:=(List.getElem?_inj (by rw [List.length_map]; omega) nd).mp h0;omega
theorem rn {α β:Type} {f:α -> β} {x y:α} {l:List α} (nd:((x::y::l).map f).Nodup):(x::y::l).map f≠((y::l)++[x]).map f:=by
 intro e;rw [List.map_cons,List.cons_append,List.map_cons] at e;injection e with e1 _
 rw [List.map_cons,List.map_cons] at nd;exact (List.nodup_cons.mp nd).1 (e1 ▸ List.mem_cons_self)
theorem iX {α:Type} {s:α}:∀ {a:α} {l:List α},a::l=l++[s]->a=s
 | a,[],h=>by injection h
 | a,b::l,h=>by
  rw [List.cons_append] at h;injection h with h1 h2
  rw [h1];exact iX h2
theorem pQ {N:Net} (nb:NetB N):¬ Like N (N.1.reverse,N.2):=fun h=>ov nb.lay.nd nb.lay.two h.1
theorem nP {N M:Net} {n:List Nat} (h1:n ∉ N.2.1.map (·.1)) (h2:n ∈ M.2.1.map (·.1)):¬ Like N M:=fun h=>h1 (iz h ▸ h2)
theorem jI {N M:Net} {pre:List Named} {x y:Named} (e1:N.2.1=pre++[x]) (e2:M.2.1=pre++[y]) (ne:x.2.1.map (·.1)≠y.2.1.map (·.1)):¬ Like N M:=fun h=>by
 have h3:=h.2.2;unfold doorsOf at h3;rw [e1,e2,List.map_append,List.map_append] at h3;have h4:=List.append_cancel_left h3;injection h4 with h5 _
 injection h5 with _ h6
 exact ne h6
theorem mQ {N M:Net} (h:N.2.2≠M.2.2):¬ Like N M:=fun k=>h k.2.1
theorem mT {N M:Net} (h:N.2.1.length≠M.2.1.length):¬ Like N M:=fun k=>h (gq k)
theorem oQ {N:Net} (nb:NetB N) {x:Line} {l:List Line} (e:N.2.2=x::l) {M:Net} (e2:M.2.2=l++[(x.2,x.1)]):¬ Like N M:=fun k=>by
 have h:=k.2.1;rw [e,e2] at h;have:=iX h;exact nb.ends x (e ▸ List.mem_cons_self) (congrArg Prod.fst this)
theorem pD {N M:Net} (nb:NetB N) {x y:Named} {l:List Named} (e:N.2.1=x::y::l) (e2:M.2.1=(y::l)++[x]):¬ Like N M:=fun k=>by
 have h:=iz k;have nd:=nb.nd;rw [e] at h nd;rw [e2] at h;exact rn nd h
theorem nU {n:Nat} (h:1<=n):HT.sIx n n (some (-1))=n - 1:=by
 show (if (-1:Int) < 0 then ((-1:Int)+(n:Int)).toNat else min (-1:Int).toNat n)=n - 1;rw [if_pos (by decide)];omega
theorem gT {xs:List V} {v:V}:cutV (xs++[v]) none (some (-1))=xs:=by
 unfold cutV;rw [nU (by rw [List.length_append]; exact Nat.le_add_left _ _)];show ((xs++[v]).drop 0).take ((xs++[v]).length - 1 - 0)=xs;rw [List.drop_zero,List.length_append];exact List.take_left
theorem eM {α β:Type} {F:α -> β -> Prop} {x:α}:∀ {l:List α} {vs:List β},Paired F (l++[x]) vs->∃ us v,vs=us++[v]/\Paired F l us/\F x v
 | [],_,h=>by
  cases h with
  | cons r h=>
   cases h;exact ⟨[],_,rfl,.nil,r⟩
 | a::l,_,h=>by
  cases h with
  | cons r h=>
   obtain ⟨us,v,e,p,k⟩:=eM h;exact ⟨_::us,v,by rw [e]; rfl,.cons r p,k⟩
theorem je {α β:Type} {f:α -> β} {l:List α} {vs:List β} (h:Paired (fun x v=>v=f x) l vs):vs=l.map f:=by
 induction h with
 | nil=>rfl
 | cons r _ ih=>rw [r,ih]; rfl
theorem eZ {α:Type} (f:α -> List Nat) {H:Hp} {xs:List α} {vs:List V} {p D:Addr} {Q:VK} (e:H p=some (.lst vs)) (hp:Paired (fun x v=>∃ t u,v=.ref t/\H t=some (.tup [tx (f x),u])) xs vs) (hl:xs.length<=100) (hD:H D=none)
  (hq:∀ H',Same H H'->H' D=some (.lst ((xs.map f).map tx))->Q (.ref D) H'):compW (Itl K p) (gName 0) tYes (tOp (kIx K) (cVar 0) (tC (V.int 0))) [none] D Q H:=by
 have hpl:=hp.length;obtain ⟨_,z2⟩:=aE hp;refine cX (xs.zip vs) (fun x v _=>v=tx (f x.1)) hD (by rw [List.length_zip]; omega) (fun i H1 hi s1=>⟨vs,vs[i]'(by rw [List.length_zip] at hi; omega),SqL.of (s1 _ _ e),List.getElem?_eq_getElem _⟩) (fun H1 s1=>⟨vs,SqL.of (s1 _ _ e),by rw [List.length_zip]; omega⟩) ?_ ?_ ?_ ?_
 ·rintro i H1 v H2 _ ⟨rfl,_⟩;exact Same.refl _
 ·intro x v H1 H2 acc _ _ h;exact h
 ·rintro i x v H1 H2 out non hx s1 nD ⟨rfl,a1⟩ ho;obtain ⟨y1,y2⟩:=List.getElem?_zip_eq_some.mp hx;have y3:=a1 vs (SqL.of (s1 _ _ e));rw [y2] at y3;have y4:=Option.some.inj y3;obtain ⟨t,u,ex,e1⟩:=z2 x (List.mem_of_getElem? hx);rw [<- y4,ex];walk_at "rd";exact ⟨_,_,.inr (SqT.of (s1 _ _ e1)),rfl,ho _ _ (Same.refl _) rfl⟩
 ·intro H1 ws s1 e1 p1;refine hq H1 s1 ?_;rw [e1,je p1]
  conv=>rhs; rw [<- bZ (l:=xs) (m:=vs) hpl]
  rw [List.map_map,List.map_map];rfl
def FarAt (N:Net) (H:Hp) (v:V):Prop:=∃ t M,v=.ref t/\NetAt H t M/\NetL M/\¬ Like N M
theorem FarAt.same {N:Net} {H H':Hp} {v:V} (h:FarAt N H v) (s:Same H H'):FarAt N H' v:=by
 obtain ⟨t,M,e,n,l,k⟩:=h;exact ⟨t,M,e,n.same s,l,k⟩
structure FarS (G:Hp) (N:Net) (S:Addr) (H:Hp) (vs:List V):Prop where
 at_:H S=some (.lst vs)
 old:Same G (hole S H)
 far:∀ v ∈ vs,FarAt N (hole S H) v
theorem FarS.step {G:Hp} {N:Net} {S:Addr} {H H':Hp} {vs:List V} {t:Addr} {M:Net} (h:FarS G N S H vs) (s:Same H H') (ht:NetAt (hole S H') t M) (l:NetL M) (k:¬ Like N M):FarS G N S (upd H' S (.lst (vs++[.ref t]))) (vs++[.ref t]):=by
 refine ⟨upd_same,?_,?_⟩
 ·rw [ci];exact h.old.trans (aA s)
 ·rw [ci];intro v hv;rcases List.mem_append.mp hv with hv | hv
  ·exact (h.far v hv).same (aA s)
  ·cases List.mem_singleton.mp hv;exact ⟨t,M,rfl,ht,l,k⟩
structure FarB (K:Frag) (G:Hp) (N:Net) (a la ha ca q0 g0 w0 D1 D2:Addr) (pre:List Named) (x:Named) (us gv:List V) (v:V) (ns:List Int):Prop where
 hS:SqL K G a (ns.map V.int)
 nb:NetB N
 eN:N.2.1=pre++[x]
 lay:Lay G la N.1
 eh:G ha=some (.lst (us++[v]))
 pp:Paired (NamedAt G) pre us
 pv:NamedAt G x v
 lines:Lines G ca N.2.2
 e1:G q0=some (.tup [.ref g0,.ref w0])
 eg:G g0=some (.lst gv)
 pg:Paired (GateAt G) x.2.1 gv
 ways:Ways G w0 x.2.2
 d1:G D1=some (.lst ((N.2.1.map (·.1)).map tx))
 d2:G D2=some (.lst ((x.2.1.map (·.1)).map tx))
theorem FarS.same {G:Hp} {N:Net} {S:Addr} {H H':Hp} {vs:List V} (h:FarS G N S H vs) (s:Same H H'):FarS G N S H' vs:=⟨s _ _ h.at_,h.old.trans (aA s),fun v hv=>(h.far v hv).same (aA s)⟩
theorem aX {G:Hp} {N:Net} {S:Addr} {H:Hp} {vs:List V} (h:FarS G N S H vs):Same G H:=h.old.trans cb
theorem FarB.houses {G:Hp} {N:Net} {a la ha ca q0 g0 w0 D1 D2:Addr} {pre:List Named} {x:Named} {us gv:List V} {v:V} {ns:List Int} (h:FarB K G N a la ha ca q0 g0 w0 D1 D2 pre x us gv v ns):Houses G ha N.2.1:=⟨_,h.eh,by rw [h.eN]; exact aw h.pp h.pv⟩
theorem gW {v:V} {vs:List V}:cutV (v::vs) (some 1) none=vs:=by
 show ((v::vs).drop (HT.sIx (vs.length+1) 0 (some ((1:Nat):Int)))).take ((vs.length+1) - HT.sIx (vs.length+1) 0 (some ((1:Nat):Int)))=vs;rw [HT.sIx_nat,Nat.min_eq_left (Nat.le_add_left _ _)];exact List.take_length
theorem nc {v:V} {vs:List V}:cutV (v::vs) none (some 1)=[v]:=by
 show ((v::vs).drop 0).take (HT.sIx (vs.length+1) (vs.length+1) (some ((1:Nat):Int)) - 0)=[v];rw [HT.sIx_nat,Nat.min_eq_left (Nat.le_add_left _ _)];rfl
theorem ox {G:Hp} {N:Net} {S:Addr} {H:Hp} {vs:List V} (h:FarS G N S H vs) {p:Addr} (hp:H p=none):p≠S:=fun z=>by
 rw [z,h.at_] at hp;cases hp
theorem FarS.new {G:Hp} {N:Net} {S:Addr} {H:Hp} {vs:List V} (h:FarS G N S H vs) {p:Addr} (hp:H p=none) (o:HO):FarS G N S (upd H p o) vs/\Same H (upd H p o)/\hole S (upd H p o) p=some o/\Same (hole S H) (hole S (upd H p o)):=
 ⟨h.same (ae hp o),ae hp o,by rw [bu (ox h hp)]; exact upd_same,aA (ae hp o)⟩
def FarT (G:Hp) (N:Net) (S L:Addr) (ll:List Line) (n:Nat) (H:Hp):Prop:=∃ vs,FarS G N S H vs/\1<=vs.length/\vs.length<=n/\Lines (hole S H) L ll
theorem FarT.le {G:Hp} {N:Net} {S L:Addr} {ll:List Line} {n m:Nat} {H:Hp} (h:FarT G N S L ll n H) (k:n<=m):FarT G N S L ll m H:=by
 obtain ⟨vs,a,b,c,d⟩:=h;exact ⟨vs,a,b,Nat.le_trans c k,d⟩
theorem FarS.put {G:Hp} {N:Net} {S L:Addr} {ll:List Line} {H H':Hp} {n:Nat} {vs:List V} {t:Addr} {M:Net} (h:FarS G N S H vs) (hn:vs.length<=n) (s:Same H H') (hl:Lines (hole S H) L ll) (ht:NetAt (hole S H') t M) (l:NetL M) (k:¬ Like N M):FarT G N S L ll (n+1) (upd H' S (.lst (vs++[.ref t]))):=
 ⟨_,h.step s ht l k,by rw [List.length_append]; exact Nat.le_add_left _ _,by rw [List.length_append]; exact Nat.add_le_add_right hn 1,by rw [ci]; exact hl.same (aA s)⟩
noncomputable def mFar (K:Frag) (n:Nat):TS:=fun E σ H=>∀ C:TS,(∀ (G:Hp) (N:Net) (a q la ha ca q0 g0 w0 D1 D2 S L:Addr) (pre:List Named) (x:Named) (us gv:List V) (v:V) (ns:List Int) (ll:List Line),FarB K G N a la ha ca q0 g0 w0 D1 D2 pre x us gv v ns->FarT G N S L ll n H ->
  (∀ u H',Same G H'->FarAt N H' u->E.rt u H')->C E [some (.ref a),some (.ref q),some (.ref la),some (.ref ha),some (.ref ca),some (tx x.1),some (.ref q0),some (.ref D1),some (.ref D2),some (.ref S),some (.ref L)] H)->C E σ H
theorem cm {X:Cx} {l:List Stmt} {t u:TS} (h:PSs X l t) (k:∀ D σ H,u D σ H->t D σ H):PSs X l u:=fun p s σ H D I q=>h p s σ H D I (k _ _ _ q)
theorem qQ (T:Top K mg) {f:Addr} {cdv:Value} {A:Around} {outer:List Env} {s:Shared} {H₀:Hp} {E:XK} (hr:Room 1 (A.deeper (PyProof.Rows.envOfC "_law_unlike" (defScope am) s.heap.objs.size f cdv))):
  PSs (cxOf CX0 P w K mg base ["_law_script", "_law_net_here", "_law_layout_here", "_law_houses", "_law_lines_here", "_law_name", "_law_house_here", "_law_own", "_law_doors", "_law_some", "_law_left"] "_law_unlike" (defScope am) f cdv A outer s H₀ E).nox ((defBody am).drop 12) (mFar K 8):=by
 refine cm (ak (aF (aj (ixE K rfl) (qv 9) (av (ap T) hr.m rfl (aa (qv 0) (aa ac (aa (aB (lenE K rfl) rfl T.cq bL (aa (qv 9) ad)) ad)))) (fun _ _=>rfl)))) fun E1 σ H h0=>h0 _ fun G N a q la ha ca q0 g0 w0 D1 D2 S L pre x us gv v ns ll fb ⟨vs,fs,n1,n8,hL⟩ q'=>?_
 have sG:Same G H:=aX fs;walk_at "rd";refine ⟨vs,.inl (SqL.of fs.at_),aW (Same.seq sG fb.hS) (by decide) (by decide) (by omega) (by omega) fun r hr=>?_⟩;walk_at "rd";exact ⟨vs,vs[r]'(by omega),.inl (SqL.of fs.at_),bw (List.getElem?_eq_getElem _),q' _ _ sG ((fs.far _ (List.getElem_mem _)).same cb)⟩
theorem qT (T:Top K mg) {f:Addr} {cdv:Value} {A:Around} {outer:List Env} {s:Shared} {H₀:Hp} {E:XK} (hr:Room 1 (A.deeper (PyProof.Rows.envOfC "_law_unlike" (defScope am) s.heap.objs.size f cdv))):
  PSs (cxOf CX0 P w K mg base ["_law_script", "_law_net_here", "_law_layout_here", "_law_houses", "_law_lines_here", "_law_name", "_law_house_here", "_law_own", "_law_doors", "_law_some", "_law_left"] "_law_unlike" (defScope am) f cdv A outer s H₀ E).nox ((defBody am).drop 11) (mFar K 6):=by
 refine cm (bV (b9 (aV (neNilE K rfl (hu1 hr)) (qv 4) (aI ad)) (af (aO (aD (qv 9) (aq (aa (qv 2) (aa (qv 3) (aa (aU (slE K rfl) (qv 4) (bo ac) bC) ad))))))
   (ak (aO (aD (qv 9) (aq (aa (qv 2) (aa (qv 3) (aa (ai ah (aU (slE K rfl) (qv 4) (bo ac) bC) (aI (aa (aq (aa (aj (ixE K rfl) (aj (ixE K rfl) (qv 4) ac (fun _ _=>rfl)) ac (fun _ _=>rfl)) (aa (aj (ixE K rfl) (aj (ixE K rfl) (qv 4) ac (fun _ _=>rfl)) ac (fun _ _=>rfl)) ad))) ad))) ad)))))))) aZ)
   (qQ T hr)) fun E1 σ H h0=>h0 _ fun G N a q la ha ca q0 g0 w0 D1 D2 S L pre x us gv v ns ll fb ⟨vs,fs,n1,n8,hL⟩ q'=>?_
 have sG:Same G H:=aX fs;obtain ⟨cv,ec,pc⟩:=id fb.lines;walk_at "rd";refine ⟨fun σ' H'=>σ'=[some (.ref a),some (.ref q),some (.ref la),some (.ref ha),some (.ref ca),some (tx x.1),some (.ref q0),some (.ref D1),some (.ref D2),some (.ref S),some (.ref L)]/\FarT G N S L ll 8 H',⟨by decide,fun p hp=>⟨cv,SqL.of (ae hp _ _ _ (sG _ _ ec)),SqL.of upd_same,?_⟩⟩,?_⟩
 ·have s1:=ae hp (.lst []);have fs1:=fs.same s1;have hL1:=hL.same (aA (g:=S) s1);by_cases g:cv=[]
  ·rw [if_pos g];exact ⟨rfl,vs,fs1,n1,by omega,hL1⟩
  rw [if_neg g];obtain ⟨cv0,cv1,rfl⟩:=List.exists_cons_of_ne_nil g;generalize upd H p (.lst [])=H1 at s1 fs1 hL1 ⊢;have o1:=aX fs1;have nl:=fb.nb.l;obtain ⟨l0,l1,eL⟩:∃ l0 l1,N.2.2=l0::l1:=by
   cases hc:N.2.2 with
   | nil=>rw [hc] at pc; cases pc
   | cons l0 l1=>exact ⟨l0,l1,rfl⟩
  rw [eL] at pc;cases pc with
  | cons r0 pc1=>
  obtain ⟨t0,u1,u2,rfl,et0,w1,w2⟩:=r0;refine ⟨⟨_,fs1.at_⟩,_,SqL.of (o1 _ _ ec),fun q1 hq1=>⟨by decide,fun p1 hp1=>?_⟩⟩;rw [gW] at hp1 ⊢;obtain ⟨fs2,s2,e2,m2⟩:=fs1.new hq1 (.lst cv1);obtain ⟨fs3,s3,e3,m3⟩:=fs2.new hp1 (.tup [.ref la,.ref ha,.ref q1]);have o3:=fs3.old;have fT:=fs1.put n8 (s2.trans s3) hL1 (t:=p1) (M:=(N.1,N.2.1,l1)) ⟨la,ha,q1,e3,fb.lay.same o3,fb.houses.same o3,⟨cv1,m3 _ _ e2,L2.Paired.mapP pc1 fun _ _ z=>cu (fun _ _=>o3 _ _) z⟩⟩ nl (mQ (by rw [eL]; exact fun z=>absurd (congrArg List.length z) (Nat.succ_ne_self _)));refine ⟨vs,fs3.at_,sizeBig (by omega),⟨_,upd_same⟩,?_⟩;obtain ⟨ws,fw,k1,k2,hL4⟩:=fT;have ew:=fw.at_;rw [upd_same] at ew;cases ew;generalize upd (upd (upd H1 q1 (.lst cv1)) p1 (.tup [.ref la,.ref ha,.ref q1])) S (.lst (vs++[.ref p1]))=H4 at fw hL4 ⊢;generalize vs++[V.ref p1]=ws at fw k1 k2;clear fs3 o3 fs2 fs1 e3 e2 m2 m3 s3 s2 hp1 hq1 s1 o1;have o4:=aX fw;refine ⟨_,SqL.of (o4 _ _ ec),fun q2 hq2=>?_⟩;rw [gW];obtain ⟨fs5,s5,e5,m5⟩:=fw.new hq2 (.lst cv1);have o5:=aX fs5;refine ⟨_,V.ref t0,.inl (SqL.of (o5 _ _ ec)),bw (j:=0) rfl,?_⟩;walk_at "rd";refine ⟨_,_,.inr (SqT.of (o5 _ _ et0)),rfl,_,V.ref t0,.inl (SqL.of (o5 _ _ ec)),bw (j:=0) rfl,?_⟩;walk_at "rd";refine ⟨_,_,.inr (SqT.of (o5 _ _ et0)),rfl,by decide,fun p2 hp2=>⟨by decide,fun p3 hp3=>?_⟩⟩;obtain ⟨fs6,s6,e6,m6⟩:=fs5.new hp2 (.tup [u2,u1]);obtain ⟨fs7,s7,e7,m7⟩:=fs6.new hp3 (.lst [.ref p2]);refine ⟨_,_,cb _ _ (m7 _ _ (m6 _ _ e5)),upd_same,?_,fun p4 hp4=>⟨by decide,fun p5 hp5=>?_⟩⟩
  ·exact Nat.le_of_lt (sizeBig (by have h6:=fb.nb.l6; have:=pc1.length; rw [eL] at h6; simp only [List.length_cons,List.length_nil] at h6 ⊢; omega))
  obtain ⟨fs8,s8,e8,m8⟩:=fs7.new hp4 (.lst (cv1++[.ref p2]));obtain ⟨fs9,s9,e9,m9⟩:=fs8.new hp5 (.tup [.ref la,.ref ha,.ref p4]);have o9:=fs9.old;have m69:=m7.trans (m8.trans m9);refine ⟨_,fs9.at_,sizeBig (by omega),?_⟩;show FarT G N S L ll 8 _;refine (fw.put k2 (s5.trans (s6.trans (s7.trans (s8.trans s9)))) hL4 (t:=p5) (M:=(N.1,N.2.1,l1++[(l0.2,l0.1)])) ⟨la,ha,p4,e9,fb.lay.same o9,fb.houses.same o9,⟨_,m9 _ _ e8,aw (L2.Paired.mapP pc1 fun _ _ z=>cu (fun _ _=>o9 _ _) z) ⟨p2,u2,u1,rfl,m69 _ _ e6,?_,?_⟩⟩⟩ nl (oQ fb.nb eL rfl)).le (by decide)
  ·obtain ⟨b1,b2,b3⟩:=w2;exact ⟨b1,b2,o9 _ _ b3⟩
  ·obtain ⟨b1,b2,b3⟩:=w1;exact ⟨b1,b2,o9 _ _ b3⟩
 ·rintro σ' H' ⟨rfl,hT⟩;exact fun C hC=>hC G N a q la ha ca q0 g0 w0 D1 D2 S L pre x us gv v ns ll fb hT q'
theorem cA {G H:Hp} (s:Same G H) {l:List Named} {vs:List V} (h:Paired (NamedAt G) l vs):Paired (NamedAt H) l vs:=L2.Paired.mapP h fun _ _ ⟨t,q,e,et,hh⟩=>⟨t,q,e,s _ _ et,hh.same s⟩
theorem fB {G H:Hp} (s:Same G H) {l:List Gate} {vs:List V} (h:Paired (GateAt G) l vs):Paired (GateAt H) l vs:=L2.Paired.mapP h fun _ _ ⟨t,r,e,et,hh⟩=>⟨t,r,e,s _ _ et,hh.same s⟩
theorem iw {α β:Type} {F:α -> β -> Prop} {l:List α} {vs:List β} (h:Paired F l vs):Paired F l.reverse vs.reverse:=by
 induction h with
 | nil=>exact .nil
 | cons r _ ih=>rw [List.reverse_cons,List.reverse_cons]; exact aw ih r
theorem FarB.house {G:Hp} {N:Net} {a la ha ca q0 g0 w0 D1 D2:Addr} {pre:List Named} {x:Named} {us gv:List V} {v:V} {ns:List Int} (h:FarB K G N a la ha ca q0 g0 w0 D1 D2 pre x us gv v ns):HouseAt G q0 x.2:=⟨g0,w0,h.e1,⟨gv,h.eg,h.pg⟩,h.ways⟩
theorem FarB.l {G:Hp} {N:Net} {a la ha ca q0 g0 w0 D1 D2:Addr} {pre:List Named} {x:Named} {us gv:List V} {v:V} {ns:List Int} (h:FarB K G N a la ha ca q0 g0 w0 D1 D2 pre x us gv v ns) {y:Named} (hy:y.2.1.length<=100) {ly:List Fld} {ls:List Line}:NetL (ly,pre++[y],ls):=by
 have l:=h.nb.l;have l1:=l.1;have l2:=l.2;rw [h.eN] at l1 l2;refine ⟨by rw [List.length_append] at l1 ⊢; exact l1,fun z hz=>?_⟩;rcases List.mem_append.mp hz with hz | hz
 ·exact l2 z (List.mem_append_left _ hz)
 ·rw [List.mem_singleton.mp hz]; exact hy
theorem qO (T:Top K mg) {f:Addr} {cdv:Value} {A:Around} {outer:List Env} {s:Shared} {H₀:Hp} {E:XK} (hr:Room 1 (A.deeper (PyProof.Rows.envOfC "_law_unlike" (defScope am) s.heap.objs.size f cdv))):
  PSs (cxOf CX0 P w K mg base ["_law_script", "_law_net_here", "_law_layout_here", "_law_houses", "_law_lines_here", "_law_name", "_law_house_here", "_law_own", "_law_doors", "_law_some", "_law_left"] "_law_unlike" (defScope am) f cdv A outer s H₀ E).nox ((defBody am).drop 10) (mFar K 5):=by
 refine cm (bV (b9 (aV ka (aB (lenE K rfl) rfl T.cq bL (aa (qv 8) ad)) ac) (ak (aO (aD (qv 9) (aq (aa (qv 2) (aa (ai ah (aU (slE K rfl) (qv 3) bC (bo (iC ac))) (aI (aa (aq (aa (qv 5) (aa (aq (aa (iI (K:=K) rfl rfl rfl T.cD rfl T.gj (aj (ixE K rfl) (qv 6) ac (fun _ _=>rfl))) (aa (aj (ixE K rfl) (qv 6) ac (fun _ _=>rfl)) ad))) ad))) ad))) (aa (qv 4) ad))))))) aZ)
   (qT T hr)) fun E1 σ H h0=>h0 _ fun G N a q la ha ca q0 g0 w0 D1 D2 S L pre x us gv v ns ll fb ⟨vs,fs,n1,n8,hL⟩ q'=>?_
 have sG:Same G H:=aX fs;have h4:=fb.nb.h4;have hul:=fb.pp.length;have hpl:N.2.1.length=pre.length+1:=by rw [fb.eN,List.length_append]; rfl
 have hx:=fb.nb.house x (by rw [fb.eN]; exact List.mem_append_right _ List.mem_cons_self);have g3:=hx.g3;have hgl:=fb.pg.length;walk_at "rd";refine ⟨fun σ' H'=>σ'=[some (.ref a),some (.ref q),some (.ref la),some (.ref ha),some (.ref ca),some (tx x.1),some (.ref q0),some (.ref D1),some (.ref D2),some (.ref S),some (.ref L)]/\FarT G N S L ll 6 H',⟨_,.inl (SqL.of (sG _ _ fb.d2)),?_⟩,?_⟩
 ·by_cases g:1 < (((x.2.1.map (·.1)).map tx).length:Int)
  ·rw [if_pos g];rw [List.length_map,List.length_map] at g;refine ⟨⟨_,fs.at_⟩,_,SqL.of (sG _ _ fb.eh),fun q1 hq1=>?_⟩;rw [gT];obtain ⟨fs1,s1,e1,m1⟩:=fs.new hq1 (.lst us);refine ⟨_,V.ref g0,.inr (SqT.of (aX fs1 _ _ fb.e1)),rfl,gv,SqL.of (aX fs1 _ _ fb.eg),fun p2 hp2=>?_⟩;obtain ⟨fs2,s2,e2,m2⟩:=fs1.new hp2 (.lst gv.reverse);refine ⟨_,V.ref w0,.inr (SqT.of (aX fs2 _ _ fb.e1)),rfl,by decide,fun p3 hp3=>⟨by decide,fun p4 hp4=>⟨by decide,fun p5 hp5=>?_⟩⟩⟩;obtain ⟨fs3,s3,e3,m3⟩:=fs2.new hp3 (.tup [.ref p2,.ref w0]);obtain ⟨fs4,s4,e4,m4⟩:=fs3.new hp4 (.tup [tx x.1,.ref p3]);obtain ⟨fs5,s5,e5,m5⟩:=fs4.new hp5 (.lst [.ref p4]);refine ⟨_,_,s5 _ _ (s4 _ _ (s3 _ _ (s2 _ _ upd_same))),upd_same,Nat.le_of_lt (sizeBig (by simp only [List.length_cons,List.length_nil]; omega)),fun p6 hp6=>⟨by decide,fun p7 hp7=>?_⟩⟩;obtain ⟨fs6,s6,e6,m6⟩:=fs5.new hp6 (.lst (us++[.ref p4]));obtain ⟨fs7,s7,e7,m7⟩:=fs6.new hp7 (.tup [.ref la,.ref p6,.ref ca]);have o7:=fs7.old;refine ⟨_,fs7.at_,sizeBig (by omega),rfl,?_⟩;show FarT G N S L ll 6 _;refine fs.put n8 (s1.trans (s2.trans (s3.trans (s4.trans (s5.trans (s6.trans s7)))))) hL (t:=p7) (M:=(N.1,pre++[(x.1,(x.2.1.reverse,x.2.2))],N.2.2)) ⟨la,p6,ca,e7,fb.lay.same o7,⟨_,m7 _ _ e6,aw (cA o7 fb.pp) ⟨p4,p3,rfl,m7 _ _ (m6 _ _ (m5 _ _ e4)),⟨p2,w0,m7 _ _ (m6 _ _ (m5 _ _ (m4 _ _ e3))),⟨_,m7 _ _ (m6 _ _ (m5 _ _ (m4 _ _ (m3 _ _ e2)))),iw (fB o7 fb.pg)⟩,fb.ways.same o7⟩⟩⟩,fb.lines.same o7⟩ (fb.l (by show x.2.1.reverse.length<=100; rw [List.length_reverse]; omega)) (jI fb.eN rfl ?_);show x.2.1.map (·.1)≠x.2.1.reverse.map (·.1);rw [List.map_reverse];exact ov (f:=id) (by rw [List.map_id]; exact hx.nd) (by rw [List.length_map]; omega)
  ·rw [if_neg g];exact ⟨rfl,vs,fs,n1,by omega,hL⟩
 ·rintro σ' H' ⟨rfl,hT⟩;exact fun C hC=>hC G N a q la ha ca q0 g0 w0 D1 D2 S L pre x us gv v ns ll fb hT q'
theorem rQ (T:Top K mg) {f:Addr} {cdv:Value} {A:Around} {outer:List Env} {s:Shared} {H₀:Hp} {E:XK} (hr:Room 1 (A.deeper (PyProof.Rows.envOfC "_law_unlike" (defScope am) s.heap.objs.size f cdv))):
  PSs (cxOf CX0 P w K mg base ["_law_script", "_law_net_here", "_law_layout_here", "_law_houses", "_law_lines_here", "_law_name", "_law_house_here", "_law_own", "_law_doors", "_law_some", "_law_left"] "_law_unlike" (defScope am) f cdv A outer s H₀ E).nox ((defBody am).drop 9) (mFar K 4):=by
 refine cm (bV (b9 (aV ka (aB (lenE K rfl) rfl T.cq bL (aa (qv 3) ad)) ac) (ak (aO (aD (qv 9) (aq (aa (qv 2) (aa (ai ah (aU (slE K rfl) (qv 3) (bo ac) bC) (aU (slE K rfl) (qv 3) bC (bo ac))) (aa (qv 4) ad))))))) aZ)
   (qO T hr)) fun E1 σ H h0=>h0 _ fun G N a q la ha ca q0 g0 w0 D1 D2 S L pre x us gv v ns ll fb ⟨vs,fs,n1,n8,hL⟩ q'=>?_
 have sG:Same G H:=aX fs;have h4:=fb.nb.h4;have hul:=fb.pp.length;have hpl:N.2.1.length=pre.length+1:=by rw [fb.eN,List.length_append]; rfl
 have hx:=fb.nb.house x (by rw [fb.eN]; exact List.mem_append_right _ List.mem_cons_self);have g3:=hx.g3;have hgl:=fb.pg.length;walk_at "rd";refine ⟨fun σ' H'=>σ'=[some (.ref a),some (.ref q),some (.ref la),some (.ref ha),some (.ref ca),some (tx x.1),some (.ref q0),some (.ref D1),some (.ref D2),some (.ref S),some (.ref L)]/\FarT G N S L ll 5 H',⟨us++[v],.inl (SqL.of (sG _ _ fb.eh)),?_⟩,?_⟩
 ·by_cases g:1 < ((us++[v]).length:Int)
  ·rw [if_pos g];have ph:=aw fb.pp fb.pv;rw [<- fb.eN] at ph;have eh:=fb.eh;have hln:=ph.length;generalize us++[v]=hv at ph eh g hln;obtain ⟨n0,n1',l2,eL⟩:∃ n0 n1 l2,N.2.1=n0::n1::l2:=by
    match hN:N.2.1,(by omega:2<=N.2.1.length) with
    | n0::n1::l2,_=>exact ⟨n0,n1,l2,rfl⟩
   rw [eL] at ph;cases ph with
   | @cons _ u0 _ u1 r0 p1=>
   refine ⟨⟨_,fs.at_⟩,_,SqL.of (sG _ _ eh),fun q1 hq1=>⟨_,SqL.of (ae hq1 _ _ _ (sG _ _ eh)),fun q2 hq2=>?_⟩⟩;rw [gW] at hq2 ⊢;rw [nc];obtain ⟨fs1,s1,e1,m1⟩:=fs.new hq1 (.lst u1);obtain ⟨fs2,s2,e2,m2⟩:=fs1.new hq2 (.lst [u0]);refine ⟨_,_,s2 _ _ upd_same,upd_same,Nat.le_of_lt (sizeBig (by simp only [List.length_cons,List.length_nil] at hln ⊢; omega)),fun p3 hp3=>⟨by decide,fun p4 hp4=>?_⟩⟩;obtain ⟨fs3,s3,e3,m3⟩:=fs2.new hp3 (.lst (u1++[u0]));obtain ⟨fs4,s4,e4,m4⟩:=fs3.new hp4 (.tup [.ref la,.ref p3,.ref ca]);have o4:=fs4.old;refine ⟨_,fs4.at_,sizeBig (by omega),rfl,?_⟩;show FarT G N S L ll 5 _;refine fs.put n8 (s1.trans (s2.trans (s3.trans s4))) hL (t:=p4) (M:=(N.1,(n1'::l2)++[n0],N.2.2)) ⟨la,p3,ca,e4,fb.lay.same o4,⟨_,m4 _ _ e3,cA o4 (aw p1 r0)⟩,fb.lines.same o4⟩ ?_ (pD fb.nb eL rfl);have l:=fb.nb.l;have l1:=l.1;have l2':=l.2;rw [eL] at l1 l2';refine ⟨by simp only [List.length_append,List.length_cons,List.length_nil] at l1 ⊢; omega,fun z hz=>l2' z ?_⟩;rcases List.mem_append.mp hz with hz | hz
   ·exact List.mem_cons_of_mem _ hz
   ·rw [List.mem_singleton.mp hz]; exact List.mem_cons_self
  ·rw [if_neg g];exact ⟨rfl,vs,fs,n1,by omega,hL⟩
 ·rintro σ' H' ⟨rfl,hT⟩;exact fun C hC=>hC G N a q la ha ca q0 g0 w0 D1 D2 S L pre x us gv v ns ll fb hT q'
theorem sD (T:Top K mg) {f:Addr} {cdv:Value} {A:Around} {outer:List Env} {s:Shared} {H₀:Hp} {E:XK} (hr:Room 1 (A.deeper (PyProof.Rows.envOfC "_law_unlike" (defScope am) s.heap.objs.size f cdv))):
  PSs (cxOf CX0 P w K mg base ["_law_script", "_law_net_here", "_law_layout_here", "_law_houses", "_law_lines_here", "_law_name", "_law_house_here", "_law_own", "_law_doors", "_law_some", "_law_left"] "_law_unlike" (defScope am) f cdv A outer s H₀ E).nox ((defBody am).drop 8) (mFar K 3):=by
 refine cm (af (aO (aD (qv 9) (aq (aa (qv 2) (aa (ai ah (qv 3) (aI (aa (aq (aa (av (bQ T) hr.m rfl (aa (qv 7) ad)) (aa (aq (aa (aI (aa (aq (aa (qs [120]) (aa (aI ad) ad))) ad)) (aa (aI ad) ad))) ad))) ad))) (aa (qv 4) ad))))))
   (rQ T hr)) fun E1 σ H h0=>h0 _ fun G N a q la ha ca q0 g0 w0 D1 D2 S L pre x us gv v ns ll fb ⟨vs,fs,n1,n8,hL⟩ q'=>?_
 have sG:Same G H:=aX fs;have h4:=fb.nb.h4;have hul:=fb.pp.length;have hpl:N.2.1.length=pre.length+1:=by rw [fb.eN,List.length_append]; rfl
 have hx:=fb.nb.house x (by rw [fb.eN]; exact List.mem_append_right _ List.mem_cons_self);have g3:=hx.g3;have hgl:=fb.pg.length;walk_at "rd";refine ⟨⟨_,fs.at_⟩,N.2.1.map (·.1),sG _ _ fb.d1,by rw [List.length_map]; omega,fun n H2 s2 hn _=>⟨by decide,fun p0 hp0=>⟨by decide,fun p1 hp1=>⟨by decide,fun p2 hp2=>⟨by decide,fun p3 hp3=>⟨by decide,fun p4 hp4=>⟨by decide,fun p5 hp5=>⟨by decide,fun p6 hp6=>?_⟩⟩⟩⟩⟩⟩⟩⟩;have fs2:=fs.same s2;obtain ⟨f0,s0,e0,m0⟩:=fs2.new hp0 (.lst []);obtain ⟨f1,s1,e1,m1⟩:=f0.new hp1 (.tup [tx [120],.ref p0]);obtain ⟨f2,s2',e2,m2⟩:=f1.new hp2 (.lst [.ref p1]);obtain ⟨f3,s3,e3,m3⟩:=f2.new hp3 (.lst []);obtain ⟨f4,s4,e4,m4⟩:=f3.new hp4 (.tup [.ref p2,.ref p3]);obtain ⟨f5,s5,e5,m5⟩:=f4.new hp5 (.tup [tx n,.ref p4]);obtain ⟨f6,s6,e6,m6⟩:=f5.new hp6 (.lst [.ref p5]);refine ⟨_,_,aX f6 _ _ fb.eh,upd_same,Nat.le_of_lt (sizeBig (by simp only [List.length_append,List.length_cons,List.length_nil]; omega)),fun p7 hp7=>⟨by decide,fun p8 hp8=>?_⟩⟩;obtain ⟨f7,s7,e7,m7⟩:=f6.new hp7 (.lst ((us++[v])++[.ref p5]));obtain ⟨f8,s8,e8,m8⟩:=f7.new hp8 (.tup [.ref la,.ref p7,.ref ca]);have o8:=f8.old;have m68:=m6.trans (m7.trans m8);have m48:=m4.trans (m5.trans m68);refine ⟨_,f8.at_,sizeBig (by omega),fun C hC=>hC G N a q la ha ca q0 g0 w0 D1 D2 S L pre x us gv v ns ll fb (fs.put n8 (s2.trans (s0.trans (s1.trans (s2'.trans (s3.trans (s4.trans (s5.trans (s6.trans (s7.trans s8))))))))) hL (t:=p8) (M:=(N.1,N.2.1++[(n,([([120],[])],[]))],N.2.2)) ⟨la,p7,ca,e8,fb.lay.same o8,⟨_,m8 _ _ e7,aw ?_ ⟨p5,p4,rfl,m68 _ _ e5,⟨p2,p3,(m5.trans m68) _ _ e4,⟨_,(m3.trans m48) _ _ e2,.cons ⟨p1,p0,rfl,(m2.trans (m3.trans m48)) _ _ e1,⟨[],(m1.trans (m2.trans (m3.trans m48))) _ _ e0,.nil⟩⟩ .nil⟩,⟨[],m48 _ _ e3,.nil⟩⟩⟩⟩,fb.lines.same o8⟩ ?_ (mT ?_)) q'⟩
 ·rw [fb.eN];exact cA o8 (aw fb.pp fb.pv)
 ·refine ⟨by show (N.2.1++_).length<=100; rw [List.length_append]; simp only [List.length_cons,List.length_nil]; omega,fun z hz=>?_⟩;rcases List.mem_append.mp hz with hz | hz
  ·exact fb.nb.l.2 z hz
  ·rw [List.mem_singleton.mp hz]; exact (by decide:1<=100)
 ·show N.2.1.length≠(N.2.1++_).length;rw [List.length_append];simp only [List.length_cons,List.length_nil];omega
theorem su (T:Top K mg) {f:Addr} {cdv:Value} {A:Around} {outer:List Env} {s:Shared} {H₀:Hp} {E:XK} (hr:Room 1 (A.deeper (PyProof.Rows.envOfC "_law_unlike" (defScope am) s.heap.objs.size f cdv))):
  PSs (cxOf CX0 P w K mg base ["_law_script", "_law_net_here", "_law_layout_here", "_law_houses", "_law_lines_here", "_law_name", "_law_house_here", "_law_own", "_law_doors", "_law_some", "_law_left"] "_law_unlike" (defScope am) f cdv A outer s H₀ E).nox ((defBody am).drop 7) (mFar K 2):=by
 refine cm (af (aO (aD (qv 9) (aq (aa (qv 2) (aa (ai ah (aU (slE K rfl) (qv 3) bC (bo (iC ac))) (aI (aa (aq (aa (qv 5) (aa (aq (aa (ai ah (aj (ixE K rfl) (qv 6) ac (fun _ _=>rfl)) (aI (aa (aq (aa (av (bQ T) hr.m rfl (aa (qv 8) ad)) (aa (aI ad) ad))) ad))) (aa (aj (ixE K rfl) (qv 6) ac (fun _ _=>rfl)) ad))) ad))) ad))) (aa (qv 4) ad))))))
   (sD T hr)) fun E1 σ H h0=>h0 _ fun G N a q la ha ca q0 g0 w0 D1 D2 S L pre x us gv v ns ll fb ⟨vs,fs,n1,n8,hL⟩ q'=>?_
 have sG:Same G H:=aX fs;have h4:=fb.nb.h4;have hul:=fb.pp.length;have hpl:N.2.1.length=pre.length+1:=by rw [fb.eN,List.length_append]; rfl
 have hx:=fb.nb.house x (by rw [fb.eN]; exact List.mem_append_right _ List.mem_cons_self);have g3:=hx.g3;have hgl:=fb.pg.length;walk_at "rd";refine ⟨⟨_,fs.at_⟩,_,SqL.of (sG _ _ fb.eh),fun q1 hq1=>?_⟩;rw [gT];obtain ⟨f0,s0,e0,m0⟩:=fs.new hq1 (.lst us);refine ⟨_,V.ref g0,.inr (SqT.of (aX f0 _ _ fb.e1)),rfl,x.2.1.map (·.1),aX f0 _ _ fb.d2,by rw [List.length_map]; omega,fun n H2 s1 hn _=>⟨by decide,fun p1 hp1=>⟨by decide,fun p2 hp2=>⟨by decide,fun p3 hp3=>?_⟩⟩⟩⟩;have f1:=f0.same s1;have m1:=aA (g:=S) s1;obtain ⟨f2,s2,e2,m2⟩:=f1.new hp1 (.lst []);obtain ⟨f3,s3,e3,m3⟩:=f2.new hp2 (.tup [tx n,.ref p1]);obtain ⟨f4,s4,e4,m4⟩:=f3.new hp3 (.lst [.ref p2]);walk_at "rd";refine ⟨_,_,aX f4 _ _ fb.eg,upd_same,Nat.le_of_lt (sizeBig (by simp only [List.length_cons,List.length_nil]; omega)),fun p4 hp4=>?_⟩;obtain ⟨f5,s5,e5,m5⟩:=f4.new hp4 (.lst (gv++[.ref p2]));refine ⟨_,V.ref w0,.inr (SqT.of (aX f5 _ _ fb.e1)),rfl,by decide,fun p5 hp5=>⟨by decide,fun p6 hp6=>⟨by decide,fun p7 hp7=>?_⟩⟩⟩;obtain ⟨f6,s6,e6,m6⟩:=f5.new hp5 (.tup [.ref p4,.ref w0]);obtain ⟨f7,s7,e7,m7⟩:=f6.new hp6 (.tup [tx x.1,.ref p5]);obtain ⟨f8,s8,e8,m8⟩:=f7.new hp7 (.lst [.ref p6]);refine ⟨_,_,(s1.trans (s2.trans (s3.trans (s4.trans (s5.trans (s6.trans (s7.trans s8))))))) _ _ upd_same,upd_same,Nat.le_of_lt (sizeBig (by simp only [List.length_cons,List.length_nil]; omega)),fun p8 hp8=>⟨by decide,fun p9 hp9=>?_⟩⟩;obtain ⟨f9,s9,e9,m9⟩:=f8.new hp8 (.lst (us++[.ref p6]));obtain ⟨f10,s10,e10,m10⟩:=f9.new hp9 (.tup [.ref la,.ref p8,.ref ca]);have o10:=f10.old;have k8:=m8.trans (m9.trans m10);have k6:=m6.trans (m7.trans k8);have k4:=m4.trans (m5.trans k6);refine ⟨_,f10.at_,sizeBig (by omega),fun C hC=>hC G N a q la ha ca q0 g0 w0 D1 D2 S L pre x us gv v ns ll fb (fs.put n8 (s0.trans (s1.trans (s2.trans (s3.trans (s4.trans (s5.trans (s6.trans (s7.trans (s8.trans (s9.trans s10)))))))))) hL (t:=p9) (M:=(N.1,pre++[(x.1,(x.2.1++[(n,[])],x.2.2))],N.2.2)) ⟨la,p8,ca,e10,fb.lay.same o10,⟨_,m10 _ _ e9,aw (cA o10 fb.pp) ⟨p6,p5,rfl,k8 _ _ e7,⟨p4,w0,(m7.trans k8) _ _ e6,⟨_,k6 _ _ e5,aw (fB o10 fb.pg) ⟨p2,p1,rfl,k4 _ _ e3,⟨[],(m3.trans k4) _ _ e2,.nil⟩⟩⟩,fb.ways.same o10⟩⟩⟩,fb.lines.same o10⟩ (fb.l ?_) (jI fb.eN rfl ?_)) q'⟩
 ·show (x.2.1++_).length<=100;rw [List.length_append];simp only [List.length_cons,List.length_nil];omega
 ·intro z;have:=congrArg List.length z;simp only [List.length_map,List.length_append,List.length_cons,List.length_nil] at this;omega
theorem sO (T:Top K mg) {f:Addr} {cdv:Value} {A:Around} {outer:List Env} {s:Shared} {H₀:Hp} {E:XK} (hr:Room 1 (A.deeper (PyProof.Rows.envOfC "_law_unlike" (defScope am) s.heap.objs.size f cdv))):
  PSs (cxOf CX0 P w K mg base ["_law_script", "_law_net_here", "_law_layout_here", "_law_houses", "_law_lines_here", "_law_name", "_law_house_here", "_law_own", "_law_doors", "_law_some", "_law_left"] "_law_unlike" (defScope am) f cdv A outer s H₀ E).nox ((defBody am).drop 6) (mFar K 1):=by
 refine cm (af (aO (aD (qv 9) (aq (aa (qv 2) (aa (ai ah (aU (slE K rfl) (qv 3) bC (bo (iC ac))) (aI (aa (aq (aa (av (bQ T) hr.m rfl (aa (qv 7) ad)) (aa (qv 6) ad))) ad))) (aa (qv 10) ad))))))
   (su T hr)) fun E1 σ H h0=>h0 _ fun G N a q la ha ca q0 g0 w0 D1 D2 S L pre x us gv v ns ll fb ⟨vs,fs,n1,n8,hL⟩ q'=>?_
 have sG:Same G H:=aX fs;have h4:=fb.nb.h4;have hul:=fb.pp.length;have hpl:N.2.1.length=pre.length+1:=by rw [fb.eN,List.length_append]; rfl
 have hx:=fb.nb.house x (by rw [fb.eN]; exact List.mem_append_right _ List.mem_cons_self);have g3:=hx.g3;have hgl:=fb.pg.length;walk_at "rd";refine ⟨⟨_,fs.at_⟩,_,SqL.of (sG _ _ fb.eh),fun q1 hq1=>?_⟩;rw [gT];obtain ⟨fs1,s1,e1,m1⟩:=fs.new hq1 (.lst us);refine ⟨N.2.1.map (·.1),aX fs1 _ _ fb.d1,by rw [List.length_map]; omega,fun n H2 s2 hn _=>⟨by decide,fun p2 hp2=>⟨by decide,fun p3 hp3=>?_⟩⟩⟩;have fs2:=fs1.same s2;obtain ⟨fs3,s3,e3,m3⟩:=fs2.new hp2 (.tup [tx n,.ref q0]);obtain ⟨fs4,s4,e4,m4⟩:=fs3.new hp3 (.lst [.ref p2]);refine ⟨_,_,s4 _ _ (s3 _ _ (s2 _ _ upd_same)),upd_same,Nat.le_of_lt (sizeBig (by simp only [List.length_cons,List.length_nil]; omega)),fun p5 hp5=>⟨by decide,fun p6 hp6=>?_⟩⟩;obtain ⟨fs5,s5,e5,m5⟩:=fs4.new hp5 (.lst (us++[.ref p2]));obtain ⟨fs6,s6,e6,m6⟩:=fs5.new hp6 (.tup [.ref la,.ref p5,.ref L]);have o6:=fs6.old;have ss:=s1.trans (s2.trans (s3.trans (s4.trans (s5.trans s6))));exact ⟨_,fs6.at_,sizeBig (by omega),fun C hC=>hC G N a q la ha ca q0 g0 w0 D1 D2 S L pre x us gv v ns ll fb (fs.put n8 ss hL (t:=p6) (M:=(N.1,pre++[(n,x.2)],ll)) ⟨la,p5,L,e6,fb.lay.same o6,⟨_,m6 _ _ e5,aw (cA o6 fb.pp) ⟨p2,q0,rfl,m6 _ _ (m5 _ _ (m4 _ _ e3)),fb.house.same o6⟩⟩,hL.same (aA ss)⟩ (fb.l (by show x.2.1.length<=100; omega)) (nP hn (by show n ∈ (pre++[(n,x.2)]).map (·.1); rw [List.map_append]; exact List.mem_append_right _ List.mem_cons_self))) q'⟩
noncomputable def cZ (K:Frag):Sp:=aC fun a=>aC fun q=>bd fun H Q _=>∃ (ns:List Int) (N:Net),SqL K H a (ns.map V.int)/\NetAt H q N/\NetB N/\∀ v H',Same H H'->FarAt N H' v->Q v H'
theorem iV (T:Top K mg):Callee P w K mg base 2 "_law_unlike" ["_law_script", "_law_net_here"] (cZ K):=by
 refine T.fS.cal aK (by unfold cZ; exact LenSp.h) (fun _ _ _ _ _ _ us hl=>match us,hl with | [_,_],_=>rfl) (fun f cdv A outer s H vs Q E hr h=>?_);unfold cZ at h;walk_at "el";refine ⟨_,(af (j8 (qv 1) (seqE K rfl rfl (n:=3) (az (ao (i:=2) aK.nd rfl lc) (az (ao (i:=3) aK.nd rfl lc) (az (ao (i:=4) aK.nd rfl lc) bM)))))
   (af (j8 (aj (ixE K rfl) (qv 3) (iC ac) (fun _ _=>rfl)) (seqE K rfl rfl (n:=2) (az (ao (i:=5) aK.nd rfl lc) (az (ao (i:=6) aK.nd rfl lc) bM))))
   (af (cS (i:=7) (nt:=1) (fi:=[]) (N':=["_law_pair"]) aK.nd rfl lc rfl (cscope rfl (by decide +kernel)) (cnames (N:=["_law_script", "_law_net_here", "_law_layout_here", "_law_houses", "_law_lines_here", "_law_name", "_law_house_here", "_law_own", "_law_doors", "_law_some", "_law_left"]) (sc:=defScope am) rfl rfl (by decide +kernel)) (aS (by decide)) (iterE K rfl (qv 3)) (fun _ _ _ _ _=>(ao (i:=0) (by show (["_law_pair"]:List Str).Nodup; decide +kernel) rfl lc)) (fun _ _ _ _ _=>aQ) (fun _ _ _ _ _=>(aj (ixE K rfl) (qv 0) ac (fun _ _=>rfl))))
   (af (cS (i:=8) (nt:=1) (fi:=[]) (N':=["_law_gate"]) aK.nd rfl lc rfl (cscope rfl (by decide +kernel)) (cnames (N:=["_law_script", "_law_net_here", "_law_layout_here", "_law_houses", "_law_lines_here", "_law_name", "_law_house_here", "_law_own", "_law_doors", "_law_some", "_law_left"]) (sc:=defScope am) rfl rfl (by decide +kernel)) (aS (by decide)) (iterE K rfl (aj (ixE K rfl) (qv 6) ac (fun _ _=>rfl))) (fun _ _ _ _ _=>(ao (i:=0) (by show (["_law_gate"]:List Str).Nodup; decide +kernel) rfl lc)) (fun _ _ _ _ _=>aQ) (fun _ _ _ _ _=>(aj (ixE K rfl) (qv 0) ac (fun _ _=>rfl))))
   (af (ar (i:=9) aK.nd rfl lc (aI (aa (aq (aa (iI (K:=K) rfl rfl rfl T.cD rfl T.gj (qv 2)) (aa (qv 3) (aa (qv 4) ad)))) ad)))
   (af (cS (i:=10) (nt:=1) (fi:=[5]) (N':=["_law_line", "_law_name"]) aK.nd rfl lc rfl (cscope rfl (by decide +kernel)) (cnames (N:=["_law_script", "_law_net_here", "_law_layout_here", "_law_houses", "_law_lines_here", "_law_name", "_law_house_here", "_law_own", "_law_doors", "_law_some", "_law_left"]) (sc:=defScope am) rfl rfl (by decide +kernel)) (aS (by decide)) (iterE K rfl (qv 4)) (fun _ _ _ _ _=>(ao (i:=0) (by show (["_law_line", "_law_name"]:List Str).Nodup; decide +kernel) rfl lc)) (fun _ _ _ _ _=>(ir (PW.pt (sS (aV pb (qv 1) (aj (ixE K rfl) (aj (ixE K rfl) (qv 0) ac (fun _ _=>rfl)) ac (fun _ _=>rfl))) (qg (aV pb (qv 1) (aj (ixE K rfl) (aj (ixE K rfl) (qv 0) ac (fun _ _=>rfl)) ac (fun _ _=>rfl)))))))) (fun _ _ _ _ _=>(qv 0)))
   (sO T hr))))))),?_⟩
 rename_i a q;obtain ⟨ns,N,hS,hN,nb,q'⟩:=h;obtain ⟨la,ha,ca,et,hL,⟨hv,eh,ph⟩,hC⟩:=id hN;obtain ⟨cv,ec,pc⟩:=id hC;obtain ⟨lv,el,pl⟩:=id hL;have hne:N.2.1≠[]:=fun e=>by
  have:=nb.h1;rw [e] at this;cases this
 obtain ⟨pre,x,eN⟩:∃ pre x,N.2.1=pre++[x]:=⟨_,_,(List.dropLast_concat_getLast hne).symm⟩;have hh:=nb.house x (by rw [eN]; exact List.mem_append_right _ List.mem_cons_self);have ph0:=ph;rw [eN] at ph;obtain ⟨us,v,rfl,pp,⟨t0,q0,rfl,e0,⟨g0,w0,e1,⟨gv,eg,pg⟩,hw⟩⟩⟩:=eM ph;have n4:pre.length+1<=4:=by
  have:=nb.h4;rw [eN,List.length_append] at this;exact this
 have ul:=pp.length;have gl:=pg.length;have g3:=hh.g3;walk_at "rd";refine ⟨_,.inr (SqT.of et),rfl,?_⟩;walk_at "rd";refine ⟨_,_,.inl (SqL.of eh),kE _ _,[_,_],.inr (SqT.of e0),rfl,_,[_],rfl,_,[],rfl,rfl,?_⟩;walk_at "rd";refine .inl ⟨⟨_,SqL.of eh⟩,fun D1 hD1=>eZ (·.1) eh (L2.Paired.mapP ph0 fun _ _ ⟨t,q,e,et,_⟩=>⟨t,_,e,et⟩) (Nat.le_trans nb.h4 (by decide)) hD1 fun H1 s1 eD1=>?_⟩;walk_at "rd";refine ⟨_,V.ref g0,.inr (SqT.of (s1 _ _ e1)),rfl,.inl ⟨⟨_,SqL.of (s1 _ _ eg)⟩,fun D2 hD2=>eZ (·.1) (s1 _ _ eg) (L2.Paired.mapP pg fun _ _ ⟨t,r,e,et,_⟩=>⟨t,_,e,s1 _ _ et⟩) (by omega) hD2 fun H2 s2 eD2=>?_⟩⟩;have s12:=s1.trans s2;walk_at "rd";refine ⟨lv,SqL.of (s12 _ _ el),fun p1 hp1=>⟨by decide,fun p2 hp2=>⟨by decide,fun S hS0=>?_⟩⟩⟩;have hS4:=s12.seq hS;have fb:FarB K H2 N a la ha ca q0 g0 w0 D1 D2 pre x us gv (.ref t0) ns:=⟨hS4,nb,eN,hL.same s12,s12 _ _ eh,cA s12 pp,⟨t0,q0,rfl,s12 _ _ e0,⟨g0,w0,s12 _ _ e1,⟨gv,s12 _ _ eg,fB s12 pg⟩,hw.same s12⟩⟩,hC.same s12,s12 _ _ e1,s12 _ _ eg,fB s12 pg,hw.same s12,s2 _ _ eD1,eD2⟩;have s3:=ae hp1 (.lst lv.reverse);have s4:=ae hp2 (.tup [.ref p1,.ref ha,.ref ca]);have s34:=s3.trans s4;have nt:NetAt (upd (upd H2 p1 (.lst lv.reverse)) p2 (.tup [.ref p1,.ref ha,.ref ca])) p2 (N.1.reverse,N.2):=⟨p1,ha,ca,upd_same,⟨_,s4 _ _ upd_same,iw (bR (fun _ _=>(s12.trans s34) _ _) pl)⟩,fb.houses.same s34,fb.lines.same s34⟩;have fs:FarS H2 N S (upd (upd (upd H2 p1 (.lst lv.reverse)) p2 (.tup [.ref p1,.ref ha,.ref ca])) S (.lst [.ref p2])) [.ref p2]:=by
  refine ⟨upd_same,?_,?_⟩
  ·rw [ci];exact gY s34 (s34.free hS0)
  ·intro v hv;cases List.mem_singleton.mp hv;rw [ci];exact ⟨p2,_,rfl,nt.same (gY (Same.refl _) hS0),nb.l,pQ nb⟩
 generalize upd (upd (upd H2 p1 (.lst lv.reverse)) p2 (.tup [.ref p1,.ref ha,.ref ca])) S (.lst [.ref p2])=H5 at fs;have s5:=aX fs;have ec5:=s5 _ _ (s12 _ _ ec);have hcl:=pc.length;have l6:=nb.l6;obtain ⟨_,z2⟩:=aE pc;refine .inl ⟨⟨_,SqL.of ec5⟩,fun D hD=>?_⟩;refine kf (N.2.2.zip cv) (fun z=>decide (x.1≠z.1.1.1) && decide (x.1≠z.1.2.1)) (fun z v _=>v=z.2) hD (by rw [List.length_zip]; omega) (fun i H1 hi s1=>⟨cv,cv[i]'(by rw [List.length_zip] at hi; omega),SqL.of (s1 _ _ ec5),List.getElem?_eq_getElem _⟩) (fun H1 s1=>⟨cv,SqL.of (s1 _ _ ec5),by rw [List.length_zip]; omega⟩) ?_ ?_ ?_ ?_
 ·rintro i H1 v H2 _ ⟨rfl,_⟩;exact Same.refl _
 ·intro z v H1 H2 acc _ _ h;exact h
 ·rintro i z v H6 H7 out non hz s6 ⟨rfl,a1⟩ ho hno;obtain ⟨y1,y2⟩:=List.getElem?_zip_eq_some.mp hz;have y3:=a1 cv (SqL.of (s6 _ _ ec5));rw [y2] at y3;have y4:=Option.some.inj y3;obtain ⟨t,u1,u2,ez,ezt,⟨b1,eb1,eb2⟩,⟨c1,ec1,ec2⟩⟩:=z2 z (List.mem_of_getElem? hz);have s7:=(s12.trans s5).trans s6;rw [<- y4,ez];walk_at "rd";refine ⟨_,u1,.inr (SqT.of (s7 _ _ ezt)),rfl,?_⟩;rw [eb1];walk_at "rd";refine ⟨_,_,.inr (SqT.of (s7 _ _ eb2)),rfl,?_⟩;walk_at "rd";by_cases k1:x.1=z.1.1.1
  ·rw [if_pos k1];exact hno _ (by rw [decide_eq_false (fun w=>w k1)]; rfl) (Same.refl _)
  rw [if_neg k1];refine ⟨_,u2,.inr (SqT.of (s7 _ _ ezt)),rfl,?_⟩;rw [ec1];walk_at "rd";refine ⟨_,_,.inr (SqT.of (s7 _ _ ec2)),rfl,?_⟩;walk_at "rd";by_cases k2:x.1=z.1.2.1
  ·rw [if_pos k2];exact hno _ (by rw [decide_eq_false (p:=x.1≠z.1.2.1) (fun w=>w k2),Bool.and_false]) (Same.refl _)
  rw [if_neg k2];exact ho _ _ (by rw [decide_eq_true k1,decide_eq_true k2]; rfl) (Same.refl _) ez.symm
 ·intro H6 ws s6 e6 p6;have s7:Same (hole S H5) (hole S H6):=aA s6;refine fun C hC=>hC H2 N a q la ha ca q0 g0 w0 D1 D2 S D pre x us gv (.ref t0) ns (((N.2.2.zip cv).filter (fun z=>decide (x.1≠z.1.1.1) && decide (x.1≠z.1.2.1))).map Prod.fst) fb ⟨[.ref p2],fs.same s6,Nat.le_refl _,Nat.le_refl _,⟨ws,?_,?_⟩⟩ (fun u H' s h=>q' u H' (s12.trans s) h)
  ·rw [bu (ox fs hD)];exact e6
  ·have p7:Paired (fun (z:Line × V) v=>LineAt (hole S H6) z.1 v) ((N.2.2.zip cv).filter (fun z=>decide (x.1≠z.1.1.1) && decide (x.1≠z.1.2.1))) ws:=by
    have hall:∀ z ∈ (N.2.2.zip cv).filter (fun z=>decide (x.1≠z.1.1.1) && decide (x.1≠z.1.2.1)),LineAt (hole S H6) z.1 z.2:=fun z hz=>cu (fun _ _=>(s12.trans (fs.old.trans s7)) _ _) (z2 z (List.mem_filter.mp hz).1)
    generalize (N.2.2.zip cv).filter (fun z=>decide (x.1≠z.1.1.1) && decide (x.1≠z.1.2.1))=zs at p6 hall;clear e6
    induction p6 with
    | nil=>exact .nil
    | cons r _ ih=>
     refine .cons ?_ (ih fun z hz=>hall z (List.mem_cons_of_mem _ hz));rw [r];exact hall _ List.mem_cons_self
   exact bN p7
theorem iq {N M:Net} (h:Alike N M):Like N M:=⟨h.lay.symm,h.lines.symm,h.doors.symm⟩
theorem og {N M:Net} (h:Like N M):Like M N:=⟨h.1.symm,h.2.1.symm,h.2.2.symm⟩
theorem kX {N M L:Net} (h:Like N M) (k:Like M L):Like N L:=⟨h.1.trans k.1,h.2.1.trans k.2.1,h.2.2.trans k.2.2⟩
structure EndB (K:Frag) (H:Hp) (N M:Net) (a q1 q2 D l:Addr) (nm:List (List Nat)) (ns:List Int):Prop where
 hS:SqL K H a (ns.map V.int)
 h1:NetAt H q1 N
 h2:NetAt H q2 M
 nb:NetB N
 mb:NetB M
 al:Alike N M
 own:H D=some (.lst ((N.2.1.map (·.1)).map tx))
 nms:H l=some (.lst (nm.map tx))
 few:nm.length<=5
 sub:∀ n ∈ nm,n ∈ N.2.1.map (·.1)
theorem nh {n:List Nat} (h:Low n):∀ c ∈ n,c < 16 ^ 8:=fun c hc=>Nat.lt_of_le_of_lt (h c hc).2 (by decide)
theorem EndB.small {H:Hp} {N M:Net} {a q1 q2 D l:Addr} {nm:List (List Nat)} {ns:List Int} (h:EndB K H N M a q1 q2 D l nm ns):∀ n ∈ nm,(∀ c ∈ n,c < 16 ^ 8)/\n.length<=1000:=fun n hn=>by
 obtain ⟨x,hx,rfl⟩:=List.mem_map.mp (h.sub n hn);obtain ⟨a1,a2,a3⟩:=h.nb.low x hx;exact ⟨nh a1,by omega⟩
theorem kg:∀ n ∈ strgs,(∀ c ∈ n,c < 16 ^ 8)/\n.length<=1000:=by decide
theorem EndB.same {H H':Hp} {N M:Net} {a q1 q2 D l:Addr} {nm:List (List Nat)} {ns:List Int} (h:EndB K H N M a q1 q2 D l nm ns) (s:Same H H'):EndB K H' N M a q1 q2 D l nm ns:=⟨s.seq h.hS,h.h1.same s,h.h2.same s,h.nb,h.mb,h.al,s _ _ h.own,s _ _ h.nms,h.few,h.sub⟩
theorem j3 {H:Hp} {neg x y:Bool} {t p:Addr} {Q:VK} (h1:H t=some (.tup [.bl x,.bl y])) (h2:H p=some (.tup [.bl x,.bl y])) (q:Q (.bl (neg ^^ true)) H):kEqD K neg (.ref t) (.ref p) H Q:=by
 refine ⟨1,.t [.f (.bl x),.f (.bl y)],.t [.f (.bl x),.f (.bl y)],by decide,.inr (.inr ⟨t,_,_,rfl,rfl,SqT.of h1,.cons ⟨rfl,rfl⟩ (.cons ⟨rfl,rfl⟩ .nil)⟩),.inr (.inr ⟨p,_,_,rfl,rfl,SqT.of h2,.cons ⟨rfl,rfl⟩ (.cons ⟨rfl,rfl⟩ .nil)⟩),?_⟩;rw [show eqD (.t [.f (.bl x),.f (.bl y)]) (.t [.f (.bl x),.f (.bl y)])=true by simp [eqD,eqDs,eqV]];exact q
noncomputable def mEnd (K:Frag):TS:=fun E σ H=>∀ C:TS,(∀ (N M:Net) (a q1 q2 D l:Addr) (nm:List (List Nat)) (ns:List Int) (u3 u5 u7 u8 u9:Option V),EndB K H N M a q1 q2 D l nm ns ->
  (∀ H',E.rt (.bl true) H')->C E [some (.ref a),some (.ref q1),some (.ref q2),u3,some (.ref D),u5,some (.ref l),u7,u8,u9,none,none] H)->C E σ H
theorem qB (T:Top K mg) {f:Addr} {cdv:Value} {A:Around} {outer:List Env} {s:Shared} {H₀:Hp} {E:XK} (hr:Room 6 (A.deeper (PyProof.Rows.envOfC "law" (defScope cf) s.heap.objs.size f cdv))):
  PSs (cxOf CX0 P w K mg base ["_law_script", "_law_one", "_law_other", "_law_pads", "_law_own", "_law_turn", "_law_names_here", "_law_handed", "_law_due_here", "_law_found", "_law_strange", "_law_far"] "law" (defScope cf) f cdv A outer s H₀ E).nox ((defBody cf).drop 14) (mEnd K):=by
 refine cm (af (ar (i:=10) cr.nd rfl lc (ai ah (qv 6) (aI (aa (av (bQ T) hr.m rfl (aa (qv 4) ad)) ad))))
   (af (ar (i:=11) cr.nd rfl lc (av (iV T) hr.m rfl (aa (qv 0) (aa (qv 1) ad))))
   (af (b9 (PW.pt (me (aV (neDE K rfl hr) (av (cJ T) hr.m rfl (aa (qv 1) (aa (qv 2) (aa (qv 10) ad)))) (aq (aa eU (aa eU ad)))) (j9 (aV (neDE K rfl hr) (av (cJ T) hr.m rfl (aa (qv 11) (aa (qv 2) (aa (qv 10) ad)))) (aq (aa eU (aa eU ad))))))) (ak (aF eU)) aZ)
   (ak (aF (oB (eqDE K rfl hr) (av (cJ T) hr.m rfl (aa (qv 1) (aa (qv 11) (aa (qv 6) ad)))) (aq (aa eU (aa eU ad))))))))) fun E1 σ H h0=>h0 _ fun N M a q1 q2 D l nm ns u3 u5 u7 u8 u9 eb q=>?_
 have lk:=iq eb.al;walk_at "rd";refine ⟨_,eb.own,by rw [List.length_map]; exact Nat.le_trans eb.nb.h4 (by decide),fun n H1 s1 hn hn2=>⟨by decide,fun p1 hp1=>?_⟩⟩;have s2:=s1.trans (ae hp1 (.lst [tx n]));refine ⟨nm.map tx,[tx n],s2 _ _ eb.nms,upd_same,Nat.le_of_lt (sizeBig (by have:=eb.few; simp only [List.length_map,List.length_cons,List.length_nil]; omega)),fun p2 hp2=>?_⟩;have s3:=s2.trans (ae hp2 (.lst (nm.map tx++[tx n])));have e3:upd (upd H1 p1 (.lst [tx n])) p2 (.lst (nm.map tx++[tx n])) p2=some (.lst ((nm++[n]).map tx)):=by rw [upd_same,List.map_append]; rfl
 generalize upd (upd H1 p1 (.lst [tx n])) p2 (.lst (nm.map tx++[tx n]))=H3 at s3 e3;have eb3:=eb.same s3;have sm:∀ m ∈ nm++[n],(∀ c ∈ m,c < 16 ^ 8)/\m.length<=1000:=fun m hm=>by
  rcases List.mem_append.mp hm with hm | hm
  ·exact eb.small m hm
  ·rw [List.mem_singleton.mp hm]; exact kg n hn2
 have fw:(nm++[n]).length<=100:=by have:=eb.few; rw [List.length_append]; exact Nat.add_le_add (Nat.le_trans this (by decide:5<=99)) (Nat.le_refl 1)
 refine ⟨ns,N,eb3.hS,eb3.h1,eb.nb,?_⟩;rintro v4 H4 s4 ⟨t4,F,rfl,hF,lF,nF⟩;have eb4:=eb3.same s4;have nF2:¬ Like F M:=fun z=>nF (kX lk (og z))
 refine ⟨N,M,nm++[n],eb4.h1,eb4.h2,eb.nb.l,eb.mb.l,fun _=>⟨eb.nb,eb.mb,n,List.mem_append_right _ List.mem_cons_self,hn⟩,s4 _ _ e3,fw,sm,fun t5 H5 s5 k5 _=>⟨by decide,fun p5 hp5=>?_⟩⟩;have s6:=ae hp5 (.tup [.bl false,.bl true]);refine j3 (s6 _ _ (k5 lk)) upd_same ?_;have s56:=s5.trans s6;generalize upd H5 p5 (.tup [.bl false,.bl true])=H6 at s56;clear s6;walk_at "rd";refine ⟨F,M,nm++[n],hF.same s56,eb4.h2.same s56,lF,eb.mb.l,fun z=>absurd z nF2,s56 _ _ (s4 _ _ e3),fw,sm,fun t7 H7 s7 _ k7=>⟨by decide,fun p7 hp7=>?_⟩⟩;have s8:=ae hp7 (.tup [.bl true,.bl false]);refine j3 (s8 _ _ (k7 nF2)) upd_same ?_;have s78:=(s56.trans s7).trans s8;generalize upd H7 p7 (.tup [.bl true,.bl false])=H8 at s78;clear s8;walk_at "rd";refine ⟨N,F,nm,eb4.h1.same s78,hF.same s78,eb.nb.l,lF,fun z=>absurd z nF,(eb4.same s78).nms,Nat.le_trans eb.few (by decide),eb.small,fun t9 H9 s9 _ k9=>⟨by decide,fun p9 hp9=>?_⟩⟩;exact j3 (ae hp9 _ _ _ (k9 nF)) upd_same (q _)
theorem jQ {H:Hp}:∀ (n:Nat) (v:V) (d:D),Deep K H n v d->Deep K H (n+1) v d
 | 0,_,_,h=>.inl h
 | n+1,v,d,h=>by
  rcases h with h | ⟨a,vs,ds,e1,e2,h,p⟩ | ⟨a,vs,ds,e1,e2,h,p⟩
  ·exact .inl h
  ·exact .inr (.inl ⟨a,vs,ds,e1,e2,h,L2.Paired.mapP p fun _ _ z=>jQ n _ _ z⟩)
  ·exact .inr (.inr ⟨a,vs,ds,e1,e2,h,L2.Paired.mapP p fun _ _ z=>jQ n _ _ z⟩)
theorem l7 {H:Hp} {n m:Nat} (h:n<=m) {v:V} {d:D} (k:Deep K H n v d):Deep K H m v d:=by
 induction h with
 | refl=>exact k
 | step _ ih=>exact jQ _ _ _ ih
theorem fv {α:Type} {f:α -> D} {H:Hp} {n:Nat} {p:Addr} {xs:List α} {vs:List V} (e:H p=some (.lst vs)) (h:Paired (fun x v=>Deep K H n v (f x)) xs vs):Deep K H (n+1) (.ref p) (.l (xs.map f)):=by
 refine .inr (.inl ⟨p,vs,_,rfl,rfl,SqL.of e,?_⟩);clear e
 induction h with
 | nil=>exact .nil
 | cons r _ ih=>exact .cons r ih
noncomputable def gateD (g:Gate):D:=.t [.f (tx g.1),.l (g.2.map ruleD)]
noncomputable def houseD (h:House):D:=.t [.l (h.1.map gateD),.l (h.2.map wayD)]
noncomputable def namedD (x:Named):D:=.t [.f (tx x.1),houseD x.2]
noncomputable def netD (N:Net):D:=.t [layD N.1,.l (N.2.1.map namedD),linesD N.2.2]
theorem kZ {H:Hp} {x:Rule} {v:V} (h:RuleAt H x v):Deep K H 1 v (ruleD x):=by
 obtain ⟨t,rfl,q⟩:=h;exact .inr (.inr ⟨t,_,_,rfl,rfl,SqT.of q,.cons (bE 0 rfl) (.cons (bE 0 rfl) (.cons (bE 0 rfl) .nil))⟩)
theorem lD {H:Hp} {x:Gate} {v:V} (h:GateAt H x v):Deep K H 3 v (gateD x):=by
 obtain ⟨t,r,rfl,q,⟨vs,e,p⟩⟩:=h;exact .inr (.inr ⟨t,_,_,rfl,rfl,SqT.of q,.cons (bE 2 rfl) (.cons (fv e (L2.Paired.mapP p fun _ _ z=>kZ z)) .nil)⟩)
theorem kq {H:Hp} {x:Named} {v:V} (h:NamedAt H x v):Deep K H 6 v (namedD x):=by
 obtain ⟨t,q,rfl,e,⟨g,w,e1,⟨gv,eg,pg⟩,⟨wv,ew,pw⟩⟩⟩:=h;exact .inr (.inr ⟨t,_,_,rfl,rfl,SqT.of e,.cons (bE 5 rfl) (.cons (.inr (.inr ⟨q,_,_,rfl,rfl,SqT.of e1,.cons (fv eg (L2.Paired.mapP pg fun _ _ z=>lD z)) (.cons (fv ew (L2.Paired.mapP pw fun _ _ z=>gZ 2 z)) .nil)⟩)) .nil)⟩)
theorem cW {H:Hp} {q:Addr} {N:Net} (h:NetAt H q N):Deep K H 8 (.ref q) (netD N):=by
 obtain ⟨a,b,c,e,hl,⟨hv,eh,ph⟩,hc⟩:=h;exact .inr (.inr ⟨q,_,_,rfl,rfl,SqT.of e,.cons (l7 (by decide) (gU hl)) (.cons (fv eh (L2.Paired.mapP ph fun _ _ z=>kq z)) (.cons (l7 (by decide) (fj hc)) .nil))⟩)
theorem sY (l:List Fld):gdD (layD l)=true:=by
 unfold layD;rw [gdD];exact b5 _ fun x _=>by simp [fldD,gdD,gdDs,tx]
theorem qK (x:Rule):gdD (ruleD x)=true:=by simp [ruleD,gdD,gdDs,tx]
theorem oU (x:Way):gdD (wayD x)=true:=by simp [wayD,gdD,gdDs,tx]
theorem lL (N:Net):gdD (netD N)=true:=by
 have h1:gdD (linesD N.2.2)=true:=by
  unfold linesD;rw [gdD];exact b5 _ fun x _=>by simp [lineD,gdD,gdDs,oU]
 have h2:gdDs (N.2.1.map namedD)=true:=b5 _ fun x _=>by
  have a1:gdDs (x.2.1.map gateD)=true:=b5 _ fun g _=>by
   have:=b5 (f:=ruleD) g.2 fun r _=>qK r
   simp [gateD,gdD,gdDs,tx,this]
  have a2:gdDs (x.2.2.map wayD)=true:=b5 _ fun w _=>oU w
  simp [namedD,houseD,gdD,gdDs,tx,a1,a2]
 simp [netD,gdD,gdDs,sY,h1,h2]
theorem kJ (N:Net):eqD (netD N) (netD N)=true:=(fz _ _ (lL N) (lL N)).mpr rfl
theorem sr {H:Hp} {neg:Bool} {N:Net} {p q:Addr} {Q:VK} (h1:NetAt H p N) (h2:NetAt H q N) (k:Q (.bl (neg ^^ true)) H):kEqD K neg (.ref p) (.ref q) H Q:=by
 refine ⟨8,_,_,by decide,cW h1,cW h2,?_⟩;rw [kJ];exact k
noncomputable def handD (N M:Net) (nm:List (List Nat)):D:=.l [netD N,netD M,.l (nm.map fun d=>.f (tx d))]
theorem jq {H:Hp} {N M:Net} {nm:List (List Nat)} {p a1 a2 a3:Addr} (hp:H p=some (.lst [.ref a1,.ref a2,.ref a3])) (h1:NetAt H a1 N) (h2:NetAt H a2 M) (h3:H a3=some (.lst (nm.map tx))):Deep K H 9 (.ref p) (handD N M nm):=.inr (.inl ⟨p,_,_,rfl,rfl,SqL.of hp,.cons (cW h1) (.cons (cW h2) (.cons (hJ 7 h3) .nil))⟩)
theorem nB (N M:Net) (nm:List (List Nat)):eqD (handD N M nm) (handD N M nm)=true:=by
 have h4:gdDs (nm.map fun d=>.f (tx d))=true:=b5 _ fun x _=>by simp [gdD,tx]
 have h5:gdD (handD N M nm)=true:=by simp [handD,gdD,gdDs,lL,h4]
 exact (fz _ _ h5 h5).mpr rfl
theorem kD {H:Hp} {t:Addr} {xs:List V} {i:Int} {v:V} {Q:VK} (e:H t=some (.tup xs)) (h:atI xs i=some v) (q:Q v H):kIx K (.ref t) (.int i) H Q:=⟨xs,v,.inr (SqT.of e),h,q⟩
theorem mj {H:Hp} {t:Addr} {xs:List V} {i:Int} {v:V} {Q:VK} (e:H t=some (.lst xs)) (h:atI xs i=some v) (q:Q v H):kIx K (.ref t) (.int i) H Q:=⟨xs,v,.inl (SqL.of e),h,q⟩
theorem pS {H:Hp} {r t:Addr} {xs ys ts:List V} (h:H r=some (.lst xs)) (e:H t=some (.tup ts)):upd H r (.lst ys) t=some (.tup ts):=by
 rw [au (fun z=>by rw [z,h] at e; cases e)];exact e
theorem pY {H:Hp} {r t:Addr} {xs ys:List V} {n:Nat} (e:H t=some (.lst xs)) (hx:xs.length<=n) (hy:ys.length<=n):∃ zs,upd H r (.lst ys) t=some (.lst zs)/\zs.length<=n:=by
 by_cases z:t=r
 ·rw [z]; exact ⟨_,upd_same,hy⟩
 ·rw [au z]; exact ⟨_,e,hx⟩
theorem jM {G H:Hp} {r p:Addr} {o:HO} {xs:List V} {n:Nat} (sG:Same G H) (hp:H p=none) (er:H r=some (.lst xs)) (gr:G r=none) (hx:xs.length<=n):∃ H',H'=upd (upd H p o) r (.lst (xs++[.ref p]))/\Same G H'/\upd H p o r=some (.lst xs)/\(∀ t ts,H t=some (.tup ts)->H' t=some (.tup ts))/\(∀ t ts,t≠r->H t=some (.lst ts)->H' t=some (.lst ts))/\∀ t ts,H t=some (.lst ts)->ts.length<=n->∃ zs,H' t=some (.lst zs)/\zs.length<=n+1:=by
 have s1:=ae hp o;refine ⟨_,rfl,aL (sG.trans s1) gr,s1 _ _ er,fun t ts e=>pS (s1 _ _ er) (s1 _ _ e),fun t ts k e=>?_,fun t ts e k=>pY (s1 _ _ e) (Nat.le_succ_of_le k) (by rw [List.length_append]; exact Nat.add_le_add_right hx 1)⟩;rw [au k];exact s1 _ _ e
structure MidB (K:Frag) (H:Hp) (N M:Net) (a q1 q2 D l:Addr) (nm:List (List Nat)) (ns:List Int) (hd c1 c2 l2 dq:Addr):Prop where
 eb:EndB K H N M a q1 q2 D l nm ns
 at_:H hd=some (.lst [.ref c1,.ref c2,.ref l2])
 k1:NetAt H c1 N
 k2:NetAt H c2 M
 k3:H l2=some (.lst (nm.map tx))
 due:NetAt H dq (mixN N M nm)
theorem MidB.same {H H':Hp} {N M:Net} {a q1 q2 D l:Addr} {nm:List (List Nat)} {ns:List Int} {hd c1 c2 l2 dq:Addr} (h:MidB K H N M a q1 q2 D l nm ns hd c1 c2 l2 dq) (s:Same H H'):MidB K H' N M a q1 q2 D l nm ns hd c1 c2 l2 dq:=⟨h.eb.same s,s _ _ h.at_,h.k1.same s,h.k2.same s,s _ _ h.k3,h.due.same s⟩
noncomputable def mMid (K:Frag):TS:=fun E σ H=>∀ C:TS,(∀ (N M:Net) (a q1 q2 D l:Addr) (nm:List (List Nat)) (ns:List Int) (hd c1 c2 l2 dq:Addr) (u3 u5 u9:Option V),MidB K H N M a q1 q2 D l nm ns hd c1 c2 l2 dq ->
  (∀ H',E.rt (.bl true) H')->C E [some (.ref a),some (.ref q1),some (.ref q2),u3,some (.ref D),u5,some (.ref l),some (.ref hd),some (.ref dq),u9,none,none] H)->C E σ H
theorem qw (T:Top K mg) {f:Addr} {cdv:Value} {A:Around} {outer:List Env} {s:Shared} {H₀:Hp} {E:XK} (hr:Room 6 (A.deeper (PyProof.Rows.envOfC "law" (defScope cf) s.heap.objs.size f cdv))):
  PSs (cxOf CX0 P w K mg base ["_law_script", "_law_one", "_law_other", "_law_pads", "_law_own", "_law_turn", "_law_names_here", "_law_handed", "_law_due_here", "_law_found", "_law_strange", "_law_far"] "law" (defScope cf) f cdv A outer s H₀ E).nox ((defBody cf).drop 13) (mMid K):=by
 refine cm (af (b9 (PW.pt (me (aV (neDE K rfl hr) (qv 7) (aI (aa (qv 1) (aa (qv 2) (aa (qv 6) ad))))) (j9 (aV (neDE K rfl hr) (av (eF T).calm hr.m rfl (aa (aj (ixE K rfl) (qv 7) ac (fun _ _=>rfl)) (aa (aj (ixE K rfl) (qv 7) ac (fun _ _=>rfl)) (aa (aj (ixE K rfl) (qv 7) ac (fun _ _=>rfl)) ad)))) (qv 8))))) (ak (aF eU)) aZ)
   (qB T hr)) fun E1 σ H h0=>h0 _ fun N M a q1 q2 D l nm ns hd c1 c2 l2 dq u3 u5 u9 mb q=>?_
 have lk:=iq mb.eb.al;walk_at "rd";refine ⟨by decide,fun p hp=>?_⟩;have s1:=ae hp (.lst [.ref q1,.ref q2,.ref l]);have e1:=upd_same (H:=H) (a:=p) (o:=.lst [.ref q1,.ref q2,.ref l]);generalize upd H p (.lst [.ref q1,.ref q2,.ref l])=H1 at s1 e1;have m1:=mb.same s1;refine ⟨9,_,_,by decide,jq m1.at_ m1.k1 m1.k2 m1.k3,jq e1 m1.eb.h1 m1.eb.h2 m1.eb.nms,?_⟩;rw [if_neg (by rw [nB]; decide)];refine ⟨_,_,.inl (SqL.of m1.at_),rfl,_,_,.inl (SqL.of m1.at_),rfl,_,_,.inl (SqL.of m1.at_),rfl,?_⟩;refine ⟨N,M,nm,m1.k1,m1.k2,mb.eb.nb.l,mb.eb.mb.l,fun _=>⟨mb.eb.nb,mb.eb.mb⟩,m1.k3,Nat.le_trans mb.eb.few (by decide),mb.eb.small,fun _ _ q' a' b' c' H' _ s2 hC=>?_,fun _ ⟨n,hn,k⟩=>absurd (mb.eb.sub n hn) k,fun k=>absurd lk k⟩;refine sr hC.at (m1.due.same s2) ?_;walk_at "rd";exact fun C hC2=>hC2 N M a q1 q2 D l nm ns u3 u5 _ _ _ (m1.eb.same s2) q
noncomputable def mFnd (K:Frag):TS:=fun E σ H=>∀ C:TS,(∀ (G:Hp) (N M:Net) (a q1 q2 D l:Addr) (nm:List (List Nat)) (ns:List Int) (hd c1 c2 l2 dq fq fa fb fc:Addr) (u3 u5:Option V),MidB K G N M a q1 q2 D l nm ns hd c1 c2 l2 dq->Same G H->NetC (fun r=>G r=none) H fq fa fb fc (mixN N M nm) ->
  (∀ H',E.rt (.bl true) H')->C E [some (.ref a),some (.ref q1),some (.ref q2),u3,some (.ref D),u5,some (.ref l),some (.ref hd),some (.ref dq),some (.ref fq),none,none] H)->C E σ H
theorem rW (T:Top K mg) {f:Addr} {cdv:Value} {A:Around} {outer:List Env} {s:Shared} {H₀:Hp} {E:XK} (hr:Room 6 (A.deeper (PyProof.Rows.envOfC "law" (defScope cf) s.heap.objs.size f cdv))):
  PSs (cxOf CX0 P w K mg base ["_law_script", "_law_one", "_law_other", "_law_pads", "_law_own", "_law_turn", "_law_names_here", "_law_handed", "_law_due_here", "_law_found", "_law_strange", "_law_far"] "law" (defScope cf) f cdv A outer s H₀ E).nox ((defBody cf).drop 8) (mFnd K):=by
 refine cm (af (b9 (PW.pt (me (pe (iG (mt .tuple rfl T.bS (qv 9) rfl T.mq om))) (j9 (aV (neDE K rfl hr) (qv 9) (qv 8))))) (ak (aF eU)) aZ)
   (af (aO (aD (aj (ixE K rfl) (aj (ixE K rfl) (aj (ixE K rfl) (aj (ixE K rfl) (aj (ixE K rfl) (aj (ixE K rfl) (qv 9) ac (fun _ _=>rfl)) (iC ac) (fun _ _=>rfl)) ac (fun _ _=>rfl)) ac (fun _ _=>rfl)) ac (fun _ _=>rfl)) ac (fun _ _=>rfl)) (aq (aa (qs []) (aa (qs [100,114,111,112]) (aa (qs []) ad))))))
   (af (aO (aD (aj (ixE K rfl) (aj (ixE K rfl) (aj (ixE K rfl) (aj (ixE K rfl) (qv 9) ac (fun _ _=>rfl)) ac (fun _ _=>rfl)) ac (fun _ _=>rfl)) ac (fun _ _=>rfl)) (aq (aa (qs []) (aa (qs [120]) ad)))))
   (af (aO (aD (aj (ixE K rfl) (qv 9) ac (fun _ _=>rfl)) (aq (aa (qs [120]) (aa ac ad)))))
   (af (aO (oi (aj (ixE K rfl) (qv 9) ac (fun _ _=>rfl))))
   (qw T hr)))))) fun E1 σ H h0=>h0 _ fun G N M a q1 q2 D l nm ns hd c1 c2 l2 dq fq fa fb fc u3 u5 mb sG hC q=>?_
 have lk:=iq mb.eb.al;have nbm:=q5 lk mb.eb.nb mb.eb.mb nm;obtain ⟨hv,eh,ph⟩:=hC.houses;obtain ⟨lv,el,plv⟩:=hC.lay;obtain ⟨cv,ec,pcv⟩:=hC.lines;have nlv:=plv.length;have ncv:=pcv.length;clear plv pcv;have due:=mb.due.same sG;have nd:=cW (K:=K) hC.at;generalize hm:mixN N M nm=X at *;have hne:X.2.1≠[]:=fun e=>by
  have:=nbm.h1;rw [e] at this;cases this
 obtain ⟨pre,x,eN⟩:∃ pre x,X.2.1=pre++[x]:=⟨_,_,(List.dropLast_concat_getLast hne).symm⟩;obtain ⟨y,l3,eN2⟩:=List.exists_cons_of_ne_nil hne;have hx:=nbm.house x (by rw [eN]; exact List.mem_append_right _ List.mem_cons_self);have ph2:=ph;rw [eN] at ph;rw [eN2] at ph2;obtain ⟨us,v,ev,pp,⟨t1,q3,g1,w1,rfl,e1,hN1,_⟩⟩:=eM ph;obtain ⟨gv,eg,pg⟩:=hN1.gates;walk_at "rd";refine .inr ⟨⟨_,hC.tup⟩,8,_,_,by decide,nd,cW due,?_⟩;rw [if_neg (by rw [kJ]; decide)];refine ⟨_,V.ref fb,.inr (SqT.of hC.tup),rfl,?_⟩;cases hg:x.2.1 with
 | nil=>
  have:=hx.g1;rw [hg] at this;cases this
 | cons g0 gs0=>
 rw [hg] at pg;cases pg with
 | cons r0 pg1=>
 obtain ⟨t2,r,rfl,n2,h2,⟨rv,er,pr⟩⟩:=r0;cases ph2 with
 | @cons _ _ _ vs1 r1 pv=>
 obtain ⟨t3,q4,g4,w4,rfl,e4,hN4,_,nw4,fw4⟩:=r1;obtain ⟨wv,ew,pwv⟩:=hN4.ways;have nwv:=pwv.length;have eh2:=eh;rw [ev] at eh2;refine mj eh2 (kE _ _) (kD e1 rfl (kD hN1.tup rfl (mj eg (bw (j:=0) rfl) (kD h2 rfl ?_))));have lr:=pr.length;have l3:=hx.rl g0 (by rw [hg]; exact List.mem_cons_self);have lw:=(nbm.house y (by rw [eN2]; exact List.mem_cons_self)).w5;refine ⟨⟨_,er⟩,by decide,fun p hp=>?_⟩;obtain ⟨Ha,ea,ga,ra,ta,la,fa1⟩:=jM (o:=.tup [.str (st []),.str (st [100,114,111,112]),.str (st [])]) (n:=10) sG hp er n2.2.2.2 (by omega);refine ⟨_,ra,sizeBig (by omega),?_⟩;rw [<- ea];obtain ⟨z1,ez1,lz1⟩:=fa1 w4 wv ew (by omega);obtain ⟨z2,ez2,lz2⟩:=fa1 fa lv el (by have:=nbm.lay.few; omega);obtain ⟨z3,ez3,lz3⟩:=fa1 fc cv ec (by have:=nbm.l6; omega);refine ⟨_,V.ref fb,.inr (SqT.of (ta _ _ hC.tup)),rfl,mj (la _ _ n2.2.2.1.symm eh) (bw (j:=0) rfl) (kD (ta _ _ e4) rfl (kD (ta _ _ hN4.tup) rfl ⟨⟨_,ez1⟩,by decide,fun p2 hp2=>?_⟩))⟩;obtain ⟨Hb,eb,gb,rb,tb,lb,fb1⟩:=jM (o:=.tup [.str (st []),.str (st [120])]) (n:=11) ga hp2 ez1 fw4 (by omega);refine ⟨_,rb,sizeBig (by omega),?_⟩;rw [<- eb];obtain ⟨z4,ez4,lz4⟩:=fb1 fa z2 ez2 lz2;obtain ⟨z5,ez5,lz5⟩:=fb1 fc z3 ez3 lz3;refine ⟨_,V.ref fa,.inr (SqT.of (tb _ _ (ta _ _ hC.tup))),rfl,⟨_,ez4⟩,by decide,fun p3 hp3=>?_⟩;obtain ⟨Hc,ec1,gc,rc,tc,lc,fc1⟩:=jM (o:=.tup [.str (st [120]),.int 1]) (n:=12) gb hp3 ez4 hC.fa lz4;refine ⟨_,rc,sizeBig (by omega),?_⟩;rw [<- ec1];obtain ⟨z6,ez6,lz6⟩:=fc1 fc z5 ez5 lz5;refine ⟨_,V.ref fc,.inr (SqT.of (tc _ _ (tb _ _ (ta _ _ hC.tup)))),rfl,⟨_,ez6⟩,?_⟩;exact fun C hC2=>hC2 N M a q1 q2 D l nm ns hd c1 c2 l2 dq u3 u5 _ (mb.same (aL gc hC.fc)) q
noncomputable def mBeg (K:Frag):TS:=fun E σ H=>∀ C:TS,(∀ (N M:Net) (a q1 q2 D l:Addr) (nm:List (List Nat)) (ns:List Int) (u3 u5 u8:Option V),EndB K H N M a q1 q2 D l nm ns ->
  (∀ H',E.rt (.bl true) H')->C E [some (.ref a),some (.ref q1),some (.ref q2),u3,some (.ref D),u5,some (.ref l),none,none,none,none,none] H)->C E σ H
theorem sN (T:Top K mg) {f:Addr} {cdv:Value} {A:Around} {outer:List Env} {s:Shared} {H₀:Hp} {E:XK} (hr:Room 6 (A.deeper (PyProof.Rows.envOfC "law" (defScope cf) s.heap.objs.size f cdv))):
  PSs (cxOf CX0 P w K mg base ["_law_script", "_law_one", "_law_other", "_law_pads", "_law_own", "_law_turn", "_law_names_here", "_law_handed", "_law_due_here", "_law_found", "_law_strange", "_law_far"] "law" (defScope cf) f cdv A outer s H₀ E).nox ((defBody cf).drop 5) (mBeg K):=by
 refine cm (af (ar (i:=7) cr.nd rfl lc (aI (aa (av (fe T) hr.m rfl (aa (qv 1) ad)) (aa (av (fe T) hr.m rfl (aa (qv 2) ad)) (aa (bH (bB K rfl rfl) rfl T.cD ck (aa (qv 6) ad)) ad)))))
   (af (ar (i:=8) cr.nd rfl lc (av (kA T) hr.m rfl (aa (qv 1) (aa (qv 2) (aa (qv 6) ad)))))
   (af (ar (i:=9) cr.nd rfl lc (av (eF T).calm hr.m rfl (aa (aj (ixE K rfl) (qv 7) ac (fun _ _=>rfl)) (aa (aj (ixE K rfl) (qv 7) ac (fun _ _=>rfl)) (aa (aj (ixE K rfl) (qv 7) ac (fun _ _=>rfl)) ad)))))
   (rW T hr)))) fun E1 σ H h0=>h0 _ fun N M a q1 q2 D l nm ns u3 u5 u8 eb q=>?_
 have lk:=iq eb.al;walk_at "rd";refine ⟨N,eb.h1,eb.nb,fun c1 H1 s1 k1=>⟨M,eb.h2.same s1,eb.mb,fun c2 H2 s2 k2=>?_⟩⟩;have s12:=s1.trans s2;have eb2:=eb.same s12;refine ⟨_,.inl (SqL.of eb2.nms),fun l2 hl2=>⟨by decide,fun hd hhd=>?_⟩⟩;have s3:=ae hl2 (.lst (nm.map tx));have s4:=ae hhd (.lst [.ref c1,.ref c2,.ref l2]);have s34:=s3.trans s4;have e3:=s4 _ _ (upd_same (H:=H2) (a:=l2) (o:=.lst (nm.map tx)));have e4:=upd_same (H:=upd H2 l2 (.lst (nm.map tx))) (a:=hd) (o:=.lst [.ref c1,.ref c2,.ref l2]);generalize upd (upd H2 l2 (.lst (nm.map tx))) hd (.lst [.ref c1,.ref c2,.ref l2])=H4 at s34 e3 e4;clear s3 s4;have eb4:=eb2.same s34;refine ⟨N,M,nm,eb4.h1,eb4.h2,eb.nb,eb.mb,lk,eb4.nms,fun dq H5 s5 hdq=>?_⟩;have mb:MidB K H5 N M a q1 q2 D l nm ns hd c1 c2 l2 dq:=⟨eb4.same s5,s5 _ _ e4,k1.same (s2.trans (s34.trans s5)),k2.same (s34.trans s5),s5 _ _ e3,hdq⟩;refine ⟨_,_,.inl (SqL.of mb.at_),rfl,_,_,.inl (SqL.of mb.at_),rfl,_,_,.inl (SqL.of mb.at_),rfl,?_⟩;refine ⟨N,M,nm,mb.k1,mb.k2,eb.nb.l,eb.mb.l,fun _=>⟨eb.nb,eb.mb⟩,mb.k3,Nat.le_trans eb.few (by decide),eb.small,fun _ _ fq fa fb fc H6 _ s6 hC=>?_,fun _ ⟨n,hn,k⟩=>absurd (eb.sub n hn) k,fun k=>absurd lk k⟩;exact fun C hC2=>hC2 H5 N M a q1 q2 D l nm ns hd c1 c2 l2 dq fq fa fb fc u3 u5 mb s6 hC q
theorem jB {g:TG} {tc:TT} {te:TE} {σc:St} {D:Addr} {Q:VK} {H:Hp} {n:Nat} (P:List Nat->Prop) (hfree:H D=none) (hn:n<=1000)
  (hs:∀ i H1 (out:VK) (non:Hp->Prop),i < n->Same H H1->(∀ m H6,Same H1 H6->P m->out (tx m) H6)->(∀ H5,Same H1 H5->non H5) ->
   g (.int (0+i)) σc H1 fun σ4 H4=>tc σ4 H4 fun b H5=>if b=true then te σ4 H5 out else non H5)
  (hq:∀ (H':Hp) (nm:List (List Nat)),Same H H'->H' D=some (.lst (nm.map tx))->(∀ m ∈ nm,P m)->nm.length<=n->Q (.ref D) H'):compW (Itr 0 n) g tc te σc D Q H:=by
 refine ⟨fun i m acc H2=>m=n - i/\i<=n/\(∃ nm:List (List Nat),acc=nm.map tx/\(∀ x ∈ nm,P x)/\nm.length<=i)/\Same H H2/\H2 D=some (.lst acc),⟨n,by simp,Nat.zero_le _,⟨[],rfl,(fun _ h=>absurd h List.not_mem_nil),Nat.le_refl _⟩,ae hfree _,upd_same⟩,?_⟩;rintro i m acc H2 ⟨rfl,hi,⟨nm,rfl,hP,hl⟩,sm,hD⟩;by_cases hlt:i < n
 ·refine .inr ⟨hlt,fun x H3 y=>?_⟩;obtain ⟨rfl,rfl⟩:=y;refine hs i _ _ _ hlt sm (fun v H6 s6 r=>?_) fun H5 s5=>?_
  ·refine ⟨s6 _ _ hD,sizeBig (by rw [List.length_map]; omega),n - (i+1),by omega,rfl,hlt,⟨nm++[v],by rw [List.map_append]; rfl,fun x hx=>?_,by rw [List.length_append]; exact Nat.add_le_add_right hl 1⟩,aL (sm.trans s6) hfree,upd_same⟩;rcases List.mem_append.mp hx with hx | hx
   ·exact hP x hx
   ·rw [List.mem_singleton.mp hx]; exact r
  ·exact ⟨n - (i+1),by omega,rfl,hlt,⟨nm,rfl,hP,by omega⟩,sm.trans s5,s5 _ _ hD⟩
 ·have e:i=n:=by omega
  subst e;exact .inl ⟨Nat.le_refl _,hq H2 nm sm hD hP hl⟩
noncomputable def hG (K:Frag):Sp:=aC fun a=>bd fun H Q _=>∃ ns:List Int,SqL K H a (ns.map V.int)/\ns.length<=63/\∀ H',Q (.bl true) H'
theorem rH (T:Top K mg) {f:Addr} {fd:FuncData} (F:Fun K "law" "law" cf f fd):FnOk P w K mg base CX0 7 f fd ["_law_script"] (hG K):=by
 refine F.ok cr (by unfold hG; exact LenSp.h) (fun cdv A outer s H vs Q E hr h=>?_);unfold hG at h;walk_at "el";refine ⟨_,(af (j8 (av (jl T) hr.m rfl (aa (qv 0) (aa ac (aa ac ad)))) (seqE K rfl rfl (n:=3) (az (ao (i:=1) cr.nd rfl lc) (az (ao (i:=2) cr.nd rfl lc) (az (ao (i:=3) cr.nd rfl lc) bM)))))
   (af (ar (i:=4) cr.nd rfl lc (bn (nt:=1) (fi:=[]) (N':=["_law_pair"]) rfl (cscope rfl (by decide +kernel)) (cnames (N:=["_law_script", "_law_one", "_law_other", "_law_pads", "_law_own", "_law_turn", "_law_names_here", "_law_handed", "_law_due_here", "_law_found", "_law_strange", "_law_far"]) (sc:=defScope cf) rfl rfl (by decide +kernel)) (aS (by decide)) (iterE K rfl (aj (ixE K rfl) (qv 1) ac (fun _ _=>rfl))) (fun _ _ _ _ _=>(ao (i:=0) (by show (["_law_pair"]:List Str).Nodup; decide +kernel) rfl lc)) (fun _ _ _ _ _=>aQ) (fun _ _ _ _ _=>(aj (ixE K rfl) (qv 0) ac (fun _ _=>rfl)))))
   (af (ar (i:=5) cr.nd rfl lc (av (ap T) hr.m rfl (aa (qv 0) (aa ac (aa (aB (lenE K rfl) rfl T.cq bL (aa (qv 4) ad)) ad)))))
   (af (cS (i:=6) (nt:=1) (fi:=[4,5,0]) (N':=["_law_j", "_law_own", "_law_turn", "_law_script"]) cr.nd rfl lc rfl (cscope rfl (by decide +kernel)) (cnames (N:=["_law_script", "_law_one", "_law_other", "_law_pads", "_law_own", "_law_turn", "_law_names_here", "_law_handed", "_law_due_here", "_law_found", "_law_strange", "_law_far"]) (sc:=defScope cf) rfl rfl (by decide +kernel)) (aS (by decide)) (aR rfl T.bD (aB (lenE K rfl) rfl T.cq bL (aa (qv 4) ad))) (fun _ _ _ _ _=>(ao (i:=0) (by show (["_law_j", "_law_own", "_law_turn", "_law_script"]:List Str).Nodup; decide +kernel) rfl lc)) (fun _ _ _ _ _=>(ir (aV gf (av (ap T) hr.m rfl (aa (qv 3) (aa (ai ah ac (qv 0)) (aa ac ad)))) ac))) (fun _ _ _ _ _=>(aj (ixE K rfl) (qv 1) (ai dw (ai ah (qv 2) (qv 0)) (aB (lenE K rfl) rfl T.cq bL (aa (qv 1) ad))) (fun _ _=>rfl))))
   (bV (b9 (aV gf (av (ap T) hr.m rfl (aa (qv 0) (aa ac (aa ac ad)))) ac) (ak (cS (i:=6) (nt:=1) (fi:=[4,0]) (N':=["_law_j", "_law_own", "_law_script"]) cr.nd rfl lc rfl (cscope rfl (by decide +kernel)) (cnames (N:=["_law_script", "_law_one", "_law_other", "_law_pads", "_law_own", "_law_turn", "_law_names_here", "_law_handed", "_law_due_here", "_law_found", "_law_strange", "_law_far"]) (sc:=defScope cf) rfl rfl (by decide +kernel)) (aS (by decide)) (aR rfl T.bD (av (ap T) hr.m rfl (aa (qv 0) (aa ac (aa ac ad))))) (fun _ _ _ _ _=>(ao (i:=0) (by show (["_law_j", "_law_own", "_law_script"]:List Str).Nodup; decide +kernel) rfl lc)) (fun _ _ _ _ _=>aQ) (fun _ _ _ _ _=>(aj (ixE K rfl) (qv 1) (av (ap T) hr.m rfl (aa (qv 2) (aa (ai ah ac (qv 0)) (aa (aB (lenE K rfl) rfl T.cq bL (aa (qv 1) ad)) ad)))) (fun _ _=>rfl))))) aZ)
   (sN T hr)))))),?_⟩
 rename_i a;obtain ⟨ns,hS,_,q⟩:=h;walk_at "rd";refine ⟨ns,hS,by decide,by decide,rfl,fun t q1 q2 v H1 N M s1 et h1 h2 nb mb al=>?_⟩;walk_at "rd";refine ⟨[_,_,_],.inr (SqT.of et),rfl,?_⟩;walk_at "rd";obtain ⟨la,ha,ca,et1,_,⟨hv,eh,ph⟩,_⟩:=id h1;have h4:=nb.h4;have hN1:=nb.h1;refine ⟨_,V.ref ha,.inr (SqT.of et1),rfl,.inl ⟨⟨_,SqL.of eh⟩,fun D hD=>eZ (·.1) eh (L2.Paired.mapP ph fun _ _ ⟨t,q,e,et,_⟩=>⟨t,_,e,et⟩) (Nat.le_trans h4 (by decide)) hD fun H2 s2 eD=>?_⟩⟩;have s12:=s1.trans s2;walk_at "rd";have hlen:((N.2.1.map (·.1)).map tx).length=N.2.1.length:=by rw [List.length_map,List.length_map]
 refine ⟨_,.inl (SqL.of eD),aW (s12.seq hS) (by decide) (by decide) (by omega) (by omega) fun r hr=>⟨_,.inl (SqL.of eD),by omega,by omega,fun D2 hD2=>?_⟩⟩;rw [Int.toNat_natCast];refine jB (fun m=>m ∈ N.2.1.map (·.1)) hD2 (by omega) ?_ ?_
 ·intro i H3 out non hi s3 ho hno;walk_at "rd";refine aW (s3.seq (s12.seq hS)) (by omega) (by omega) (by decide) (by decide) fun r2 hr2=>?_
  walk_at "rd";by_cases g:(r2:Int)=0
  ·rw [if_pos g];obtain ⟨c,hc,ec⟩:=pV (l:=(N.2.1.map (·.1)).map tx) (by omega) (r+i);rw [Int.natCast_add] at ec;obtain ⟨m,hm,rfl⟩:=List.mem_map.mp hc;exact ⟨_,.inl (SqL.of (s3 _ _ eD)),by omega,_,_,.inl (SqL.of (s3 _ _ eD)),ec,ho m _ (Same.refl _) hm⟩
  ·rw [if_neg g];exact hno _ (Same.refl _)
 ·intro H3 nm s3 e3 hP hl;refine ⟨fun σ' H'=>∃ (l:Addr) (nm:List (List Nat)),σ'=[some (.ref a),some (.ref q1),some (.ref q2),some v,some (.ref D),some (.int r),some (.ref l),none,none,none,none,none]/\Same H2 H'/\H' l=some (.lst (nm.map tx))/\(∀ m ∈ nm,m ∈ N.2.1.map (·.1))/\nm.length<=5,aW (s3.seq (s12.seq hS)) (by decide) (by decide) (by decide) (by decide) fun r2 hr2=>?_,?_⟩
  ·walk_at "rd";by_cases g:(r2:Int)=0
   ·rw [if_pos g];refine aW (s3.seq (s12.seq hS)) (by decide) (by decide) (by decide) (by decide) fun r3 hr3=>⟨by omega,by omega,fun D3 hD3=>?_⟩
    rw [Int.toNat_natCast];refine jB (fun m=>m ∈ N.2.1.map (·.1)) hD3 (by omega) ?_ ?_
    ·intro i H4 out non hi s4 ho hno;walk_at "rd";have s34:=s3.trans s4;refine ⟨_,.inl (SqL.of (s34 _ _ eD)),aW (s34.seq (s12.seq hS)) (by omega) (by omega) (by omega) (by omega) fun r5 hr5=>?_⟩;obtain ⟨c,hc,ec⟩:=gg (l:=(N.2.1.map (·.1)).map tx) (i:=r5) (by omega);obtain ⟨m,hm,rfl⟩:=List.mem_map.mp hc;exact mj (s34 _ _ eD) ec (ho m _ (Same.refl _) hm)
    ·intro H4 nm4 s4 e4 hP4 hl4;exact ⟨D3,nm4,rfl,s3.trans s4,e4,hP4,by omega⟩
   ·rw [if_neg g];exact ⟨D2,nm,rfl,s3,e3,hP,by omega⟩
  ·rintro σ' H' ⟨l,nm2,rfl,s5,e5,hP5,hl5⟩;exact fun C hC=>hC N M a q1 q2 D l nm2 ns (some v) (some (.int r)) none ⟨s5.seq (s12.seq hS),h1.same (s2.trans s5),h2.same (s2.trans s5),nb,mb,al,s5 _ _ eD,e5,hl5,hP5⟩ q
end
def DefI (K:Frag) (x:Str) (t:Stmt):Prop:=∃ (f:Addr) (od an:Option Addr) (sl:Array (Option Value)) (oc kV dc pm cd ct:Value),nsIn K mainGlobals x=some (some (.ref f))/\K.lookup f=some ⟨oc,od,.func (fnOf x x (defArgs t) (defBody t) (defScope t) .none kV dc pm an cd ct),sl⟩/\codeIn K cd x=true/\keepIn K (.ref f)=true
theorem DefI.of {K:Frag} {x:Str} {t:Stmt} {f:Addr} {od an:Option Addr} {sl:Array (Option Value)} {oc kV dc pm cd ct:Value} (a:nsIn K mainGlobals x=some (some (.ref f))) (l:K.lookup f=some ⟨oc,od,.func (fnOf x x (defArgs t) (defBody t) (defScope t) .none kV dc pm an cd ct),sl⟩) (c:codeIn K cd x=true) (k:keepIn K (.ref f)=true):DefI K x t:=⟨f,od,an,sl,oc,kV,dc,pm,cd,ct,a,l,c,k⟩
theorem DefI.fn {K:Frag} {h:Heap} {mg:Str->Option Value} {x:Str} {t:Stmt} (d:DefI K x t) (X:K.In h) (G:h.Ns mainGlobals mg):Fn K mg x t:=by
 obtain ⟨f,od,an,sl,oc,kV,dc,pm,cd,ct,a,l,c,k⟩:=d;exact ⟨_,_,rj (st:=t) l c k,mg_of X G a⟩
def ExcI (K:Frag) (x:Str) (C:Addr):Prop:=nsIn K mainGlobals x=some (some (.ref C))/\PySem.W.excIn K C bmV "ValueError.__new__" = true/\PySem.W.typeIn K (.ref C)=some (.type "type")/\PySem.W.mroIn K C (.type "BaseException")=some true/\findIn K (.ref C) "__getattribute__" = some (some (.builtin "BaseException.__getattribute__"))/\findIn K (.ref C) "__getattr__" = some none/\findIn K (.ref C) "__class__" = some (some (.builtin "object.__class__"))/\PySem.W.mroIn K C (.type "object")=some true
theorem ExcI.xn {K:Frag} {h:Heap} {mg:Str->Option Value} {x:Str} {C:Addr} (e:ExcI K x C) (X:K.In h) (G:h.Ns mainGlobals mg) (sgt:PySem.W.specialIn K (.builtin "object.__class__") "__get__" = some (some (.builtin "getset_descriptor.__get__"))) (stk:PySem.W.takesIn K (.builtin "object.__class__")=some true):Xn K mg x:=
 tL X G e.1 e.2.1 e.2.2.1 e.2.2.2.1 e.2.2.2.2.1 e.2.2.2.2.2.1 e.2.2.2.2.2.2.1 e.2.2.2.2.2.2.2 sgt stk
def MI (K:Frag) (C D:Addr):Prop:=PySem.W.mroIn K C (.ref D)=some false/\C≠D
theorem MI.of {K:Frag} {C D:Addr} (m:PySem.W.mroIn K C (.ref D)=some false) (d:C≠D):MI K C D:=⟨m,d⟩
theorem MI.xm {K:Frag} {C D:Addr} {x y:Str} (e:MI K C D) (n:nsIn K mainGlobals x=some (some (.ref C))) (n':nsIn K mainGlobals y=some (some (.ref D))):Xm K x y false:=ke n n' e.1 fun _=>e.2
theorem all_mk {K:Frag} {h:Heap} {mg:Str->Option Value} (X:K.In h) (G:h.Ns mainGlobals mg)
  (a0:DefI K "house_named" dF)
  (a1:DefI K "net_copied" cQ)
  (a2:DefI K "house_copied" cp)
  (a3:DefI K "net_mixed" eV)
  (a4:DefI K "check_changeable" b7)
  (a5:DefI K "net_doors" dA)
  (a6:DefI K "house_doors" cG)
  (a7:DefI K "mixed_by" dZ)
  (a8:DefI K "_law_by" g8)
  (a9:DefI K "_law_names" bG)
  (a10:DefI K "_law_layout" dI)
  (a11:DefI K "_law_row" dY)
  (a12:DefI K "_law_rule" dz)
  (a13:DefI K "_law_signs" cT)
  (a14:DefI K "_law_ways" dC)
  (a15:DefI K "_law_house" bP)
  (a16:DefI K "_law_lines" d4)
  (a17:DefI K "_law_net" d9)
  (a18:DefI K "_law_padded" dE)
  (a19:DefI K "_law_wider" cN)
  (a20:DefI K "_law_rule_padded" b8)
  (a21:DefI K "_law_copied" cE)
  (a22:DefI K "_law_twins" cR)
  (a23:DefI K "_law_stranger" b6)
  (a24:DefI K "_law_refusal" dg)
  (a25:DefI K "_law_unlike" am)
  (a26:DefI K "_law_due" fV)
  (a27:DefI K "law" cf)
  (lT:nsIn K mainGlobals "list" = some none)
  (pi:nsIn K mainGlobals "zip" = some none)
  (pj:nsIn K mainGlobals "len" = some none)
  (kc:nsIn K mainGlobals "range" = some none)
  (pq:nsIn K mainGlobals "sum" = some none)
  (px:nsIn K mainGlobals "max" = some none)
  (eH:nsIn K mainGlobals "isinstance" = some none)
  (eG:nsIn K mainGlobals "ValueError" = some none)
  (gi:nsIn K mainGlobals "reversed" = some none)
  (kb:nsIn K mainGlobals "tuple" = some none)
  {cc:Addr} (bK:ExcI K "NoHouse" cc)
  {cI:Addr} (bX:ExcI K "Unlike" cI)
  {dP:Addr} (bW:ExcI K "ThrongError" dP)
  {jb:Addr} (fk:ExcI K "NoDoor" jb)
  (sgt:PySem.W.specialIn K (.builtin "object.__class__") "__get__" = some (some (.builtin "getset_descriptor.__get__"))) (stk:PySem.W.takesIn K (.builtin "object.__class__")=some true)
  (cY:PySem.W.mroIn K cc (.type "ValueError")=some true)
  (aG:PySem.W.mroIn K cc (.ref dP)=some true)
  (bf:MI K cc jb)
  (be:MI K cc cI)
  (ba:PySem.W.mroIn K cc (.ref cc)=some true)
  (dX:PySem.W.mroIn K cI (.type "ValueError")=some true)
  (aN:PySem.W.mroIn K cI (.ref dP)=some true)
  (br:MI K cI jb)
  (bq:PySem.W.mroIn K cI (.ref cI)=some true)
  (bh:MI K cI cc)
  : Top K mg where
 fP:=a0.fn X G
 gI:=a1.fn X G
 fm:=a2.fn X G
 h9:=a3.fn X G
 dt:=a4.fn X G
 ia:=a5.fn X G
 fO:=a6.fn X G
 ja:=a7.fn X G
 jL:=a8.fn X G
 gO:=a9.fn X G
 fQ:=a10.fn X G
 i9:=a11.fn X G
 hZ:=a12.fn X G
 gK:=a13.fn X G
 h8:=a14.fn X G
 gP:=a15.fn X G
 gJ:=a16.fn X G
 i8:=a17.fn X G
 fR:=a18.fn X G
 gM:=a19.fn X G
 du:=a20.fn X G
 fU:=a21.fn X G
 gH:=a22.fn X G
 eK:=a23.fn X G
 fo:=a24.fn X G
 fS:=a25.fn X G
 i7:=a26.fn X G
 rg:=a27.fn X G
 cD:=PySem.W.mg_none_of X G lT
 ri:=PySem.W.mg_none_of X G pi
 cq:=PySem.W.mg_none_of X G pj
 bD:=PySem.W.mg_none_of X G kc
 rh:=PySem.W.mg_none_of X G pq
 pf:=PySem.W.mg_none_of X G px
 bS:=PySem.W.mg_none_of X G eH
 gL:=PySem.W.mg_none_of X G eG
 gj:=PySem.W.mg_none_of X G gi
 mq:=PySem.W.mg_none_of X G kb
 bJ:=bK.xn X G sgt stk
 bx:=bX.xn X G sgt stk
 dQ:=bW.xn X G sgt stk
 gN:=fk.xn X G sgt stk
 cY:=rf bK.1 cY
 aG:=ke bK.1 bW.1 aG (fun z=>nomatch z)
 bf:=bf.xm bK.1 fk.1
 be:=be.xm bK.1 bX.1
 ba:=ke bK.1 bK.1 ba (fun z=>nomatch z)
 dX:=rf bX.1 dX
 aN:=ke bX.1 bW.1 aN (fun z=>nomatch z)
 br:=br.xm bX.1 fk.1
 bq:=ke bX.1 bX.1 bq (fun z=>nomatch z)
 bh:=bh.xm bX.1 bK.1
theorem law_bind {P:Program} {w:World} {K:Frag} {mg:Str->Option Value} (T:Top K mg):∃ f fd,(∀ base:Heap,FnOk P w K mg base CX0 7 f fd ["_law_script"] (hG K))/\(∀ (s:Shared) (u:Value),BindsTo s fd ⟨[u],[]⟩ [("_law_script",u)])/\mg "law" = some (.ref f):=by
 obtain ⟨f,fd,F,m⟩:=T.rg;refine ⟨f,fd,fun base=>rH T F,?_,m⟩;obtain ⟨oc,od,kV,doc,pm,an,cdv,ct,osl,rfl,lk,hcd⟩:=F.ex;exact fun s u=>.of_eq rfl
theorem walk {l:PySem.W.OpenLaw} {q:Program} {loose:List Str} {XP:(Str->Option Value)->Heap->Prop} {α:Type} {Yf:Shared->α} {Ya:World->α} {d:DefRec} {K:Params->Frag} (hn:l.most=some 63) (hdf:d.params.defaults=[])
  (hY:∀ (w:World) (s:Shared),Yf s=Ya w->(K w.params).In s.heap/\0 < s.toks)
  (F:∀ (w:World) (mg:Str->Option Value) (fa:Addr) (h:Heap),(K w.params).In h->h.Ns mainGlobals mg->mg d.name=some (.ref fa) ->
   ∃ fd:FuncData,(∀ (s:Shared) (u:Value),BindsTo s fd ⟨[u],[]⟩ [("_law_script",u)])/\∀ base:Heap,(K w.params).In base->base.Ns mainGlobals mg->FnOk l.prog w (K w.params) mg base CX0 7 fa fd ["_law_script"] (hG (K w.params))):
  PySem.W.WalkX q loose XP Yf Ya l.row.toRowW d [] (fun f vs=>PySem.call f vs):=
 L2.walk_ofX (n:=63) (k:=7) (x := "_law_script") (CX:=fun _=>CX0) (sp:=fun w=>hG (K w.params)) hn (by decide) hdf ⟨rfl,by decide,by decide,rfl⟩ hY F (fun _ _ a ns hl _ hS=>⟨ns,hS,hl,fun _=>rfl⟩) fun _ _ _ _ _ z=>z
end Law
open PySem PySem.W PyProof.Rows
local macro_rules | `(tactic| walk_at "mi")=>`(tactic| (refine' Law.MI.of ?m ?d; (case m=>k_is); (case d=>decide)))
local macro_rules | `(tactic| walk_at "df")=>`(tactic| (refine' Law.DefI.of ?a ?l ?c ?k; (case a=>k_is); (case l=>k_is); (case c=>k_is); (case k=>k_is)))
local macro_rules | `(tactic| walk_at "ec")=>`(tactic| (refine' ⟨?n,?q,?t,?b,?g,?h,?a,?o⟩; (case n=>k_is); (case q=>k_exc); (case t=>k_is); (case b=>k_is); (case g=>k_is); (case h=>k_is); (case a=>k_is); (case o=>k_is)))
set_option maxRecDepth 100000 in
set_option maxHeartbeats 0 in
theorem PySem.Challenge.cw_throng_k72_nets_mixed_holds : PySem.Challenge.rw_throng_k72_nets_mixed.Holds := by
 w_on; o_law; z_head; (case hw=>w_witness2)
 k_fill
 refine Law.walk (l:=PySem.Challenge.rw_throng_k72_nets_mixed) rfl rfl (fun w s Y=>L2.z_pos Y (fun _=>rfl) (by decide)) ?F
 case F=>
  intro w mg fa h KX G hmg;have T:Law.Top (L2.KOf KX) mg:=by
   dsimp only [L2.KOf];refine' Law.all_mk KX G ?a0 ?a1 ?a2 ?a3 ?a4 ?a5 ?a6 ?a7 ?a8 ?a9 ?a10 ?a11 ?a12 ?a13 ?a14 ?a15 ?a16 ?a17 ?a18 ?a19 ?a20 ?a21 ?a22 ?a23 ?a24 ?a25 ?a26 ?a27 ?lT ?pi ?pj ?kc ?pq ?px ?eH ?eG ?gi ?kb ?bK ?bX ?bW ?fk ?sgt ?stk ?cY ?aG ?bf ?be ?ba ?dX ?aN ?br ?bq ?bh
   (case a0 | a1 | a2 | a3 | a4 | a5 | a6 | a7 | a8 | a9 | a10 | a11 | a12 | a13 | a14 | a15 | a16 | a17 | a18 | a19 | a20 | a21 | a22 | a23 | a24 | a25 | a26 | a27=>walk_at "df")
   (case lT | pi | pj | kc | pq | px | eH | eG | gi | kb=>k_is)
   (case bK | bX | bW | fk=>walk_at "ec")
   (case sgt=>k_is); (case stk=>k_is)
   (case cY | aG=>k_is)
   (case bf | be=>walk_at "mi")
   (case ba | dX | aN=>k_is)
   (case br=>walk_at "mi")
   (case bq=>k_is)
   (case bh=>walk_at "mi")
  obtain ⟨f,fd,F,b,m⟩:=Law.law_bind (P:=PySem.Challenge.pw_throng_k72_nets_mixed) (w:=w) T;have e0:=hmg.symm.trans m;cases e0;exact ⟨fd,b,fun base _ _=>F base⟩
#print axioms PySem.Challenge.cw_throng_k72_nets_mixed_holds
