import PyProof.Rows.All
import Wide.All
import OpenK.AllK
import Wide.FinOn
import Lean
import PyProof.EqAt
import PyProof.EqKinds
import PyProof.TupleCall
import KE.KLam
import KE.KSortKey
import KE.KSorted
import KE.KTabLook
import PySem.Challenge.RW_throng_k31_house_shares
namespace PySem.W.Fast
def tw2922741695931742085:=0
def tw12137653995038085382:=0
def tw7833700322623843111:=0
def tw13943552329438186857:=0
def tw17562900427136425995:=0
def tw14939067578149934027:=0
def tw7361307307664948332:=0
def tw1518961224066645517:=0
def tw2745824682758447022:=0
def tw12833086529754038352:=0
def tw10975781880008516784:=0
def tw7948472214868784881:=0
def tw4707272355297163954:=0
def tw6619142659052902130:=0
def tw6751308947208912500:=0
def tw11297572664511749080:=0
def tw6817299636562458361:=0
def tw5176224660221322044:=0
def tw12679924920797342652:=0
def tw6906532554605504157:=0
def tw1671301403464512202:=0
def tw12063741116738044640:=0
def tw7524050609248844235:=0
def tw18409814511289334222:=0
def tw2620674248190704311:=0
def tw13455190307356418163:=0
def tw14351851985885688504:=0
def tw12422466002465968786:=0
def tw10216679109732418345:=0
def tw4992834461055679046:=0
def tw9311704263064499898:=0
def tw11995243120929709783:=0
def tw10244279012433400763:=0
def tw9506390866306327960:=0
def tw16296500561439064639:=0
def tw2786430054308020867:=0
def tw9924444278188940798:=0
def tw633945936527795567:=0
def tw6968098903909670399:=0
def tw1479962968694293141:=0
def tw4823445181830082278:=0
def tw11587268020817416575:=0
def tw11315542908780990663:=0
def tw15784184298487742850:=0
def tw12371267494778177492:=0
def tw5056229239097997054:=0
def tw2092598709201372643:=0
def tw12414407470600224824:=0
def tw2294030016108770221:=0
def tw16855450514626425408:=0
def tw6324002721931913571:=0
def tw1309328314756239811:=0
def tw3824063679538776299:=0
def tw5465955752404624818:=0
def tw3619474028905794691:=0
def tw4766032010202472748:=0
def tw937885049958296737:=0
def tw4827508519493505832:=0
def tw10322205078773633185:=0
def tw3775038311163855034:=0
def tw15229360141648437470:=0
def tw10187338442926272989:=0
def tw6304586129568598939:=0
def tw4295884663352825214:=0
def tw8272267356946910541:=0
def tw5208678187667764108:=0
def tw8914249925645569636:=0
def tw13686224496277786132:=0
def tw9190274282860868033:=0
def tw482566682680716306:=0
def tw10597536680247253572:=0
def tw5499769284918272798:=0
def tw8139819896725215255:=0
def tw17906398634413543084:=0
def tw15801824084156661374:=0
def tw7044145473713417234:=0
def tw4085659067953341402:=0
def tw3994790924991392175:=0
def tw17411021279615305305:=0
def tw12229457788202562113:=0
def tw16644362135042423395:=0
def tw11792802429509129834:=0
def tw13796454095633853686:=0
def tw10912696792557968208:=0
def tw9510384174244051396:=0
def tw8764267540389277501:=0
def tw9454619284356806952:=0
def tw2044953400602846140:=0
def tw8347117565877554131:=0
def tw5416267900549002085:=0
def tw609915993562298929:=0
def tw17432084091911632506:=0
def tw2411066740426473833:=0
def tw12079011223159879994:=0
def tw1927515869884389986:=0
def tw4389721381059325627:=0
def tw4443346160784819427:=0
def tw7333043336018220683:=0
def tw1749191358131675264:=0
def tw16120742309288725037:=0
def tw1071553146021932930:=0
def tw624003253480272518:=0
def tw16049620936815048326:=0
def tw3190243033044542530:=0
def tw5496662753281469850:=0
def tw12760297257959446316:=0
def tw18027050869757924410:=0
def tw8677067340008356481:=0
def tw14895143788860938451:=0
def tw1437314463248636156:=0
def tw7763364307805327796:=0
def tw7911141863738440505:=0
def tw7741461754579789341:=0
def tw16792092641259554379:=0
def tw16006718527123719850:=0
def tw3875896021194712203:=0
def tw2843986209240289272:=0
def tw288042298412994881:=0
def tw5337160600536897763:=0
def tw13916507562899236091:=0
def tw9586839245335007727:=0
def tw9776690937505607013:=0
def tw10724868773022107953:=0
def tw14167537251097747749:=0
def tw10948566844072955881:=0
def tw6741678590056388803:=0
def tw11960684484393657229:=0
def tw9882080048028990729:=0
def tw10243324893032666664:=0
def tw10075437801606916504:=0
def tw5328113527675846827:=0
def tw16253839856900460472:=0
def tw12282784743523132620:=0
def tw10163198907408236636:=0
def tw6143379656562177144:=0
def tw11281984168252173335:=0
def tw15291393445811433850:=0
def tw13549900293602754473:=0
def tw3090125070088574479:=0
def tw13086121210891440733:=0
def tw11998728167333442730:=0
def tw12631122349312044196:=0
def tw11794929115483036428:=0
def tw6322396871570018759:=0
def tw16407175912906756195:=0
def tw16882159725884491142:=0
def tw4653495790247569009:=0
def tw11179136003740780751:=0
def tw8682444287365157767:=0
def tw6361445164823033470:=0
def tw1823714947229457145:=0
def tw12406275101467833987:=0
def tw5720552050939834430:=0
def tw6146071175545198269:=0
def tw17272214327512776941:=0
def tw1297417384272220963:=0
def tw13150176856364672966:=0
def tw9750024764844242607:=0
def tw4662941226912737238:=0
def tw16425470991818282699:=0
def tw1677799035172794945:=0
def tw12125144762144139092:=0
def tw7668434612189991818:=0
def tw6422728010074126762:=0
def tw11333904563228985240:=0
def tw18370662075252799787:=0
def tw16282594655214639627:=0
def tw15342987456783708944:=0
def tw10956434719062955467:=0
def tw13440876886318680179:=0
def tw10113776774632559646:=0
def tw12686178812231629272:=0
def tw6336106780285227216:=0
def tw9700864653910211016:=0
def tw254235905598528051:=0
def tw8684326042473956949:=0
def tw4493189100098893825:=0
def tw9257429420683886185:=0
def tw15464065533496396556:=0
def tw1031532983545181427:=0
def tw4810295049232502009:=0
def tw14108393314066686078:=0
def tw133398869745570951:=0
def tw5283084612024700184:=0
def tw14168865193270289642:=0
def tw15090056110082622393:=0
def tw11938855222208599914:=0
def tw12447334844918800248:=0
def tw13059054096956711195:=0
def tw14095153218064433908:=0
def tw4133518972317492354:=0
def tw12955586720654482532:=0
def tw15732002272532387109:=0
def tw7021634067536420937:=0
def tw6750210923693260169:=0
def tw16210304772857132937:=0
def tw2823261437569890218:=0
def tw17992626577147750991:=0
def tw15672647466785365236:=0
def tw11460171020419512980:=0
def tw14693681706589958555:=0
def tw13897863623868000348:=0
def tw11257281151005668638:=0
def tw10508576017919101310:=0
def tw2681490452688383966:=0
def tw8190620782275156863:=0
def tw4048682909300798074:=0
def tw7442527463456527104:=0
def tw2252248004205967938:=0
def tw17960558688833574533:=0
def tw13943990387528999561:=0
def tw7541421277520997674:=0
def tw4882079095329473034:=0
def tw3822462148864640139:=0
def tw4440343508262927661:=0
def tw9057727378726353293:=0
def tw8106476754948763501:=0
def tw1896344862582523854:=0
def tw5085933322212181998:=0
def tw9365842513425105999:=0
def tw4860588899269246322:=0
def tw11496869018210511251:=0
def tw7862788347473052085:=0
def tw17765022843830325622:=0
def tw9252770463634711672:=0
def tw8456514861570972120:=0
def tw3814398745818238552:=0
def tw7423354904203995115:=0
def tw6078563662837869599:=0
def tw12880442245051386304:=0
def tw13787369002054953828:=0
def tw15699770850671590437:=0
def tw922173050927395531:=0
def tw15013008147080338829:=0
def tw15964174720915433842:=0
def tw1646850139784253880:=0
def tw8206522514094499747:=0
def tw13705018637424124279:=0
def tw10196082158399943309:=0
def tw1494973147092923974:=0
def tw10205593891238494122:=0
def tw7665067895682429678:=0
def tw1123772428399348737:=0
end PySem.W.Fast
open PySem.W (Frag nsIn keepIn fnOf codeIn mg_of findIn)
set_option compiler.extract_closed false
set_option Elab.async false
set_option linter.all false
set_option maxRecDepth 100000
namespace L2
open PySem PySem.Spec PyProof.Rows
noncomputable abbrev Key:=Sum Int Str
noncomputable def keyIs:Key->Value->Bool
 | .inl k,v=>Value.isInt k v
 | .inr x,v=>Value.isStrOf x v
noncomputable def keyH (w:World):Key->Int
 | .inl k=>hashInt k
 | .inr x=>hashStr w x
theorem bv:∀ {k:Key} {v:Value},keyIs k v=true->(∃ i t,k=Sum.inl i/\v=Value.int i t)\/(∃ x t,k=Sum.inr x/\v=Value.str x t)
 | .inl i,v,h=>by
  obtain ⟨t,e⟩:=Value.isInt_shape (k:=i) (v:=v) h;exact .inl ⟨i,t,rfl,e⟩
 | .inr x,v,h=>by
  obtain ⟨t,e⟩:=Value.isStrOf_shape (x:=x) (v:=v) h;exact .inr ⟨x,t,rfl,e⟩
theorem uu (i:Int) (t:Tok):keyIs (.inl i) (.int i t)=true:=by simp [keyIs,Value.isInt]
theorem vo (x:Str) (t:Tok):keyIs (.inr x) (.str x t)=true:=by simp [keyIs,Value.isStrOf]
theorem AI (a b:Int):decide ((Sum.inl a:Key)=Sum.inl b)=(a == b):=by
 by_cases e:a=b
 ·subst e; simp
 ·have h:¬ (Sum.inl a:Key)=Sum.inl b:=fun q=>e (Sum.inl.inj q)
  rw [decide_eq_false h];exact (beq_eq_false_iff_ne.mpr e).symm
theorem AO (a b:Str):decide ((Sum.inr a:Key)=Sum.inr b)=decide (a=b):=by
 by_cases e:a=b
 ·subst e; simp
 ·have h:¬ (Sum.inr a:Key)=Sum.inr b:=fun q=>e (Sum.inr.inj q)
  rw [decide_eq_false h,decide_eq_false e]
theorem zM (a:Int) (b:Str):decide ((Sum.inl a:Key)=Sum.inr b)=false:=decide_eq_false (fun q=>nomatch q)
theorem zS (a:Str) (b:Int):decide ((Sum.inr a:Key)=Sum.inl b)=false:=decide_eq_false (fun q=>nomatch q)
noncomputable def mixKind (prog:Program) (w:World):PySem.KeyKind prog w Key where
 is:=keyIs
 hash:=keyH w
 inj:=fun v a b ha hb=>by
  rcases bv ha with ⟨i,t,rfl,rfl⟩ | ⟨x,t,rfl,rfl⟩
  ·rcases bv hb with ⟨j,u,rfl,e⟩ | ⟨y,u,rfl,e⟩
   ·injection e with e1 _; rw [e1]
   ·exact nomatch e
  ·rcases bv hb with ⟨j,u,rfl,e⟩ | ⟨y,u,rfl,e⟩
   ·exact nomatch e
   ·injection e with e1 _; rw [e1]
 byValue:=fun k v h=>by
  rcases bv h with ⟨i,t,rfl,rfl⟩ | ⟨x,t,rfl,rfl⟩ <;> rfl
 pyHash:=fun hv h=>by
  rcases bv hv with ⟨i,t,rfl,rfl⟩ | ⟨x,t,rfl,rfl⟩
  ·exact wpAny_pyHash_int h
  ·exact wpAny_pyHash_str h
 eqBool:=fun hu hv h=>by
  rcases bv hu with ⟨i,t,rfl,rfl⟩ | ⟨x,t,rfl,rfl⟩
  ·rcases bv hv with ⟨j,u,rfl,rfl⟩ | ⟨y,u,rfl,rfl⟩
   ·rw [AI] at h; exact wpAny_eqBool_int h
   ·rw [zM] at h; exact SeqAt.EqAt.int_str i t y u _ _ _ _ h
  ·rcases bv hv with ⟨j,u,rfl,rfl⟩ | ⟨y,u,rfl,rfl⟩
   ·rw [zS] at h; exact SeqAt.EqAt.str_int x t j u _ _ _ _ h
   ·rw [AO] at h; exact wpAny_eqBool_str h
 «strs»:=fun k x t v h=>by
  rcases bv h with ⟨i,u,rfl,e⟩ | ⟨y,u,rfl,e⟩
  ·exact nomatch e
  ·injection e with e1 _
   subst e1;cases v <;> rfl
theorem qj (prog:Program) (w:World) (i:Int) (t:Tok):(mixKind prog w).is (.inl i) (.int i t)=true:=uu i t
theorem qC (prog:Program) (w:World) (x:Str) (t:Tok):(mixKind prog w).is (.inr x) (.str x t)=true:=vo x t
inductive V where
 | non | bl (b:Bool) | int (i:Int) | str (x:Str) | byt (b:Array UInt8) | flt (b:UInt64) | ref (a:Addr) | ty (n:String)
 deriving DecidableEq
noncomputable def RelV:V->Value->Prop
 | .non,u=>u=Value.none
 | .bl b,u=>u=Value.bool b
 | .int i,u=>∃ t,u=Value.int i t
 | .str x,u=>∃ t,u=Value.str x t
 | .byt b,u=>∃ t,u=Value.bytes b t
 | .flt b,u=>∃ t,u=Value.float b t
 | .ref a,u=>u=Value.ref a
 | .ty n,u=>u=Value.type n
noncomputable abbrev Vals:List V->List Value->Prop:=Paired RelV
theorem Vals.length {xs:List V} {us:List Value} (r:Vals xs us):xs.length=us.length:=Paired.length r
theorem Vals.get:∀ {xs:List V} {us:List Value} {i:Nat} {x:V},Vals xs us->xs[i]? = some x->∃ u,us[i]? = some u/\RelV x u
 | _,_,_,_,.nil,e=>by simp at e
 | _,_,0,_,.cons r _,e=>by simp at e; subst e; exact ⟨_,rfl,r⟩
 | _,_,i+1,x,.cons _ t,e=>by
  obtain ⟨u,h1,h2⟩:=Vals.get (i:=i) (x:=x) t (by simpa using e);exact ⟨u,by simpa using h1,h2⟩
theorem Vals.set {x:V} {u:Value} (r:RelV x u):∀ {xs:List V} {us:List Value} (i:Nat),Vals xs us->Vals (xs.set i x) (us.set i u)
 | _,_,_,.nil=>.nil
 | _,_,0,.cons _ t=>.cons r t
 | _,_,i+1,.cons q t=>.cons q (Vals.set r i t)
theorem Vals.append:∀ {xs ys:List V} {us ws:List Value},Vals xs us->Vals ys ws->Vals (xs++ys) (us++ws)
 | _,_,_,_,.nil,s=>s
 | _,_,_,_,.cons r t,s=>.cons r (Vals.append t s)
theorem Vals.take:∀ {xs:List V} {us:List Value} (n:Nat),Vals xs us->Vals (xs.take n) (us.take n)
 | _,_,0,_=>.nil
 | _,_,_+1,.nil=>.nil
 | _,_,n+1,.cons r t=>.cons r (Vals.take n t)
theorem Vals.drop:∀ {xs:List V} {us:List Value} (n:Nat),Vals xs us->Vals (xs.drop n) (us.drop n)
 | _,_,0,r=>r
 | _,_,_+1,.nil=>.nil
 | _,_,n+1,.cons _ t=>Vals.drop n t
noncomputable def RelO:Option V->Option Value->Prop
 | some v,some u=>RelV v u
 | none,none=>True
 | _,_=>False
noncomputable def KV {κ:Type}:List (κ × V)->List (κ × Value)->Prop:=Paired fun (p:κ × V) (q:κ × Value)=>p.1=q.1/\RelV p.2 q.2
noncomputable def kV:Key->V
 | .inl i=>.int i
 | .inr x=>.str x
inductive HO where
 | lst (xs:List V)
 | tup (xs:List V)
 | dK (kvs:List (Key × V)) | dT (kvs:List (List Key × V))
 | set (S:Int->Bool) (n:Nat)
 | ins (C dx:Addr) (fs:List (Str × V))
 | own (x:Addr)
 | xd (fs:List (Str × V))
 | met (f x:Addr)
 | rng (lo hi:Int)
 | frz (o:Obj) (u:HO)
 | tbl (ps:Array Value)
 | ext (φ:Heap->Prop)
noncomputable abbrev Hp:=Addr->Option HO
noncomputable def upd (H:Hp) (a:Addr) (o:HO):Hp:=fun b=>if b=a then some o else H b
theorem upd_same {H:Hp} {a:Addr} {o:HO}:upd H a o a=some o:=by unfold upd; rw [if_pos rfl]
theorem ao {H:Hp} {a b:Addr} {o:HO} (h:b≠a):upd H a o b=H b:=by unfold upd; rw [if_neg h]
theorem aQ {H:Hp} {a b:Addr} {o:HO} (h:H a=some o) (h':H b=none):a≠b:=by
 intro e; subst e; rw [h] at h'; cases h'
noncomputable def lamQ:Str:=Str.ofString "longest_first.<locals>.<lambda>"
def TabOk (H:Hp) (h:Heap) (a:Addr) (ps:Array Value):Prop:=TriplesOk ps.toList/\∀ pos cv,codeAmong pos ps.toList=some cv->∃ c,cv=.ref c/\H c=some (.own a)/\h.CodeRec (.ref c) lamQ
section
variable (P:Program) (w:World)
noncomputable def ObjOk (H:Hp) (h:Heap) (a:Addr):HO->Prop
 | .lst xs=>xs.length<=sizeLine/\∃ (its:List Value) (n:Nat),Vals xs its/\h.get? a=some { cls:=.type "list",data:=.seq its.toArray n }
 | .tup xs=>xs.length<=sizeLine/\∃ its:List Value,Vals xs its/\IsTup h a its.toArray
 | .dK kvs=>kvs.length<=sizeLine/\(a == sysModules)=false/\∃ vs,KV kvs vs/\h.DictOf (mixKind P w) a vs
 | .dT kvs=>kvs.length<=sizeLine/\(a == sysModules)=false/\∃ xs:List (List Key × Addr × Value),
   Paired (fun (p:List Key × V) (q:List Key × Addr × Value)=>p.1=q.1/\H q.2.1=some (.tup (p.1.map kV))/\RelV p.2 q.2.2) kvs xs /\
   ∃ o es ep,h.get? a=some o/\o.ExactDict/\o.data=.dict es ep/\es.toList=xs.map (entryOfKey (tupleKind (mixKind P w)))/\(xs.map (·.1)).Nodup
 | .set S n=>h.SetOf (intKind P w) a S n
 | .ins C dx fs=>H dx=some (.own a)/\fs.length<=1000/\dx≠a/\h.get? a=some (PySem.W.instObj C dx) /\
   ∃ mA,h.Ns1 dx mA/\(∀ f,RelO (fs.lookup f) (mA f))/\PySem.Within mA (fs.map (·.1))
 | .own _=>∃ o,h.get? a=some o
 | .xd fs=>∃ mA,h.Ns1 a mA/\∀ f,RelO (fs.lookup f) (mA f)
 | .rng lo hi=>∃ t u v,h.get? a=some { cls:=.type "range",data:=.fields #[.int lo t,.int hi u,.int 1 v] }
 | .frz o u=>h.get? a=some o/\ObjOk H h a u
 | .tbl ps=>∃ more:Array Value,h.get? a=some { cls:=.none,data:=.fields (ps++more) }/\TabOk H h a (ps++more)
 | .met f x=>h.get? a=some (PySem.W.methodObj (.ref f) (.ref x))
 | .ext φ=>φ h/\(∃ o,h.get? a=some o)/\∀ h1 h2:Heap,φ h1->(∀ o,h1.get? a=some o->h2.get? a=some o)->φ h2
def HOk (H:Hp) (h:Heap):Prop:=∀ a o,H a=some o->ObjOk P w H h a o
end
section
variable {P:Program} {w:World} {H H':Hp} {h h':Heap} {a:Addr} {o:HO}
theorem ObjOk.lt (x:ObjOk P w H h a o):a < h.objs.size:=by
 cases o with
 | lst xs=>obtain ⟨_,_,_,_,e⟩:=x; exact Heap.lt_size e
 | tup xs=>obtain ⟨_,_,_,p⟩:=x; exact p.lt
 | dK kvs=>obtain ⟨_,_,_,_,o,_,_,e,_⟩:=x; exact Heap.lt_size e
 | dT kvs=>obtain ⟨_,_,_,_,o,_,_,e,_⟩:=x; exact Heap.lt_size e
 | set S n=>obtain ⟨o,_,_,_,e,_⟩:=x; exact Heap.lt_size e
 | ins C dx fs=>obtain ⟨_,_,_,e,_⟩:=x; exact Heap.lt_size e
 | own y=>obtain ⟨_,e⟩:=x; exact Heap.lt_size e
 | xd fs=>obtain ⟨_,⟨_,_,_,e,_⟩,_⟩:=x; exact Heap.lt_size e
 | rng lo hi=>obtain ⟨_,_,_,e⟩:=x; exact Heap.lt_size e
 | frz ob u=>obtain ⟨e,_⟩:=x; exact Heap.lt_size e
 | tbl ps=>obtain ⟨_,e,_⟩:=x; exact Heap.lt_size e
 | met f y=>exact Heap.lt_size (show h.get? a=some _ from x)
 | ext φ=>obtain ⟨_,⟨_,e⟩,_⟩:=x; exact Heap.lt_size e
theorem Paired.mapP {α β:Type} {F G:α -> β -> Prop}:∀ {l₁:List α} {l₂:List β},Paired F l₁ l₂ -> (∀ a b,F a b->G a b)->Paired G l₁ l₂
 | _,_,.nil,_=>.nil
 | _,_,.cons r t,f=>.cons (f _ _ r) (Paired.mapP t f)
theorem ObjOk.stay (x:ObjOk P w H h a o) (k:∀ b u,(b=a\/H b=some (.own a))->h.get? b=some u->h'.get? b=some u)
  (ho:∀ b,H b=some (.own a)->H' b=some (.own a)) (ht:∀ b xs,H b=some (.tup xs)->H' b=some (.tup xs)):ObjOk P w H' h' a o:=by
 induction o with
 | lst xs=>obtain ⟨z,its,n,r,e⟩:=x; exact ⟨z,its,n,r,k _ _ (.inl rfl) e⟩
 | tup xs=>obtain ⟨z,its,r,ob,e,c⟩:=x; exact ⟨z,its,r,ob,k _ _ (.inl rfl) e,c⟩
 | dK kvs=>obtain ⟨z,y,vs,r,ob,es,ep,e,c⟩:=x; exact ⟨z,y,vs,r,ob,es,ep,k _ _ (.inl rfl) e,c⟩
 | dT kvs=>
  obtain ⟨z,y,xs,r,ob,es,ep,e,c⟩:=x;exact ⟨z,y,xs,Paired.mapP r fun p q z=>⟨z.1,ht _ _ z.2.1,z.2.2⟩,ob,es,ep,k _ _ (.inl rfl) e,c⟩
 | set S n=>obtain ⟨ob,es,ep,t,e,c⟩:=x; exact ⟨ob,es,ep,t,k _ _ (.inl rfl) e,c⟩
 | ins C dx fs=>
  obtain ⟨d,z,ne,e,mA,⟨od,es,ep,e2,c⟩,r⟩:=x;exact ⟨ho _ d,z,ne,k _ _ (.inl rfl) e,mA,⟨od,es,ep,k _ _ (.inr d) e2,c⟩,r⟩
 | own y=>obtain ⟨ob,e⟩:=x; exact ⟨ob,k _ _ (.inl rfl) e⟩
 | xd fs=>obtain ⟨mA,⟨od,es,ep,e,c⟩,r⟩:=x; exact ⟨mA,⟨od,es,ep,k _ _ (.inl rfl) e,c⟩,r⟩
 | rng lo hi=>obtain ⟨t,u,v,e⟩:=x; exact ⟨t,u,v,k _ _ (.inl rfl) e⟩
 | frz ob u ih=>obtain ⟨e,q⟩:=x; exact ⟨k _ _ (.inl rfl) e,ih q⟩
 | tbl ps=>
  obtain ⟨more,e,t1,t2⟩:=x;refine ⟨more,k a _ (.inl rfl) e,t1,fun pos cv q=>?_⟩;obtain ⟨c,e1,e2,c2,o,vs,t,e3,e4,e5⟩:=t2 pos cv q;cases e3;exact ⟨c,e1,ho _ e2,c,o,vs,t,rfl,k _ _ (.inr e2) e4,e5⟩
 | met f y=>
  have e:h.get? a=some (PySem.W.methodObj (.ref f) (.ref y)):=x;show h'.get? a=some (PySem.W.methodObj (.ref f) (.ref y));exact k a _ (.inl rfl) e
 | ext φ=>obtain ⟨p,⟨o,e⟩,st⟩:=x; exact ⟨st _ _ p fun o q=>k _ _ (.inl rfl) q,⟨o,k _ _ (.inl rfl) e⟩,st⟩
theorem HOk.lt (x:HOk P w H h) (e:H a=some o):a < h.objs.size:=(x a o e).lt
theorem HOk.fresh (x:HOk P w H h) (e:h.objs.size<=a):H a=none:=by
 cases q:H a with
 | none=>rfl
 | some u=>exact absurd (Nat.lt_of_lt_of_le (x.lt q) e) (Nat.lt_irrefl _)
theorem HOk.kept (x:HOk P w H h) (k:∀ b u,h.get? b=some u->h'.get? b=some u):HOk P w H h':=fun a o e=>
 (x a o e).stay (fun b u _ q=>k b u q) (fun _ q=>q) fun _ _ q=>q
theorem HOk.laid (x:HOk P w H h) (k:∀ b u,h.get? b=some u->h'.get? b=some u) (hp:h.objs.size<=a) (new:ObjOk P w (upd H a o) h' a o):HOk P w (upd H a o) h':=fun b u e=>by
 have hn:=x.fresh hp;by_cases hb:b=a
 ·subst hb; rw [upd_same] at e; cases e; exact new
 ·rw [ao hb] at e;exact (x b u e).stay (fun c v _ q=>k c v q) (fun c q=>by rw [ao (aQ q hn)]; exact q) fun c xs q=>by rw [ao (aQ q hn)]; exact q
end
def Rd (H:Hp) (a:Addr) (u:HO):Prop:=H a=some u\/∃ o,H a=some (.frz o u)
theorem Rd.ok {P:Program} {w:World} {H:Hp} {h:Heap} {a:Addr} {u:HO} (r:Rd H a u) (x:HOk P w H h):ObjOk P w H h a u:=by
 rcases r with r | ⟨o,r⟩
 ·exact x a u r
 ·obtain ⟨_,q⟩:=x a _ r;exact q
noncomputable def Mut:Option HO->Prop
 | some (.lst _)=>True
 | some (.dK _)=>True
 | some (.dT _)=>True
 | some (.set _ _)=>True
 | some (.ins _ _ _)=>True
 | some (.ext _)=>True
 | _=>False
section
variable {P:Program} {w:World} {H:Hp} {h h':Heap} {x e:Addr} {o':HO}
theorem HOk.write (ok:HOk P w H h) (mu:Mut (H x)) (he:e=x\/H e=some (.own x)) (k:∀ b u,b≠e->h.get? b=some u->h'.get? b=some u) (heo:∃ u,h'.get? e=some u)
  (new:ObjOk P w (upd H x o') h' x o'):HOk P w (upd H x o') h':=fun b u q=>by
 have nown:∀ c y,H c=some (.own y)->c≠x:=fun c y r z=>by subst z; rw [r] at mu; exact mu
 have ntup:∀ c xs,H c=some (.tup xs)->c≠x:=fun c xs r z=>by subst z; rw [r] at mu; exact mu
 by_cases hb:b=x
 ·subst hb; rw [upd_same] at q; cases q; exact new
 ·rw [ao hb] at q;by_cases hbe:b=e
  ·have q':H b=some (.own x):=by
    rcases he with z | z
    ·exact absurd (hbe.trans z) hb
    ·rw [hbe]; exact z
   rw [q] at q'; cases q';obtain ⟨v,hv⟩:=heo;exact ⟨v,by rw [hbe]; exact hv⟩
  ·refine (ok b u q).stay (fun c v hc r=>k c v ?_ r) (fun c r=>by rw [ao (nown c b r)]; exact r) fun c xs r=>by rw [ao (ntup c xs r)]; exact r
   rcases hc with rfl | hc
   ·exact hbe
   ·rintro rfl;rcases he with z | z
    ·exact nown c b hc z
    ·rw [hc] at z; cases z; exact hb rfl
end
structure Un (fs ex:List Addr) (H H':Hp) (h h':Heap):Prop where
 keep:∀ b o,h.get? b=some o->H b=none->b ∉ fs->b ∉ ex->h'.get? b=some o
 slot:∀ b o,h.get? b=some o->H b=none->b ∈ fs->b ∉ ex->∃ sl,h'.get? b=some { o with slots:=sl }
 free:∀ b o,h.get? b=some o->H b=none->b ∉ ex->H' b=none
 there:∀ b o,h.get? b=some o->b ∉ ex->∃ o',h'.get? b=some o'
 tups:∀ b xs,H b=some (.tup xs)->H' b=some (.tup xs)
 frzs:∀ b o xs,H b=some (.frz o (.lst xs))->H' b=some (.frz o (.lst xs))
 tbls:∀ b ps,H b=some (.tbl ps)->∃ more,H' b=some (.tbl (ps++more))
section
variable {fs fs' ex ex':List Addr} {H H1 H2:Hp} {h h1 h2 h':Heap} {a x e:Addr} {o:HO}
theorem Un.any (u:Un fs ex H H1 h h1) {b:Addr} {ob:Obj} (q:h.get? b=some ob) (n:H b=none) (hx:b ∉ ex):∃ sl,h1.get? b=some { ob with slots:=sl }:=by
 by_cases hb:b ∈ fs
 ·exact u.slot b ob q n hb hx
 ·exact ⟨ob.slots,u.keep b ob q n hb hx⟩
theorem Un.kept (k:∀ b u,h.get? b=some u->h'.get? b=some u):Un fs ex H H h h':=
 ⟨fun b ob q _ _ _=>k b ob q,fun b ob q _ _ _=>⟨ob.slots,k b ob q⟩,fun _ _ _ n _=>n,fun b ob q _=>⟨ob,k b ob q⟩,fun _ _ q=>q,fun _ _ _ q=>q,fun _ ps q=>⟨#[],by rw [q]; simp⟩⟩
theorem Un.refl:Un fs ex H H h h:=Un.kept fun _ _ q=>q
theorem Un.laid (k:∀ b u,h.get? b=some u->h'.get? b=some u) (hp:h.objs.size<=a) (hn:H a=none):Un fs ex H (upd H a o) h h' where
 keep:=fun b u q _ _ _=>k b u q
 slot:=fun b u q _ _ _=>⟨u.slots,k b u q⟩
 free:=fun b u q n _=>by rw [ao (Nat.ne_of_lt (Nat.lt_of_lt_of_le (Heap.lt_size q) hp))]; exact n
 there:=fun b u q _=>⟨u,k b u q⟩
 tups:=fun b xs q=>by rw [ao (aQ q hn)]; exact q
 frzs:=fun b u xs q=>by rw [ao (aQ q hn)]; exact q
 tbls:=fun b ps q=>⟨#[],by rw [ao (aQ q hn),q]; simp⟩
theorem Un.write (mu:Mut (H x)) (he:e=x\/H e=some (.own x)) (k:∀ b u,b≠e->h.get? b=some u->h'.get? b=some u) (heo:∃ u,h'.get? e=some u):Un fs ex H (upd H x o) h h':=by
 have hx:∀ b,H b=none->b≠x:=fun b n z=>by subst z; rw [n] at mu; exact mu
 have hb:∀ b,H b=none->b≠e:=fun b n z=>by
  subst z;rcases he with r | r
  ·exact hx b n r
  ·rw [n] at r; cases r
 have hm:∀ b u,H b=some u->¬ Mut (some u)->b≠x:=fun b u q nm z=>by subst z; rw [q] at mu; exact nm mu
 refine ⟨fun b u q n _ _=>k b u (hb b n) q,fun b u q n _ _=>⟨u.slots,k b u (hb b n) q⟩,fun b u q n _=>by rw [ao (hx b n)]; exact n,fun b u q _=>?_,
  fun b xs q=>by rw [ao (hm b _ q fun z=>z)]; exact q,fun b u xs q=>by rw [ao (hm b _ q fun z=>z)]; exact q,fun b ps q=>⟨#[],by rw [ao (hm b _ q fun z=>z),q]; simp⟩⟩
 by_cases hbe:b=e
 ·subst hbe; exact heo
 ·exact ⟨u,k b u hbe q⟩
end
noncomputable def trk (h:Heap) (H:Hp):List Addr:=(List.range h.objs.size).filter fun a=>(H a).isSome
noncomputable def hidT (h:Heap) (H:Hp):Heap:=PySem.W.hideAll h (trk h H)
theorem ui (h:Heap) (H:Hp):(hidT h H).objs.size=h.objs.size:=PySem.W.hideAll_size _ _
theorem wC {h:Heap} {H:Hp} {b:Addr} {o:Obj} (e:h.get? b=some o) (n:H b=none):(hidT h H).get? b=some o:=
 PySem.W.hideAll_get _ e fun hm=>by
  have q:(H b).isSome=true:=(List.mem_filter.mp hm).2;rw [n] at q; simp at q
theorem zl {h:Heap} {H:Hp} {b:Addr} {o:Obj} (e:(hidT h H).get? b=some o):h.get? b=some o/\H b=none:=by
 have e':h.get? b=some o:=PySem.W.of_hideAll (trk h H) e;refine ⟨e',?_⟩;cases q:H b with
 | none=>rfl
 | some x=>
  have hm:b ∈ trk h H:=List.mem_filter.mpr ⟨List.mem_range.mpr (Heap.lt_size e'),by simp [q]⟩;have z:(hidT h H).get? b=none:=PySem.W.hideAll_none (trk h H) hm;rw [z] at e; cases e
noncomputable def allNews (g h:Heap) (L:Addr):List (Addr × Obj):=(List.range h.objs.size).filterMap fun a=>if a=L\/(g.get? a).isSome=true then none else (h.get? a).map fun o=>(a,o)
theorem kQ {g h:Heap} {L a:Addr} {o:Obj} (h1:a≠L) (h2:g.get? a=none) (h3:h.get? a=some o):(a,o) ∈ allNews g h L:=
 List.mem_filterMap.mpr ⟨a,List.mem_range.mpr (Heap.lt_size h3),by simp [h1,h2,h3]⟩
theorem me {g h:Heap} {L:Addr} {p:Addr × Obj} (hp:p ∈ allNews g h L):p.1≠L/\g.get? p.1=none/\h.get? p.1=some p.2:=by
 obtain ⟨b,_,e⟩:=List.mem_filterMap.mp hp;split at e
 ·cases e
 ·rename_i hn;cases q:h.get? b with
  | none=>rw [q] at e; simp at e
  | some u=>
   rw [q] at e;simp only [Option.map_some,Option.some.injEq] at e;subst e;refine ⟨fun z=>hn (.inl z),?_,q⟩;show g.get? b=none;cases r:g.get? b with
   | none=>rfl
   | some v=>exact (hn (.inr (by simp [r]))).elim
noncomputable def rest (g h:Heap) (L d:Addr):List (Addr × Obj):=(allNews g h L).filter fun p=>decide (p.1≠d)
theorem wN {g h:Heap} {L:Addr}:News g L h (allNews g h L):=fun p hp=>let ⟨a,b,c⟩:=me hp; ⟨c,a,b⟩
structure Mod (K:Frag) (mg:Str->Option Value) (base:Heap):Prop where
 kin:K.In base
 glob:base.Ns mainGlobals mg
 blt:∃ mb,base.Ns builtinsNs mb/\∀ x:Str,x ≠ "__name__" -> mb x=bootBuiltins x
 nolimit:base.NoLimit
structure Cx where
 prog:Program
 w:World
 K:Frag
 mg:Str->Option Value
 base:Heap
 A:Around
 N:List Str
 s₀:Shared
 H₀:Hp
 env:Env
 outer:List Env
 stack:List Env
 ex:List Addr
 fn:Str->Bool
 calm:Bool
 pn:List (Addr × Obj)
 xe:Value->Shared->Prop
noncomputable def frs (l:List Env):List Addr:=l.filterMap (·.frame)
noncomputable abbrev Cx.fs (X:Cx):List Addr:=frs X.outer
def Vis (sc:Scope) (x:Str):Prop:=sc.names.lookup x=some .local\/sc.names.lookup x=some .cell\/sc.names.lookup x=some .free
def Loc (sc:Scope) (x:Str):Prop:=sc.names.lookup x=some .local\/sc.names.lookup x=some .cell
def Look (env:Env) (h:Heap) (m:Str->Option Value) (x:Str) (u:Value):Prop:=
 (env.kindOf x=some .local/\m x=some u)\/((env.kindOf x=some .cell\/env.kindOf x=some .free)/\∃ c,env.cells.lookup x=some c/\h.IsCell c (some u))
structure Cx.Ok (X:Cx):Prop where
 mod:Mod X.K X.mg X.base
 kind:X.env.scope.kind=.function
 glob:X.env.globals=mainGlobals
 blt:X.env.builtins=builtinsNs
 above:X.s₀.heap.objs.size<=X.env.locals
 inj:∀ x y c,X.env.cells.lookup x=some c->X.env.cells.lookup y=some c->x=y
 has:∀ x,(X.env.kindOf x=some .cell\/X.env.kindOf x=some .free)->∃ c,X.env.cells.lookup x=some c
 cab:∀ x c,X.fn x=true->X.env.cells.lookup x=some c->X.s₀.heap.objs.size<=c
 hd:X.calm=true->X.A.handled=none
 frames:X.A.frames=some X.stack
 stk:X.stack=X.outer\/(X.stack=X.env::X.outer/\X.env.frame=some X.env.locals)
 exf:∀ b ∈ X.ex,b≠X.env.locals/\∀ x c,X.env.cells.lookup x=some c->c≠b
 bs:∀ b o,X.base.get? b=some o->X.s₀.heap.get? b=some o/\X.H₀ b=none
 bsz:X.base.objs.size<=X.s₀.heap.objs.size
 noex:∀ b o,X.base.get? b=some o->b ∉ X.ex
 exfs:∀ b ∈ X.ex,b ∉ X.fs
 funs:X.s₀.heap.FunFrames X.base X.outer
 frf:∀ b ∈ X.fs,X.H₀ b=none
structure Inv (X:Cx) (pins:List (Addr × Obj)) (σ:List (Option V)) (H:Hp) (s:Shared):Prop where
 ok:X.Ok
 os:s.os=X.s₀.os
 bare:AllBare s.gens
 base:Un X.fs X.ex X.H₀ H X.s₀.heap s.heap
 loc:∃ m,s.heap.Ns X.env.locals m/\∀ (i:Nat) (x:Str) (v:V),X.N[i]? = some x->σ[i]? = some (some v)->Vis X.env.scope x->∃ u,RelV v u/\Look X.env s.heap m x u
 cell:∀ x c,X.env.cells.lookup x=some c->∃ v,s.heap.IsCell c v
 free:H X.env.locals=none
 freeC:∀ x c,X.env.cells.lookup x=some c->H c=none
 pin:∀ p ∈ X.pn++pins,s.heap.get? p.1=some p.2/\H p.1=none/\p.1≠X.env.locals/\p.1 ∉ X.fs/\∀ v,p.2.data≠.cell v
 hok:HOk X.prog X.w H s.heap
 len:σ.length=X.N.length
 tk:0 < s.toks
section
variable {X:Cx} {pins:List (Addr × Obj)} {σ:List (Option V)} {H H':Hp} {s:Shared} {h':Heap}
theorem Cx.Ok.nofr (ok:X.Ok) {b:Addr} {o:Obj} (e:X.base.get? b=some o):b ∉ X.fs:=fun hb=>by
 have:=(ok.funs.mem hb).1;rw [e] at this; cases this
theorem Inv.bs (I:Inv X pins σ H s):∀ b o,X.base.get? b=some o->s.heap.get? b=some o/\H b=none:=fun b o e=>
 ⟨I.base.keep b o (I.ok.bs b o e).1 (I.ok.bs b o e).2 (I.ok.nofr e) (I.ok.noex b o e),I.base.free b o (I.ok.bs b o e).1 (I.ok.bs b o e).2 (I.ok.noex b o e)⟩
theorem Inv.bk (I:Inv X pins σ H s):∀ b o,X.base.get? b=some o->s.heap.get? b=some o:=fun b o e=>(I.bs b o e).1
theorem Inv.mod (I:Inv X pins σ H s):Mod X.K X.mg X.base:=I.ok.mod
theorem Inv.kIn (I:Inv X pins σ H s):X.K.In s.heap:=I.ok.mod.kin.keeps I.bk
theorem Inv.fr (I:Inv X pins σ H s):∃ m,Fr X.base X.env.locals s.heap m:=
 let ⟨m,hn,_⟩:=I.loc
 ⟨m,hn,I.bk,Nat.le_trans I.ok.bsz I.ok.above⟩
theorem Inv.lt (I:Inv X pins σ H s):X.env.locals < s.heap.objs.size:=let ⟨_,hn,_⟩:=I.loc; hn.lt
theorem Inv.sz (I:Inv X pins σ H s):X.s₀.heap.objs.size<=s.heap.objs.size:=Nat.le_trans I.ok.above (Nat.le_of_lt I.lt)
theorem Inv.nofs (I:Inv X pins σ H s) {a:Addr} (h:s.heap.objs.size<=a):a ∉ X.fs:=fun hb=>by
 obtain ⟨_,o,ho,_⟩:=I.ok.funs.mem hb;exact absurd (Nat.lt_of_lt_of_le (Heap.lt_size ho) (Nat.le_trans I.sz h)) (Nat.lt_irrefl _)
theorem Inv.cne (I:Inv X pins σ H s):∀ x c,X.env.cells.lookup x=some c->c≠X.env.locals:=fun x c e z=>by
 obtain ⟨v,o,ho,hd⟩:=I.cell x c e;obtain ⟨m,⟨o',es,ep,ho',hd',_⟩,_⟩:=I.loc;rw [z,ho'] at ho; cases ho; rw [hd'] at hd; cases hd
theorem Inv.funs (I:Inv X pins σ H s):s.heap.FunFrames X.base X.outer:=by
 have all:∀ (l:List Env),(∀ b ∈ frs l,b ∈ X.fs)->X.s₀.heap.FunFrames X.base l->s.heap.FunFrames X.base l:=by
  intro l
  induction l with
  | nil=>intro _ _; trivial
  | cons env r ih=>
   intro hs hl;obtain ⟨hk,⟨L,o,hf,hn,ho,hd⟩,hr⟩:=hl;have hL:L ∈ X.fs:=hs L (by unfold frs; rw [List.filterMap_cons,hf]; exact List.mem_cons_self);obtain ⟨sl,e⟩:=I.base.slot L o ho (I.ok.frf L hL) hL fun z=>I.ok.exfs L z hL
   exact ⟨hk,⟨L,_,hf,hn,e,hd⟩,ih (fun b hb=>hs b (by unfold frs; rw [List.filterMap_cons,hf]; exact List.mem_cons_of_mem _ hb)) hr⟩
 exact all X.outer (fun _ hb=>hb) I.ok.funs
theorem Inv.stack (I:Inv X pins σ H s):s.heap.FunFrames X.base X.stack:=by
 rcases I.ok.stk with e | ⟨e,hf⟩
 ·rw [e]; exact I.funs
 ·rw [e];obtain ⟨m,hn,_⟩:=I.loc;refine .cons (by rw [I.ok.kind]; decide) hf hn ?_ I.funs;exact Heap.get?_none_of_le (Nat.le_trans I.ok.bsz I.ok.above)
theorem Inv.stkSub (I:Inv X pins σ H s):∀ b ∈ frs X.stack,b ∈ X.env.locals::X.fs:=fun b hb=>by
 rcases I.ok.stk with e | ⟨e,hf⟩
 ·rw [e] at hb; exact List.mem_cons_of_mem _ hb
 ·rw [e] at hb;unfold frs at hb;rw [List.filterMap_cons,hf] at hb;exact hb
theorem Inv.stkFree (I:Inv X pins σ H s):∀ b ∈ frs X.stack,H b=none:=fun b hb=>by
 rcases List.mem_cons.mp (I.stkSub b hb) with e | hb
 ·rw [e]; exact I.free
 ·obtain ⟨_,o,ho,_⟩:=I.ok.funs.mem hb;exact I.base.free b o ho (I.ok.frf b hb) fun z=>I.ok.exfs b z hb
theorem Inv.step {g':Array GenState} {t':Nat} {d':Drawn} {ch:List Addr} (I:Inv X pins σ H s)
  (hch:∀ b ∈ ch,(b ∈ X.ex\/X.s₀.heap.objs.size<=b)/\b≠X.env.locals/\(∀ x c,X.env.cells.lookup x=some c->c≠b)/\∀ p ∈ X.pn++pins,p.1≠b)
  (keep:∀ b o,b≠X.env.locals->b ∉ X.fs->b ∉ ch->s.heap.get? b=some o->H b=none->h'.get? b=some o)
  (slot:∀ b o,b≠X.env.locals->b ∈ X.fs->b ∉ ch->s.heap.get? b=some o->H b=none->∃ sl,h'.get? b=some { o with slots:=sl }) (free:∀ b o,b ∉ ch->s.heap.get? b=some o->H b=none->H' b=none)
  (there:∀ b o,b ∉ ch->s.heap.get? b=some o->∃ o',h'.get? b=some o')
  (tups:∀ b xs,H b=some (.tup xs)->H' b=some (.tup xs)) (frzs:∀ b o xs,H b=some (.frz o (.lst xs))->H' b=some (.frz o (.lst xs))) (tbls:∀ b ps,H b=some (.tbl ps)->∃ more,H' b=some (.tbl (ps++more)))
  (ns:∀ m,s.heap.Ns X.env.locals m->h'.Ns X.env.locals m) (hok:HOk X.prog X.w H' h') (hg:AllBare g') (ht:0 < t':=by first | assumption | exact Nat.succ_pos _ | (apply Inv.tk; assumption) | omega):
  Inv X pins σ H' { s with heap:=h',gens:=g',drawn:=d',toks:=t' }:=by
 have neL:∀ b o,X.s₀.heap.get? b=some o->b≠X.env.locals:=fun b o e=>Nat.ne_of_lt (Nat.lt_of_lt_of_le (Heap.lt_size e) I.ok.above)
 have neC:∀ b o,X.s₀.heap.get? b=some o->b ∉ X.ex->b ∉ ch:=fun b o e hx hb=>by
  rcases (hch b hb).1 with z | z
  ·exact hx z
  ·exact absurd (Nat.lt_of_lt_of_le (Heap.lt_size e) z) (Nat.lt_irrefl _)
 have cellK:∀ x c,X.env.cells.lookup x=some c->∀ v,s.heap.IsCell c v->h'.IsCell c v:=fun x c e v ⟨o,ho,hd⟩=>by
  have nch:c ∉ ch:=fun z=>(hch c z).2.2.1 x c e rfl
  by_cases hc:c ∈ X.fs
  ·obtain ⟨sl,q⟩:=slot c o (I.cne x c e) hc nch ho (I.freeC x c e);exact ⟨_,q,hd⟩
  ·exact ⟨o,keep c o (I.cne x c e) hc nch ho (I.freeC x c e),hd⟩
 refine ⟨I.ok,I.os,hg,⟨fun b o e n hb hx=>?_,fun b o e n hb hx=>?_,fun b o e n hx=>?_,fun b o e hx=>?_,fun b xs e=>tups b xs (I.base.tups b xs e),fun b o xs e=>frzs b o xs (I.base.frzs b o xs e),fun b ps e=>?_⟩,?_,fun x c e=>?_,?_,fun x c e=>?_,fun p hp=>?_,hok,I.len,ht⟩
 ·exact keep b o (neL b o e) hb (neC b o e hx) (I.base.keep b o e n hb hx) (I.base.free b o e n hx)
 ·obtain ⟨sl,e1⟩:=I.base.slot b o e n hb hx;obtain ⟨sl',e2⟩:=slot b _ (neL b o e) hb (neC b o e hx) e1 (I.base.free b o e n hx);exact ⟨sl',e2⟩
 ·obtain ⟨o',e1⟩:=I.base.there b o e hx;exact free b o' (neC b o e hx) e1 (I.base.free b o e n hx)
 ·obtain ⟨o',e1⟩:=I.base.there b o e hx;exact there b o' (neC b o e hx) e1
 ·obtain ⟨m1,e1⟩:=I.base.tbls b ps e;obtain ⟨m2,e2⟩:=tbls b _ e1;exact ⟨m1++m2,by rw [e2,Array.append_assoc]⟩
 ·obtain ⟨m,hn,hl⟩:=I.loc;refine ⟨m,ns m hn,fun i x v e1 e2 e3=>?_⟩;obtain ⟨u,r,l⟩:=hl i x v e1 e2 e3;refine ⟨u,r,?_⟩;rcases l with l | ⟨k,c,e,z⟩
  ·exact .inl l
  ·exact .inr ⟨k,c,e,cellK x c e _ z⟩
 ·obtain ⟨v,z⟩:=I.cell x c e;exact ⟨v,cellK x c e v z⟩
 ·obtain ⟨m,⟨o,_,_,ho,_⟩,_⟩:=I.loc;exact free _ o (fun z=>(hch _ z).2.1 rfl) ho I.free
 ·obtain ⟨v,o,ho,hd⟩:=I.cell x c e;exact free c o (fun z=>(hch c z).2.2.1 x c e rfl) ho (I.freeC x c e)
 ·obtain ⟨e,n,ne,nf,d⟩:=I.pin p hp;have nch:p.1 ∉ ch:=fun z=>(hch p.1 z).2.2.2 p hp rfl
  exact ⟨keep p.1 p.2 ne nf nch e n,free p.1 p.2 nch e n,ne,nf,d⟩
theorem Inv.un {t':Nat} (I:Inv X pins σ H s) (u:Un X.fs [] H H' s.heap h') (hok:HOk X.prog X.w H' h') (ht:0 < t':=by first | assumption | exact Nat.succ_pos _ | (apply Inv.tk; assumption) | omega):Inv X pins σ H' { s with heap:=h',toks:=t' }:=by
 obtain ⟨m,⟨o,es,ep,ho,r⟩,_⟩:=id I.loc;obtain ⟨sl,hL⟩:=u.any ho I.free (by simp);exact I.step (g':=s.gens) (d':=s.drawn) (ch:=[]) (fun _ z=>nomatch z) (fun b o _ hb _ e n=>u.keep b o e n hb (by simp)) (fun b o _ hb _ e n=>u.slot b o e n hb (by simp)) (fun b o _ e n=>u.free b o e n (by simp)) (fun b o _ e=>u.there b o e (by simp)) u.tups u.frzs u.tbls (fun m' hm=>by
  obtain ⟨o',es',ep',ho',r'⟩:=hm;rw [ho] at ho'; cases ho';exact ⟨_,es',ep',hL,r'⟩) hok I.bare ht
theorem Inv.call {g':Array GenState} {t':Nat} {d':Drawn} {ch:List Addr} (I:Inv X pins σ H s) (u:Un (frs X.stack) ch H H' s.heap h') (hok:HOk X.prog X.w H' h') (hg:AllBare g')
  (hch:∀ b ∈ ch,(b ∈ X.ex\/X.s₀.heap.objs.size<=b)/\b≠X.env.locals/\(∀ x c,X.env.cells.lookup x=some c->c≠b)/\∀ p ∈ X.pn++pins,p.1≠b) (ht:0 < t':=by first | assumption | exact Nat.succ_pos _ | (apply Inv.tk; assumption) | omega):
  Inv X pins σ H' { s with heap:=h',gens:=g',drawn:=d',toks:=t' }:=by
 obtain ⟨m,⟨o,es,ep,ho,r⟩,_⟩:=id I.loc;obtain ⟨sl,hL⟩:=u.any ho I.free fun z=>(hch _ z).2.1 rfl
 exact I.step (ch:=ch) hch (fun b o hL hb hc e n=>u.keep b o e n (fun z=>(List.mem_cons.mp (I.stkSub b z)).elim hL hb) hc) (fun b o _ _ hc e n=>u.any e n hc) (fun b o hc e n=>u.free b o e n hc) (fun b o hc e=>u.there b o e hc) u.tups u.frzs u.tbls (fun m' hm=>by
  obtain ⟨o',es',ep',ho',r'⟩:=hm;rw [ho] at ho'; cases ho';exact ⟨_,es',ep',hL,r'⟩) hok hg ht
theorem Inv.turned {t':Nat} {it:Addr} (I:Inv X pins σ H s) (k:∀ b o,b≠it->s.heap.get? b=some o->h'.get? b=some o) (hn:H it=none) (hL:it≠X.env.locals)
  (h1:it ∈ X.ex\/X.s₀.heap.objs.size<=it) (h2:∀ x c,X.env.cells.lookup x=some c->c≠it) (h3:∀ p ∈ X.pn++pins,p.1≠it) (ht:0 < t':=by first | assumption | exact Nat.succ_pos _ | (apply Inv.tk; assumption) | omega):Inv X pins σ H { s with heap:=h',toks:=t' }:=by
 have nit:∀ b u,H b=some u->b≠it:=fun b u e z=>by rw [z,hn] at e; cases e
 refine I.step (g':=s.gens) (d':=s.drawn) (ch:=[it]) (fun b hb=>?_) (fun b o _ _ hc e _=>k b o (fun z=>hc (by simp [z])) e) (fun b o _ _ hc e _=>⟨o.slots,k b o (fun z=>hc (by simp [z])) e⟩) (fun _ _ _ _ n=>n)
  (fun b o hc e=>⟨o,k b o (fun z=>hc (by simp [z])) e⟩) (fun _ _ e=>e) (fun _ _ _ e=>e) (fun b ps e=>⟨#[],by rw [e]; simp⟩) (fun m hm=>?_) (fun b u e=>?_) I.bare
 ·have e:b=it:=by simpa using hb
  subst e;exact ⟨h1,hL,h2,h3⟩
 ·obtain ⟨o,es,ep,ho,r⟩:=hm;exact ⟨o,es,ep,k _ o (Ne.symm hL) ho,r⟩
 ·refine (I.hok b u e).stay (fun c v hc q=>k c v ?_ q) (fun _ q=>q) fun _ _ q=>q
  rcases hc with z | z
  ·rw [z]; exact nit b u e
  ·exact nit c _ z
theorem Inv.tok (I:Inv X pins σ H s) (t:Nat) (ht:0 < t:=by first | assumption | exact Nat.succ_pos _ | (apply Inv.tk; assumption) | omega):Inv X pins σ H { s with toks:=t }:=I.un (h':=s.heap) (t':=t) Un.refl I.hok ht
theorem Inv.kept {t':Nat} (I:Inv X pins σ H s) (k:∀ b u,s.heap.get? b=some u->h'.get? b=some u) (ht:0 < t':=by first | assumption | exact Nat.succ_pos _ | (apply Inv.tk; assumption) | omega):Inv X pins σ H { s with heap:=h',toks:=t' }:=I.un (Un.kept k) (I.hok.kept k) ht
theorem Inv.laid {a:Addr} {o:HO} {t':Nat} (I:Inv X pins σ H s) (k:∀ b u,s.heap.get? b=some u->h'.get? b=some u) (hp:s.heap.objs.size<=a) (new:ObjOk X.prog X.w (upd H a o) h' a o) (ht:0 < t':=by first | assumption | exact Nat.succ_pos _ | (apply Inv.tk; assumption) | omega):
  Inv X pins σ (upd H a o) { s with heap:=h',toks:=t' }:=I.un (Un.laid k hp (I.hok.fresh hp)) (I.hok.laid k hp new) ht
theorem Inv.write {x e:Addr} {o:HO} {t':Nat} (I:Inv X pins σ H s) (mu:Mut (H x)) (he:e=x\/H e=some (.own x)) (k:∀ b u,b≠e->s.heap.get? b=some u->h'.get? b=some u) (heo:∃ u,h'.get? e=some u)
  (new:ObjOk X.prog X.w (upd H x o) h' x o) (ht:0 < t':=by first | assumption | exact Nat.succ_pos _ | (apply Inv.tk; assumption) | omega):Inv X pins σ (upd H x o) { s with heap:=h',toks:=t' }:=I.un (Un.write mu he k heo) (I.hok.write mu he k heo new) ht
theorem Inv.weak {σ':List (Option V)} (I:Inv X pins σ H s) (hl:σ'.length=σ.length) (w:∀ (i:Nat) v,σ'[i]? = some (some v)->σ[i]? = some (some v)):Inv X pins σ' H s:=
 ⟨I.ok,I.os,I.bare,I.base,let ⟨m,hn,hl'⟩:=I.loc; ⟨m,hn,fun i x v e1 e2 e3=>hl' i x v e1 (w i v e2) e3⟩,I.cell,I.free,I.freeC,I.pin,I.hok,hl.trans I.len,I.tk⟩
theorem Inv.pins_of {pins':List (Addr × Obj)} (I:Inv X pins σ H s) (h:∀ p ∈ pins',s.heap.get? p.1=some p.2/\H p.1=none/\p.1≠X.env.locals/\p.1 ∉ X.fs/\∀ v,p.2.data≠.cell v):Inv X pins' σ H s:=
 ⟨I.ok,I.os,I.bare,I.base,I.loc,I.cell,I.free,I.freeC,fun p hp=>(List.mem_append.mp hp).elim (fun z=>I.pin p (List.mem_append_left _ z)) (h p),I.hok,I.len,I.tk⟩
theorem qp {N:List Str} (hN:N.Nodup) {i j:Nat} {x:Str} (a:N[i]? = some x) (b:N[j]? = some x):i=j:=by
 obtain ⟨h1,e1⟩:=List.getElem?_eq_some_iff.mp a;obtain ⟨h2,e2⟩:=List.getElem?_eq_some_iff.mp b;exact (List.getElem_inj hN).mp (e1.trans e2.symm)
theorem oI {M:Model} {A:Around} {E:Value->Shared->Prop} {i:Nat} {x:Str} {v:V} {u:Value} {Q:Unit->Shared->Prop} (I:Inv X pins σ H s) (hN:X.N.Nodup) (hi:X.N[i]? = some x) (hx:Loc X.env.scope x) (r:RelV v u)
  (h:∀ s',Inv X pins (σ.set i (some v)) H s'->(∃ a,Heap.SameBut a s.heap s'.heap/\(a=X.env.locals\/X.env.cells.lookup x=some a))->Q () s') (hf:X.fn x=true\/X.env.scope.names.lookup x=some .local:=by first | exact .inl rfl | exact .inr rfl | assumption):wpAny M A (storeName X.env x u) Q E s:=by
 obtain ⟨m,hn,hl⟩:=id I.loc;have hcls:(X.env.scope.kind == .class || (X.env.scope.kind == .module && X.env.locals != X.env.globals))=false:=by rw [I.ok.kind]; rfl
 have hiσ:i < σ.length:=by rw [I.len]; exact (List.getElem?_eq_some_iff.mp hi).1
 have cne:=I.cne;have tracked:∀ {a:Addr} {h':Heap},(∃ o,s.heap.get? a=some o/\H a=none)->Heap.SameBut a s.heap h'->HOk X.prog X.w H h':=fun {a h'} ha hs b ob e=>by
  obtain ⟨_,_,hfree⟩:=ha;refine (I.hok b ob e).stay (fun c w' hc q=>(hs.2 c ?_).trans q) (fun _ q=>q) fun _ _ q=>q
  rintro rfl;rcases hc with rfl | hc
  ·rw [hfree] at e; cases e
  ·rw [hfree] at hc; cases hc
 rcases hx with hk | hk
 ·refine wpAny_storeName_local hk hn (fun h' hn' hs=>?_) hcls;obtain ⟨oL,_,_,hoL,_⟩:=id hn;refine h _ ⟨I.ok,I.os,I.bare,⟨fun b o e n hb hx=>?_,fun b o e n hb hx=>?_,I.base.free,fun b o e hx=>?_,I.base.tups,I.base.frzs,I.base.tbls⟩,⟨_,hn',fun j y v' e1 e2 e3=>?_⟩,fun y c e=>?_,I.free,I.freeC,fun p hp=>?_,tracked ⟨oL,hoL,I.free⟩ hs,by simpa using I.len,(by first | exact Nat.succ_pos _ | exact I.tk)⟩ ⟨_,hs,.inl rfl⟩
  ·exact (hs.2 b (Nat.ne_of_lt (Nat.lt_of_lt_of_le (Heap.lt_size e) I.ok.above))).trans (I.base.keep b o e n hb hx)
  ·obtain ⟨sl,e1⟩:=I.base.slot b o e n hb hx;exact ⟨sl,(hs.2 b (Nat.ne_of_lt (Nat.lt_of_lt_of_le (Heap.lt_size e) I.ok.above))).trans e1⟩
  ·obtain ⟨o',e1⟩:=I.base.there b o e hx;exact ⟨o',(hs.2 b (Nat.ne_of_lt (Nat.lt_of_lt_of_le (Heap.lt_size e) I.ok.above))).trans e1⟩
  ·by_cases hj:j=i
   ·subst hj;rw [hi] at e1; cases e1;rw [List.getElem?_set_self hiσ] at e2;cases e2;exact ⟨u,r,.inl ⟨hk,by simp⟩⟩
   ·rw [List.getElem?_set_ne (Ne.symm hj)] at e2;obtain ⟨u',r',q⟩:=hl j y v' e1 e2 e3;refine ⟨u',r',?_⟩;rcases q with ⟨k,e⟩ | ⟨k,c,e,z⟩
    ·refine .inl ⟨k,?_⟩;have:y≠x:=fun e=>hj (qp hN e1 (e ▸ hi))
     simp [this,e]
    ·exact .inr ⟨k,c,e,z.sameBut hs (cne y c e)⟩
  ·obtain ⟨w',z⟩:=I.cell y c e;exact ⟨w',z.sameBut hs (cne y c e)⟩
  ·obtain ⟨e,n,ne,nf,d⟩:=I.pin p hp;exact ⟨(hs.2 p.1 ne).trans e,n,ne,nf,d⟩
 ·have hfn:X.fn x=true:=by
   rcases hf with z | z
   ·exact z
   ·rw [z] at hk; cases hk
  obtain ⟨c,hc⟩:=I.ok.has x (.inl hk);obtain ⟨w',z⟩:=I.cell x c hc;refine wpAny_storeName_cell I.ok.kind hk hc z (fun h' hc' hs=>?_);obtain ⟨oc,hoc,hocd⟩:=id z;refine h { s with heap:=h' } ⟨I.ok,I.os,I.bare,⟨fun b o e n hb hx=>?_,fun b o e n hb hx=>?_,I.base.free,fun b o e hx=>?_,I.base.tups,I.base.frzs,I.base.tbls⟩,⟨m,hn.sameBut hs (Ne.symm (cne x c hc)),fun j y v' e1 e2 e3=>?_⟩,fun y c' e=>?_,I.free,I.freeC,fun p hp=>?_,tracked ⟨oc,hoc,I.freeC x c hc⟩ hs,by simpa using I.len,I.tk⟩ ⟨c,hs,.inr hc⟩
  ·exact (hs.2 b (Nat.ne_of_lt (Nat.lt_of_lt_of_le (Heap.lt_size e) (I.ok.cab x c hfn hc)))).trans (I.base.keep b o e n hb hx)
  ·obtain ⟨sl,e1⟩:=I.base.slot b o e n hb hx;exact ⟨sl,(hs.2 b (Nat.ne_of_lt (Nat.lt_of_lt_of_le (Heap.lt_size e) (I.ok.cab x c hfn hc)))).trans e1⟩
  ·obtain ⟨o',e1⟩:=I.base.there b o e hx;exact ⟨o',(hs.2 b (Nat.ne_of_lt (Nat.lt_of_lt_of_le (Heap.lt_size e) (I.ok.cab x c hfn hc)))).trans e1⟩
  ·by_cases hj:j=i
   ·subst hj;rw [hi] at e1; cases e1;rw [List.getElem?_set_self hiσ] at e2;cases e2;exact ⟨u,r,.inr ⟨.inl hk,c,hc,hc'⟩⟩
   ·rw [List.getElem?_set_ne (Ne.symm hj)] at e2;obtain ⟨u',r',q⟩:=hl j y v' e1 e2 e3;refine ⟨u',r',?_⟩;rcases q with q | ⟨k,c',e,z'⟩
    ·exact .inl q
    ·refine .inr ⟨k,c',e,z'.sameBut hs ?_⟩;rintro rfl;exact hj (qp hN e1 (I.ok.inj _ _ _ e hc ▸ hi))
  ·by_cases hcc:c'=c
   ·subst hcc; exact ⟨_,hc'⟩
   ·obtain ⟨w2,z2⟩:=I.cell y c' e;exact ⟨w2,z2.sameBut hs hcc⟩
  ·obtain ⟨e,n,ne,nf,d⟩:=I.pin p hp;refine ⟨(hs.2 p.1 ?_).trans e,n,ne,nf,d⟩;intro q;rw [q,hoc] at e;have q':oc=p.2:=Option.some.inj e;exact d w' (by rw [<- q']; exact hocd)
theorem qV {M:Model} {A:Around} {E:Value->Shared->Prop} {i:Nat} {x:Str} {v:V} {u:Value} {Q:Unit->Shared->Prop} (I:Inv X pins σ H s) (hN:X.N.Nodup) (hi:X.N[i]? = some x) (hx:Loc X.env.scope x) (r:RelV v u)
  (h:∀ s',Inv X pins (σ.set i (some v)) H s'->Q () s') (hf:X.fn x=true\/X.env.scope.names.lookup x=some .local:=by first | exact .inl rfl | exact .inr rfl | assumption):wpAny M A (storeName X.env x u) Q E s:=
 oI I hN hi hx r (fun s' I' _=>h s' I') hf
theorem Inv.call' {s':Shared} {ch:List Addr} (I:Inv X pins σ H s) (ho:s'.os=s.os) (u:Un (frs X.stack) ch H H' s.heap s'.heap) (hok:HOk X.prog X.w H' s'.heap) (hg:AllBare s'.gens)
  (hch:∀ b ∈ ch,(b ∈ X.ex\/X.s₀.heap.objs.size<=b)/\b≠X.env.locals/\(∀ x c,X.env.cells.lookup x=some c->c≠b)/\∀ p ∈ X.pn++pins,p.1≠b) (ht:0 < s'.toks:=by first | assumption | exact Nat.succ_pos _ | (apply Inv.tk; assumption) | omega):Inv X pins σ H' s':=by
 obtain ⟨h',g',d',t',o'⟩:=s';have e:o'=s.os:=ho;subst e;exact I.call (g':=g') (t':=t') (d':=d') u hok hg hch ht
end
noncomputable abbrev XK:=Value->Option Addr->Hp->Prop
noncomputable abbrev St:=List (Option V)
noncomputable abbrev VK:=V->Hp->Prop
noncomputable abbrev TE:=St->Hp->VK->Prop
noncomputable abbrev TT:=St->Hp->(Bool->Hp->Prop)->Prop
noncomputable abbrev TA:=St->Hp->(List V->Hp->Prop)->Prop
structure Ends where
 nx:St->Hp->Prop
 rt:VK
 bk:St->Hp->Prop:=fun _ _=>False
 ct:St->Hp->Prop:=fun _ _=>False
noncomputable abbrev TS:=Ends->St->Hp->Prop
def EP (X:Cx) (pins:List (Addr × Obj)) (σ:St) (Q:VK) (u:Value) (s':Shared):Prop:=∃ v H',Inv X pins σ H' s'/\RelV v u/\Q v H'
def TP (X:Cx) (pins:List (Addr × Obj)) (σ:St) (Q:Bool->Hp->Prop) (b:Bool) (s':Shared):Prop:=∃ H',Inv X pins σ H' s'/\Q b H'
def AP (X:Cx) (pins:List (Addr × Obj)) (σ:St) (Q:List V->Hp->Prop) (us:List Value) (s':Shared):Prop:=∃ vs H',Inv X pins σ H' s'/\Vals vs us/\Q vs H'
def SP (X:Cx) (pins:List (Addr × Obj)) (D:Ends) (f:Flow) (s':Shared):Prop:=
 match f with
 | .next=>∃ σ' H',Inv X pins σ' H' s'/\D.nx σ' H'
 | .brk=>∃ σ' H',Inv X pins σ' H' s'/\D.bk σ' H'
 | .cont=>∃ σ' H',Inv X pins σ' H' s'/\D.ct σ' H'
 | .ret u=>∃ v σ' H',Inv X pins σ' H' s'/\RelV v u/\D.rt v H'
def PE (X:Cx) (e:Expr) (t:TE):Prop:=
 ∀ (pins:List (Addr × Obj)) (s:Shared) (σ:St) (H:Hp) (Q:VK),Inv X pins σ H s->t σ H Q->wpAny (model X.prog X.w) X.A (eval e X.env) (EP X pins σ Q) X.xe s
def PT (X:Cx) (e:Expr) (t:TT):Prop:=
 ∀ (pins:List (Addr × Obj)) (s:Shared) (σ:St) (H:Hp) (Q:Bool->Hp->Prop),Inv X pins σ H s->t σ H Q->wpAny (model X.prog X.w) X.A (isTrue e X.env (eval e X.env)) (TP X pins σ Q) X.xe s
def PW (X:Cx) (e:Expr) (t:TT):Prop:=
 ∀ (whole:Sem Value) (pins:List (Addr × Obj)) (s:Shared) (σ:St) (H:Hp) (Q:Bool->Hp->Prop),Inv X pins σ H s->t σ H Q->wpAny (model X.prog X.w) X.A (isTrue e X.env whole) (TP X pins σ Q) X.xe s
theorem PW.pt {X:Cx} {e:Expr} {t:TT} (h:PW X e t):PT X e t:=h _
def PA (X:Cx) (es:List Expr) (t:TA):Prop:=
 ∀ (pos:Pos) (pins:List (Addr × Obj)) (s:Shared) (σ:St) (H:Hp) (Q:List V->Hp->Prop),Inv X pins σ H s->t σ H Q->wpAny (model X.prog X.w) X.A (spliced (backTo pos (starEach es X.env))) (AP X pins σ Q) X.xe s
def PS (X:Cx) (st:Stmt) (t:TS):Prop:=
 ∀ (pins:List (Addr × Obj)) (s:Shared) (σ:St) (H:Hp) (D:Ends),Inv X pins σ H s->t D σ H->wpAny (model X.prog X.w) X.A (exec st X.env) (SP X pins D) X.xe s
def PSs (X:Cx) (st:List Stmt) (t:TS):Prop:=
 ∀ (pins:List (Addr × Obj)) (s:Shared) (σ:St) (H:Hp) (D:Ends),Inv X pins σ H s->t D σ H->wpAny (model X.prog X.w) X.A (execs st X.env) (SP X pins D) X.xe s
theorem thn {α:Type} {t:Sem α} {Q Q':α -> Shared->Prop} {M:Model} {A:Around} {E:Value->Shared->Prop} {s:Shared} (h:wpAny M A t Q E s) (hQ:∀ a s,Q a s->Q' a s):wpAny M A t Q' E s:=wpAny_mono h hQ fun _ _ x=>x
theorem tokQ {α:Type} {t:Sem α} {Q:α -> Shared->Prop} {M:Model} {A:Around} {E:Value->Shared->Prop} {s:Shared} (h0:0 < s.toks) (h:wpAny M A t (fun a s'=>0 < s'.toks->Q a s') E s):wpAny M A t Q E s:=
 wpAny_mono (wpAny_toks_of (n:=1) h0 h) (fun _ _ z=>z.2 z.1) fun _ _ z=>z.2
section
variable {X:Cx}
noncomputable def tVar (i:Nat):TE:=fun σ H Q=>∃ v,σ[i]? = some (some v)/\Q v H
noncomputable def tC (v:V):TE:=fun _ H Q=>Q v H
theorem wA {i:Nat} {x:Str} {pos:Pos} (hN:X.N[i]? = some x) (hv:Vis X.env.scope x) (hd:(x == ("__debug__" : Str))=false:=by decide) (hcd:(x == ("__classdict__" : Str))=false:=by decide):PE X (.Name x pos) (tVar i):=by
 intro pins s σ H Q I h;obtain ⟨v,e,h⟩:=h;obtain ⟨m,hn,hl⟩:=I.loc;obtain ⟨u,r,l⟩:=hl i x v hN e hv;have fin:EP X pins σ Q u s:=⟨v,H,I,r,h⟩;rcases l with ⟨hk,hm⟩ | ⟨hk,c,hc,hcell⟩
 ·exact wpAny_Name (wpAny_loadName_local I.ok.kind hk hn hm fin) hd
 ·rcases hk with hk | hk
  ·exact wpAny_Name (wpAny_loadName_cell I.ok.kind hk hc hcell fin) hd
  ·exact wpAny_Name (wpAny_loadName_free I.ok.kind hk hc hcell fin hcd) hd
theorem ad {i j pos}:PE X (.Constant (.int i) j pos) (tC (.int i)):=fun _ _ _ H _ I h=>wpAny_Constant_int ⟨.int i,H,I.tok _,⟨_,rfl⟩,h⟩
theorem eB {b j pos}:PE X (.Constant (.bool b) j pos) (tC (.bl b)):=fun _ _ _ H _ I h=>Constant_bool ⟨.bl b,H,I,rfl,h⟩
theorem kD {j pos}:PE X (.Constant .none j pos) (tC .non):=fun _ _ _ H _ I h=>Constant_none ⟨.non,H,I,rfl,h⟩
theorem wG {x j pos}:PE X (.Constant (.str x) j pos) (tC (.str x)):=fun _ _ _ H _ I h=>Calls.Constant_str ⟨.str x,H,I.tok _,⟨_,rfl⟩,h⟩
def Gl (X:Cx) (x:Str):Prop:=X.env.kindOf x=some .globalImplicit
theorem ud {E:Value->Shared->Prop} {pins:List (Addr × Obj)} {s:Shared} {σ:St} {H:Hp} {x:Str} {u:Value} {pos:Pos} {Q:Value->Shared->Prop} (I:Inv X pins σ H s) (hg:Gl X x) (hm:X.mg x=some u) (h:Q u s)
  (hd:(x == ("__debug__" : Str))=false:=by decide):wpAny (model X.prog X.w) X.A (eval (.Name x pos) X.env) Q E s:=
 Calls.Name_function_global I.ok.kind hg (Calls.loadGlobal_global (by rw [I.ok.glob]; exact I.mod.glob.keeps I.bk) hm h) hd
theorem cR {E:Value->Shared->Prop} {pins:List (Addr × Obj)} {s:Shared} {σ:St} {H:Hp} {x:Str} {u:Value} {pos:Pos} {Q:Value->Shared->Prop} (I:Inv X pins σ H s) (hg:Gl X x) (hm:X.mg x=none) (hv:bootBuiltins x=some u) (h:Q u s)
  (hn:x ≠ "__name__" := by decide) (hd:(x == ("__debug__" : Str))=false:=by decide):wpAny (model X.prog X.w) X.A (eval (.Name x pos) X.env) Q E s:=by
 obtain ⟨mb,h1,h2⟩:=I.mod.blt;exact Calls.Name_function_global I.ok.kind hg (Calls.loadGlobal_builtin (by rw [I.ok.glob]; exact I.mod.glob.keeps I.bk) hm (by rw [I.ok.blt]; exact h1.keeps I.bk) ((h2 x hn).trans hv) h) hd
theorem yk {x:Str} {v:V} {u:Value} {pos:Pos} (hg:Gl X x) (hm:X.mg x=none) (hv:bootBuiltins x=some u) (r:RelV v u) (hn:x ≠ "__name__" := by decide) (hd:(x == ("__debug__" : Str))=false:=by decide):PE X (.Name x pos) (tC v):=
 fun _ _ _ H _ I h=>cR I hg hm hv ⟨v,H,I,r,h⟩ hn hd
variable {a b:Expr} {ta tb:TE} {pos:Pos}
noncomputable def tB (t:TE):TT:=fun σ H Q=>t σ H fun x H1=>∃ c,x=.bl c/\Q c H1
theorem Aw {e:Expr} {t:TE} (h:PE X e t) (he:∀ whole,isTrue e X.env whole=(do let v <- whole; standAt e.pos; holding [v] (truthy v)):=by intro _; rfl):PT X e (tB t):=by
 intro pins s σ H Q I hw;refine isTrue_plain (thn (h pins s σ H _ I hw) fun v s1 ⟨x,H1,I1,r1,q1⟩=>?_) (he _);obtain ⟨d,rfl,q⟩:=q1;cases r1;exact wpAny_truthy_bool ⟨H1,I1,q⟩
variable {tA tB':TT} {rest:List Expr}
noncomputable def tAnd (t u:TT):TT:=fun σ H Q=>t σ H fun c H1=>if c=true then u σ H1 Q else Q false H1
noncomputable def tOr (t u:TT):TT:=fun σ H Q=>t σ H fun c H1=>if c=true then Q true H1 else u σ H1 Q
noncomputable def tNot (t:TT):TT:=fun σ H Q=>t σ H fun c H1=>Q (!c) H1
theorem gr (ha:PT X a tA):PW X (.BoolOp .And [a] pos) tA:=by
 intro wh pins s σ H Q I h;refine isTrue_and (thn (ha pins s σ H Q I h) fun c s1 e=>?_);cases c with
 | true=>exact isTrue_and_nil e
 | false=>exact e
theorem pK (ha:PT X a tA):PW X (.BoolOp .Or [a] pos) tA:=by
 intro wh pins s σ H Q I h;refine isTrue_or (thn (ha pins s σ H Q I h) fun c s1 e=>?_);cases c with
 | false=>exact isTrue_or_nil e
 | true=>exact e
theorem fB (ha:PT X a tA) (hb:PW X (.BoolOp .And (b::rest) pos) tB'):PW X (.BoolOp .And (a::b::rest) pos) (tAnd tA tB'):=by
 intro wh pins s σ H Q I h;refine isTrue_and (thn (ha pins s σ H _ I h) fun c s1 ⟨H1,I1,q1⟩=>?_);cases c with
 | true=>exact hb wh pins s1 σ H1 Q I1 q1
 | false=>exact ⟨H1,I1,q1⟩
theorem oF (ha:PT X a tA) (hb:PW X (.BoolOp .Or (b::rest) pos) tB'):PW X (.BoolOp .Or (a::b::rest) pos) (tOr tA tB'):=by
 intro wh pins s σ H Q I h;refine isTrue_or (thn (ha pins s σ H _ I h) fun c s1 ⟨H1,I1,q1⟩=>?_);cases c with
 | true=>exact ⟨H1,I1,q1⟩
 | false=>exact hb wh pins s1 σ H1 Q I1 q1
theorem fz (ha:PT X a tA):PT X (.UnaryOp .Not a pos) (tNot tA):=by
 intro pins s σ H Q I h;exact isTrue_not (ha pins s σ H (fun c H1=>Q (!c) H1) I h)
noncomputable def tAndV (ta tb:TE):TE:=fun σ H Q=>ta σ H fun x H1=>∃ c,x=.bl c/\if c=true then tb σ H1 Q else Q (.bl false) H1
noncomputable def tOrV (ta tb:TE):TE:=fun σ H Q=>ta σ H fun x H1=>∃ c,x=.bl c/\if c=true then Q (.bl true) H1 else tb σ H1 Q
theorem jb {op} {t:TE} (h:PE X a t):PE X (.BoolOp op [a] pos) t:=fun pins s σ H Q I hw=>BoolOp_one (h pins s σ H Q I hw)
theorem zv (ha:PE X a ta) (hb:PE X (.BoolOp .And (b::rest) pos) tb):PE X (.BoolOp .And (a::b::rest) pos) (tAndV ta tb):=by
 intro pins s σ H Q I h;refine BoolOp_and (thn (ha pins s σ H _ I h) fun v s1 ⟨x,H1,I1,r1,q1⟩=>?_);obtain ⟨c,rfl,q1⟩:=q1;cases r1;refine wpAny_truthy_bool ?_;cases c with
 | true=>exact hb pins s1 σ H1 Q I1 q1
 | false=>exact ⟨.bl false,H1,I1,rfl,q1⟩
theorem A5 (ha:PE X a ta) (hb:PE X (.BoolOp .Or (b::rest) pos) tb):PE X (.BoolOp .Or (a::b::rest) pos) (tOrV ta tb):=by
 intro pins s σ H Q I h;refine BoolOp_or (thn (ha pins s σ H _ I h) fun v s1 ⟨x,H1,I1,r1,q1⟩=>?_);obtain ⟨c,rfl,q1⟩:=q1;cases r1;refine wpAny_truthy_bool ?_;cases c with
 | false=>exact hb pins s1 σ H1 Q I1 q1
 | true=>exact ⟨.bl true,H1,I1,rfl,q1⟩
noncomputable def tIf (t:TT) (ta tb:TE):TE:=fun σ H Q=>t σ H fun c H1=>if c=true then ta σ H1 Q else tb σ H1 Q
theorem dm {c:Expr} (hc:PT X c tA) (ha:PE X a ta) (hb:PE X b tb):PE X (.IfExp c a b pos) (tIf tA ta tb):=by
 intro pins s σ H Q I h;refine wpAny_IfExp (thn (hc pins s σ H _ I h) fun d s1 ⟨H1,I1,q1⟩=>?_);cases d with
 | true=>exact ha pins s1 σ H1 Q I1 q1
 | false=>exact hb pins s1 σ H1 Q I1 q1
end
def SqL (K:Frag) (H:Hp) (a:Addr) (xs:List V):Prop:=
 Rd H a (.lst xs) \/
  ∃ (o:Obj) (its:Array Value) (n:Nat),K.lookup a=some o/\o.cls=.type "list" /\ o.dict=none/\o.data=.seq its n/\its.size<=sizeLine/\Vals xs its.toList
def SqT (K:Frag) (H:Hp) (a:Addr) (xs:List V):Prop:=
 Rd H a (.tup xs) \/
  ∃ (o:Obj) (its:Array Value) (n:Nat),K.lookup a=some o/\o.cls=.type "tuple" /\ o.data=.seq its n/\its.size<=sizeLine/\Vals xs its.toList
noncomputable def absV:Value->Option V
 | .none=>some .non
 | .bool b=>some (.bl b)
 | .int i _=>some (.int i)
 | .str x _=>some (.str x)
 | .bytes b _=>some (.byt b)
 | .float b _=>some (.flt b)
 | .ref a=>some (.ref a)
 | .type n=>some (.ty n)
 | _=>none
theorem RelV.abs {x:V} {u:Value} (r:RelV x u):absV u=some x:=by
 cases x with
 | non=>cases r; rfl
 | bl _=>cases r; rfl
 | int _=>obtain ⟨t,rfl⟩:=r; rfl
 | str _=>obtain ⟨t,rfl⟩:=r; rfl
 | byt _=>obtain ⟨t,rfl⟩:=r; rfl
 | flt _=>obtain ⟨t,rfl⟩:=r; rfl
 | ref _=>cases r; rfl
 | ty _=>cases r; rfl
theorem RelV.inj {x y:V} {u:Value} (r:RelV x u) (q:RelV y u):x=y:=Option.some.inj (r.abs.symm.trans q.abs)
theorem Vals.inj:∀ {xs ys:List V} {us:List Value},Vals xs us->Vals ys us->xs=ys
 | _,_,_,.nil,.nil=>rfl
 | _,_,_,.cons r t,.cons r' t'=>by rw [r.inj r',Vals.inj t t']
section
variable {X:Cx} {pins:List (Addr × Obj)} {σ:St} {H:Hp} {s:Shared} {a:Addr} {xs ys:List V}
theorem SqL.of {K:Frag} (h:H a=some (.lst xs)):SqL K H a xs:=.inl (.inl h)
theorem SqT.of {K:Frag} (h:H a=some (.tup xs)):SqT K H a xs:=.inl (.inl h)
theorem Inv.list (I:Inv X pins σ H s) (h:SqL X.K H a xs):∃ its:List Value,Vals xs its/\PlainL s.heap a its.toArray/\xs.length<=sizeLine:=by
 rcases h with h | ⟨o,its,n,hk,hc,hd,hs,hz,r⟩
 ·obtain ⟨z,its,n,r,e⟩:=h.ok I.hok;exact ⟨its,r,⟨_,n,e,rfl,rfl,rfl⟩,z⟩
 ·refine ⟨its.toList,r,⟨o,n,I.kIn a o hk,hc,hd,by simpa using hs⟩,?_⟩;have e:=r.length;simp only [Array.length_toList] at e;omega
theorem Inv.tuple (I:Inv X pins σ H s) (h:SqT X.K H a xs):∃ its:List Value,Vals xs its/\IsTup s.heap a its.toArray/\xs.length<=sizeLine:=by
 rcases h with h | ⟨o,its,n,hk,hc,hs,hz,r⟩
 ·obtain ⟨z,its,r,p⟩:=h.ok I.hok;exact ⟨its,r,p,z⟩
 ·refine ⟨its.toList,r,⟨o,I.kIn a o hk,hc,n,by simpa using hs⟩,?_⟩;have e:=r.length;simp only [Array.length_toList] at e;omega
theorem Inv.list_inj (I:Inv X pins σ H s) (h:SqL X.K H a xs) (h':SqL X.K H a ys):xs=ys:=by
 obtain ⟨its,r,⟨o,n,e,_,_,d⟩,_⟩:=I.list h;obtain ⟨its',r',⟨o',n',e',_,_,d'⟩,_⟩:=I.list h';rw [e] at e'; cases e';rw [d] at d';injection d' with d1 _
 have:its=its':=by simpa using congrArg Array.toList d1
 subst this;exact r.inj r'
theorem Inv.tuple_inj (I:Inv X pins σ H s) (h:SqT X.K H a xs) (h':SqT X.K H a ys):xs=ys:=by
 obtain ⟨its,r,⟨o,e,_,n,d⟩,_⟩:=I.tuple h;obtain ⟨its',r',⟨o',e',_,n',d'⟩,_⟩:=I.tuple h';rw [e] at e'; cases e';rw [d] at d';injection d' with d1 _
 have:its=its':=by simpa using congrArg Array.toList d1
 subst this;exact r.inj r'
end
noncomputable abbrev Cx.wish (X:Cx) (E:Value->Shared->Prop):Cx:={ X with xe:=E }
noncomputable abbrev Cx.nox (X:Cx):Cx:=X.wish fun _ _=>False
theorem Cx.Ok.wish {X:Cx} (ok:X.Ok) (E:Value->Shared->Prop):(X.wish E).Ok:=
 ⟨ok.mod,ok.kind,ok.glob,ok.blt,ok.above,ok.inj,ok.has,ok.cab,ok.hd,ok.frames,ok.stk,ok.exf,ok.bs,ok.bsz,ok.noex,ok.exfs,ok.funs,ok.frf⟩
theorem Cx.Ok.unwish {X:Cx} {E:Value->Shared->Prop} (ok:(X.wish E).Ok):X.Ok:=
 ⟨ok.mod,ok.kind,ok.glob,ok.blt,ok.above,ok.inj,ok.has,ok.cab,ok.hd,ok.frames,ok.stk,ok.exf,ok.bs,ok.bsz,ok.noex,ok.exfs,ok.funs,ok.frf⟩
section
variable {X:Cx} {pins:List (Addr × Obj)} {σ:St} {H:Hp} {s:Shared} {E:Value->Shared->Prop}
theorem Inv.wish (I:Inv X pins σ H s) (E:Value->Shared->Prop):Inv (X.wish E) pins σ H s:=⟨I.ok.wish E,I.os,I.bare,I.base,I.loc,I.cell,I.free,I.freeC,I.pin,I.hok,I.len,I.tk⟩
theorem Inv.unwish (I:Inv (X.wish E) pins σ H s):Inv X pins σ H s:=⟨I.ok.unwish,I.os,I.bare,I.base,I.loc,I.cell,I.free,I.freeC,I.pin,I.hok,I.len,I.tk⟩
theorem SP.unwish {D:Ends} {f:Flow} {s':Shared} (h:SP (X.wish E) pins D f s'):SP X pins D f s':=by
 cases f with
 | next=>obtain ⟨σ',H',I,q⟩:=h; exact ⟨σ',H',I.unwish,q⟩
 | brk=>obtain ⟨σ',H',I,q⟩:=h; exact ⟨σ',H',I.unwish,q⟩
 | cont=>obtain ⟨σ',H',I,q⟩:=h; exact ⟨σ',H',I.unwish,q⟩
 | ret u=>obtain ⟨v,σ',H',I,r,q⟩:=h; exact ⟨v,σ',H',I.unwish,r,q⟩
theorem PSs.nox {st:List Stmt} {t:TS} (h:PSs X.nox st t):PSs X st t:=fun pins s σ H D I hw=>
 wpAny_mono (h pins s σ H D (I.wish _) hw) (fun _ _ q=>q.unwish) fun _ _ z=>False.elim z
end
section
variable {X:Cx} {st:Stmt} {rest:List Stmt} {t u:TS} {e:Expr} {te:TE} {pos:Pos}
noncomputable def tNext:TS:=fun D σ H=>D.nx σ H
noncomputable def tSeq (t u:TS):TS:=fun D σ H=>t { D with nx:=u D } σ H
theorem av:PSs X [] tNext:=fun _ _ σ H _ I h=>wpAny_execs_nil ⟨σ,H,I,h⟩
theorem ac (h1:PS X st t) (h2:PSs X rest u):PSs X (st::rest) (tSeq t u):=by
 intro pins s σ H D I h;refine wpAny_execs_cons (thn (h1 pins s σ H { D with nx:=u D } I h) fun f s1 q=>?_);cases f with
 | next=>
  obtain ⟨σ',H',I',q⟩:=q;exact h2 pins s1 σ' H' D I' q
 | ret v=>exact q
 | brk=>exact q
 | cont=>exact q
theorem af (h1:PS X st t):PSs X [st] t:=by
 intro pins s σ H D I h;refine wpAny_execs_cons (thn (h1 pins s σ H D I h) fun f s1 q=>?_);cases f with
 | next=>exact wpAny_execs_nil q
 | ret v=>exact q
 | brk=>exact q
 | cont=>exact q
noncomputable def tBreak:TS:=fun D σ H=>D.bk σ H
theorem wq:PS X (.Break pos) tBreak:=fun _ _ σ H _ I h=>wpAny_Break ⟨σ,H,I,h⟩
theorem Inv.quiet {pins:List (Addr × Obj)} {σ:St} {H:Hp} {s:Shared} (I:Inv X pins σ H s):interactive X.env=false:=by simp [interactive,I.ok.kind]
noncomputable def tDrop (te:TE):TS:=fun D σ H=>te σ H fun _ H1=>D.nx σ H1
theorem bQ (he:PE X e te) (hs:swapsWith e none pos.line X.env=pure false:=by rfl):PS X (.Expr e pos) (tDrop te):=by
 intro pins s σ H D I h;exact wpAny_Expr_any (thn (he pins s σ H _ I h) fun v s1 ⟨x,H1,I1,r1,q1⟩=>⟨σ,H1,I1,q1⟩) I.quiet hs
noncomputable def tRet (te:TE):TS:=fun D σ H=>te σ H D.rt
theorem aq (he:PE X e te):PS X (.Return (some e) pos) (tRet te):=by
 intro pins s σ H D I h;exact wpAny_Return_some (thn (he pins s σ H _ I h) fun v s1 ⟨x,H1,I1,r1,q1⟩=>⟨x,σ,H1,I1,r1,q1⟩)
noncomputable def tRetN:TS:=fun D _ H=>D.rt .non H
theorem ze:PS X (.Return none pos) tRetN:=fun _ _ σ H _ I h=>wpAny_Return_none ⟨.non,σ,H,I,rfl,h⟩
noncomputable def tIfS (c:TT) (t u:TS):TS:=fun D σ H=>c σ H fun b H1=>if b=true then t D σ H1 else u D σ H1
theorem aJ {c:Expr} {a b:List Stmt} {tc:TT} (hc:PT X c tc) (ha:PSs X a t) (hb:PSs X b u):PS X (.If c a b pos) (tIfS tc t u):=by
 intro pins s σ H D I h;refine wpAny_If (thn (hc pins s σ H _ I h) fun d s1 ⟨H1,I1,q1⟩=>?_);cases d with
 | true=>exact ha pins s1 σ H1 D I1 q1
 | false=>exact hb pins s1 σ H1 D I1 q1
end
noncomputable abbrev TG:=V->St->Hp->(St->Hp->Prop)->Prop
noncomputable abbrev TGs:=List V->St->Hp->(St->Hp->Prop)->Prop
def PG (X:Cx) (target:Expr) (t:TG):Prop:=
 ∀ (pins:List (Addr × Obj)) (s:Shared) (σ:St) (H:Hp) (v:V) (u:Value) (Q:St->Hp->Prop),Inv X pins σ H s->RelV v u->t v σ H Q ->
  wpAny (model X.prog X.w) X.A (assign target X.env u) (fun _ s'=>∃ σ' H',Inv X pins σ' H' s'/\Q σ' H') X.xe s
def PGs (X:Cx) (ts:List Expr) (t:TGs):Prop:=
 ∀ (pins:List (Addr × Obj)) (s:Shared) (σ:St) (H:Hp) (vs:List V) (us:List Value) (Q:St->Hp->Prop),Inv X pins σ H s->Vals vs us->t vs σ H Q ->
  wpAny (model X.prog X.w) X.A (assignInOrder ((assignEach ts X.env).map (·.2)) us) (fun _ s'=>∃ σ' H',Inv X pins σ' H' s'/\Q σ' H') X.xe s
noncomputable abbrev TSet:=V->V->V->Hp->(Hp->Prop)->Prop
def PSet (X:Cx) (t:TSet):Prop:=
 ∀ (pins:List (Addr × Obj)) (s:Shared) (σ:St) (H:Hp) (o i v:V) (ov iv u:Value) (Q:Hp->Prop),Inv X pins σ H s->RelV o ov->RelV i iv->RelV v u->t o i v H Q ->
  wpAny (model X.prog X.w) X.A (setItem ov iv u) (fun _ s'=>∃ H',Inv X pins σ H' s'/\Q H') X.xe s
section
variable {X:Cx} {pos:Pos}
noncomputable def gName (i:Nat):TG:=fun v σ H Q=>Q (σ.set i (some v)) H
theorem ag {i:Nat} {x:Str} (hN:X.N.Nodup) (hi:X.N[i]? = some x) (hx:Loc X.env.scope x) (hf:X.fn x=true\/X.env.scope.names.lookup x=some .local:=by first | exact .inl rfl | exact .inr rfl | assumption):PG X (.Name x pos) (gName i):=by
 intro pins s σ H v u Q I r h;exact wpAny_assign_Name (qV I hN hi hx r (fun s' I'=>⟨_,H,I',h⟩) hf)
noncomputable def gNil:TGs:=fun vs σ H Q=>vs=[]/\Q σ H
noncomputable def gCons (t:TG) (u:TGs):TGs:=fun vs σ H Q=>∃ v r,vs=v::r/\t v σ H fun σ' H'=>u r σ' H' Q
theorem aP:PGs X [] gNil:=by
 intro pins s σ H vs us Q I r h;obtain ⟨e,h⟩:=h;subst e;cases r;exact assignInOrder_nil ⟨σ,H,I,h⟩
theorem ap {e:Expr} {es:List Expr} {t:TG} {u:TGs} (h1:PG X e t) (h2:PGs X es u)
  (hs:(assignEach (e::es) X.env).map (·.2)=assign e X.env::(assignEach es X.env).map (·.2):=by rfl):PGs X (e::es) (gCons t u):=by
 intro pins s σ H vs us Q I r h;obtain ⟨v,vr,e1,h⟩:=h;subst e1;cases r with
 | cons r rr=>
  rw [hs];refine assignInOrder_cons (thn (h1 pins s σ H _ _ _ I r h) fun _ s1 ⟨σ1,H1,I1,q1⟩=>?_);exact h2 pins s1 σ1 H1 _ _ Q I1 rr q1
noncomputable def gTup (K:Frag) (n:Nat) (t:TGs):TG:=fun v σ H Q=>∃ a xs,v=.ref a/\SqT K H a xs/\xs.length=n/\t xs σ H Q
theorem wW {es:List Expr} {k:Nat} {t:TGs} {n:Nat} (hc:X.calm=true) (h:PGs X es t)
  (hn:(assignEach es X.env).length=n:=by rfl) (hst:(assignEach es X.env).findIdx? (·.1)=none:=by rfl):PG X (.Tuple es k pos) (gTup X.K n t):=by
 intro pins s σ H v u Q I r hw;obtain ⟨a,xs,e1,hq,hl,hw⟩:=hw;subst e1;cases r;obtain ⟨its,rv,ht,hz⟩:=I.tuple hq;refine assign_Tuple_tuple (I.ok.hd hc) ht (by simp [hn,<- hl,rv.length]) hst fun h' hx=>?_
 have I1:Inv X pins σ H { s with heap:=h' }:=I.kept (t':=s.toks) fun b o e=>hx b o (Nat.ne_of_lt (Heap.lt_size e)) e
 exact h pins _ σ H xs _ Q I1 (by simpa using rv) hw
noncomputable def gSub (to ti:TE) (t:TSet):TG:=fun v σ H Q=>to σ H fun o H1=>ti σ H1 fun i H2=>t o i v H2 fun H3=>Q σ H3
theorem rF {o i:Expr} {to ti:TE} {t:TSet} (ho:PE X o to) (hi:PE X i ti) (hs:PSet X t)
  (ha:∀ v,assign (.Subscript o i pos) X.env v=(do
   let ov <- holding [v] (eval o X.env)
   let iv <- holding [v,ov] (eval i X.env)
   standAt pos
   holding [v,ov,iv] (setItem ov iv v)
   release [v,ov,iv] []):=by intro _; rfl):PG X (.Subscript o i pos) (gSub to ti t):=by
 intro pins s σ H v u Q I r h;rw [ha];refine wpAny_bind (wpAny_holding (thn (ho pins s σ H _ I h) fun ov s1 ⟨x,H1,I1,r1,q1⟩=>?_));refine wpAny_bind (wpAny_holding (thn (hi pins s1 σ H1 _ I1 q1) fun iv s2 ⟨y,H2,I2,r2,q2⟩=>?_));refine wpAny_bind (wpAny_standAt (wpAny_bind (wpAny_holding (thn (hs pins s2 σ H2 x y v ov iv u _ I2 r1 r2 r q2) fun _ s3 ⟨H3,I3,q3⟩=>?_))));exact wpAny_release ⟨σ,H3,I3,q3⟩
noncomputable def tAsg (te:TE) (g:TG):TS:=fun D σ H=>te σ H fun x H1=>g x σ H1 D.nx
theorem jf {tg e:Expr} {te:TE} {g:TG} (he:PE X e te) (hg:PG X tg g) (hs:swapsWithSole [tg] e pos.line X.env=pure false:=by rfl) (hw:swappedStores [tg] e X.env=pure none:=by rfl)
  (h1:(assignEach [tg] X.env).map (·.2)=[assign tg X.env]:=by rfl):PS X (.Assign [tg] e pos) (tAsg te g):=by
 intro pins s σ H D I h;refine wpAny_Assign_stores (thn (he pins s σ H _ I h) fun v s1 ⟨x,H1,I1,r1,q1⟩=>?_) hs hw;rw [h1];exact thn (hg pins s1 σ H1 x v _ I1 r1 q1) fun _ s2 q=>q
theorem ai {i:Nat} {x:Str} {e:Expr} {te:TE} {pos':Pos} (hN:X.N.Nodup) (hi:X.N[i]? = some x) (hx:Loc X.env.scope x) (he:PE X e te) (hs:swapsWith e (some (.Name x pos')) pos.line X.env=pure false:=by rfl) (hf:X.fn x=true\/X.env.scope.names.lookup x=some .local:=by first | exact .inl rfl | exact .inr rfl | assumption):
  PS X (.Assign [.Name x pos'] e pos) (tAsg te (gName i)):=by
 intro pins s σ H D I h;refine wpAny_Assign_Name (thn (he pins s σ H _ I h) fun v s1 ⟨y,H1,I1,r1,q1⟩=>?_) hs;exact qV I1 hN hi hx r1 (fun s2 I2=>⟨_,H1,I2,q1⟩) hf
end
section
variable {X:Cx} {pos:Pos}
noncomputable def tWhile (c:TT) (tb:TS):TS:=fun D σ H=>∃ W:Nat->St->Hp->Prop,(∃ m,W m σ H)/\∀ m σ H,W m σ H ->
 c σ H fun b H1=>if b=true then ∃ N:St->Hp->Prop,(∀ σ' H',N σ' H'->∃ m',m' < m/\W m' σ' H')/\tb { D with nx:=N,ct:=N,bk:=D.nx } σ H1 else D.nx σ H1
theorem xa {c:Expr} {body:List Stmt} {tc:TT} {tb:TS} (hp:PassesOwn (model X.prog X.w) X.A X.env X.xe) (hc:PT X c tc) (hb:PSs X body tb):PS X (.While c body [] pos) (tWhile tc tb):=by
 intro pins s σ H D I h;obtain ⟨W,⟨m0,w0⟩,turn⟩:=h;refine wpAny_While (codeAny_whileLoop (fun n s'=>∃ σ' H',Inv X pins σ' H' s'/\W n σ' H') ?_ m0 ⟨σ,H,I,w0⟩);rintro n s1 ⟨σ1,H1,I1,w1⟩;refine wpAny_passesOwn hp (thn (hc pins s1 σ1 H1 _ I1 (turn n σ1 H1 w1)) fun b s2 ⟨H2,I2,q2⟩=>?_);cases b with
 | true=>
  obtain ⟨N,hN,q2⟩:=q2;rw [if_pos rfl];refine wpAny_passesOwn hp (thn (hb pins s2 σ1 H2 _ I2 q2) fun f s3 q3=>?_);cases f with
  | next=>
   obtain ⟨σ3,H3,I3,n3⟩:=q3;obtain ⟨m',hm,w3⟩:=hN σ3 H3 n3;exact ⟨m',hm,σ3,H3,I3,w3⟩
  | cont=>
   obtain ⟨σ3,H3,I3,n3⟩:=q3;obtain ⟨m',hm,w3⟩:=hN σ3 H3 n3;exact ⟨m',hm,σ3,H3,I3,w3⟩
  | brk=>exact q3
  | ret v=>exact q3
 | false=>
  rw [if_neg Bool.false_ne_true];exact wpAny_execs_nil ⟨σ1,H2,I2,q2⟩
end
structure It where
 go:Nat->Hp->Prop
 yld:Nat->Hp->V->Hp->Prop
 stop:Nat->Hp->Prop
def FpOk (X:Cx) (pins:List (Addr × Obj)) (H:Hp) (b:Addr):Prop:=
 H b=none/\b≠X.env.locals/\b ∉ X.fs/\(b ∈ X.ex\/X.s₀.heap.objs.size<=b)/\(∀ x c,X.env.cells.lookup x=some c->c≠b)/\∀ p ∈ X.pn++pins,p.1≠b
theorem Inv.fpOk {X:Cx} {pins:List (Addr × Obj)} {σ:St} {H H':Hp} {s:Shared} {b:Addr} (I:Inv X pins σ H s) (hb:s.heap.objs.size<=b) (hn:H' b=none):FpOk X pins H' b:=by
 refine ⟨hn,Nat.ne_of_gt (Nat.lt_of_lt_of_le I.lt hb),I.nofs hb,.inr (Nat.le_trans I.sz hb),fun x c e z=>?_,fun p hp z=>?_⟩
 ·obtain ⟨v,q⟩:=I.cell x c e;exact absurd (Nat.lt_of_lt_of_le q.lt (by rw [z]; exact hb)) (Nat.lt_irrefl _)
 ·exact absurd (Nat.lt_of_lt_of_le (Heap.lt_size (I.pin p hp).1) (by rw [z]; exact hb)) (Nat.lt_irrefl _)
structure Turn (P:Program) (w:World) (K:Frag) (tg:Expr) (J:It) (fp:List Addr) (it:Addr) (tn:Nat->Heap->Prop):Prop where
 mem:it ∈ fp
 obj:∀ i h,tn i h->∀ b ∈ fp,∃ o,h.get? b=some o/\∀ v,o.data≠.cell v
 keep:∀ i h h',tn i h->(∀ b ∈ fp,∀ o,h.get? b=some o->h'.get? b=some o)->tn i h'
 item:∀ (X:Cx),X.prog=P->X.w=w->X.K=K->X.calm=true->∀ (i:Nat) (pins:List (Addr × Obj)) (s:Shared) (σ:St) (H:Hp) (E:Value->Shared->Prop),Inv X pins σ H s->(∀ b ∈ fp,FpOk X pins H b)->tn i s.heap->J.go i H ->
  wpAny (model P w) X.A (pyNext (.ref it)) (fun r s1=>∃ u,r=some u /\
   wpAny (model P w) X.A (letOwnedTupleGo tg (.ref it) u) (fun _ s2=>∃ x H',Inv X pins σ H' s2/\RelV x u/\J.yld i H x H'/\tn (i+1) s2.heap/\∀ b ∈ fp,H' b=none) E s1) E s
 done:∀ (X:Cx),X.prog=P->X.w=w->X.K=K->X.calm=true->∀ (i:Nat) (pins:List (Addr × Obj)) (s:Shared) (σ:St) (H:Hp) (E:Value->Shared->Prop),Inv X pins σ H s->(∀ b ∈ fp,FpOk X pins H b)->tn i s.heap->J.stop i H ->
  wpAny (model P w) X.A (pyNext (.ref it)) (fun r s1=>r=none/\Inv X pins σ H s1) E s
 self:∀ (A:Around) (i:Nat) (s:Shared) (Q:Value->Shared->Prop) (E:Value->Shared->Prop),tn i s.heap->Q (.ref it) s->wpAny (model P w) A (pyIter (.ref it)) Q E s
noncomputable abbrev TI:=St->Hp->(It->Hp->Prop)->Prop
def PIE (X:Cx) (pins:List (Addr × Obj)) (σ:St) (tg:Expr) (R:It->Hp->Prop) (itv:Value) (s2:Shared):Prop:=
 ∃ (it:Addr) (fp:List Addr) (tn:Nat->Heap->Prop) (J:It) (H':Hp),itv=.ref it/\Inv X pins σ H' s2/\Turn X.prog X.w X.K tg J fp it tn/\tn 0 s2.heap/\(∀ b ∈ fp,FpOk X pins H' b)/\R J H'
def PI (X:Cx) (tg iter:Expr) (wi:TI):Prop:=
 ∀ (pins:List (Addr × Obj)) (s:Shared) (σ:St) (H:Hp) (R:It->Hp->Prop),Inv X pins σ H s->wi σ H R ->
  wpAny (model X.prog X.w) X.A (eval iter X.env) (fun v s1=>wpAny (model X.prog X.w) X.A (pyIter v) (PIE X pins σ tg R) X.xe s1) X.xe s
theorem tL {M:Model} {A:Around} {E:Value->Shared->Prop} {s:Shared} {tg:Expr} {it:Addr} {u:Value} {o:Obj} {n:String} {vs:Array Value} {Q:Unit->Shared->Prop} (ho:s.heap.get? it=some o) (hc:o.cls=.type n) (hd:o.data=.fields vs)
  (hn:["enumerate", "zip", "dict_itemiterator", "dict_reverseitemiterator", "odict_iterator", "itertools.zip_longest", "itertools.pairwise"].contains n=false) (hQ:Q () s):wpAny M A (letOwnedTupleGo tg (.ref it) u) Q E s:=by
 unfold letOwnedTupleGo;cases tg <;> first
  | exact wpAny_pure hQ
  | (cases u <;> first
    | exact wpAny_pure hQ
    | (refine wpAny_bind (wpAny_load ho ?_); rw [hc,hd]; show wpAny M A (if (["enumerate", "zip", "dict_itemiterator", "dict_reverseitemiterator", "odict_iterator", "itertools.zip_longest", "itertools.pairwise"].contains n && vs[0]? == some (rawInt _))=true then _ else _) Q E s; rw [if_neg (by intro h; rw [hn,Bool.false_and] at h; cases h)]; exact wpAny_pure hQ))
noncomputable def Itl (K:Frag) (a:Addr):It:=
 ⟨fun i H=>∃ xs x,SqL K H a xs/\xs[i]? = some x,fun i H x H'=>H'=H/\∀ xs,SqL K H a xs->xs[i]? = some x,fun i H=>∃ xs,SqL K H a xs/\xs.length<=i⟩
noncomputable def Itt (K:Frag) (a:Addr):It:=
 ⟨fun i H=>∃ xs x,SqT K H a xs/\xs[i]? = some x,fun i H x H'=>H'=H/\∀ xs,SqT K H a xs->xs[i]? = some x,fun i H=>∃ xs,SqT K H a xs/\xs.length<=i⟩
noncomputable def Itr (lo:Int) (n:Nat):It:=⟨fun i _=>i < n,fun i H x H'=>H'=H/\x=.int (lo+i),fun i _=>n<=i⟩
theorem vd {P:Program} {w:World} {K:Frag} {tg:Expr} (a it:Addr):Turn P w K tg (Itl K a) [it] it (fun i h=>h.IsListIter it a i) where
 mem:=by simp
 obj:=fun i h st b hb=>by
  have e:b=it:=by simpa using hb
  subst e;obtain ⟨o,e,c,d⟩:=st;exact ⟨o,e,fun v z=>by rw [d] at z; cases z⟩
 keep:=fun i h h' st k=>st.at fun o e=>k it (by simp) o e
 item:=by
  intro X hP hw hK hc i pins s σ H E I hf st hg;subst hP hw hK;obtain ⟨xs,x,hq,hx⟩:=hg;obtain ⟨its,rv,p,hz⟩:=I.list hq;obtain ⟨u,hu,ru⟩:=rv.get hx;obtain ⟨f0,f1,f2,f3,f4,f5⟩:=hf it (by simp);refine wpAny_pyNext_list_item st p.isList (x:=u) (by simpa using hu) fun h' st' sb=>?_
  have I1:Inv X pins σ H { s with heap:=h' }:=I.turned (t':=s.toks) (fun b o hb e=>(sb.2 b hb).trans e) f0 f1 f3 f4 f5;obtain ⟨o,e,c,d⟩:=id st';exact ⟨u,rfl,tL (s:={ s with heap:=h' }) e c d (by decide) ⟨x,H,I1,ru,⟨rfl,fun ys hy=>by rw [I.list_inj hy hq]; exact hx⟩,st',fun b hb=>(hf b hb).1⟩⟩
 done:=by
  intro X hP hw hK hc i pins s σ H E I hf st hg;subst hP hw hK;obtain ⟨xs,hq,hx⟩:=hg;obtain ⟨its,rv,p,hz⟩:=I.list hq;obtain ⟨f0,f1,f2,f3,f4,f5⟩:=hf it (by simp);have hl:=rv.length;exact wpAny_pyNext_list_end (I.ok.hd hc) st p.isList (by simp; omega) fun h' eb=>⟨rfl,I.turned (t':=s.toks) (fun b o hb e=>eb b o hb e) f0 f1 f3 f4 f5⟩
 self:=fun _ _ _ _ _ st h=>wpAny_pyIter_listiter st h
theorem sY {P:Program} {w:World} {K:Frag} {tg:Expr} (a it:Addr):Turn P w K tg (Itt K a) [it] it (fun i h=>h.IsTupleIter it a i) where
 mem:=by simp
 obj:=fun i h st b hb=>by
  have e:b=it:=by simpa using hb
  subst e;obtain ⟨o,e,c,d⟩:=st;exact ⟨o,e,fun v z=>by rw [d] at z; cases z⟩
 keep:=fun i h h' st k=>st.at fun o e=>k it (by simp) o e
 item:=by
  intro X hP hw hK hc i pins s σ H E I hf st hg;subst hP hw hK;obtain ⟨xs,x,hq,hx⟩:=hg;obtain ⟨its,rv,p,hz⟩:=I.tuple hq;obtain ⟨u,hu,ru⟩:=rv.get hx;obtain ⟨f0,f1,f2,f3,f4,f5⟩:=hf it (by simp);refine wpAny_pyNext_tuple_item st (show s.heap.IsTuple a its.toArray from p) (x:=u) (by simpa using hu) fun h' st' sb=>?_
  have I1:Inv X pins σ H { s with heap:=h' }:=I.turned (t':=s.toks) (fun b o hb e=>(sb.2 b hb).trans e) f0 f1 f3 f4 f5;obtain ⟨o,e,c,d⟩:=id st';exact ⟨u,rfl,tL (s:={ s with heap:=h' }) e c d (by decide) ⟨x,H,I1,ru,⟨rfl,fun ys hy=>by rw [I.tuple_inj hy hq]; exact hx⟩,st',fun b hb=>(hf b hb).1⟩⟩
 done:=by
  intro X hP hw hK hc i pins s σ H E I hf st hg;subst hP hw hK;obtain ⟨xs,hq,hx⟩:=hg;obtain ⟨its,rv,p,hz⟩:=I.tuple hq;obtain ⟨f0,f1,f2,f3,f4,f5⟩:=hf it (by simp);have hl:=rv.length;exact wpAny_pyNext_tuple_end (I.ok.hd hc) st (show s.heap.IsTuple a its.toArray from p) (by simp; omega) fun h' eb=>⟨rfl,I.turned (t':=s.toks) (fun b o hb e=>eb b o hb e) f0 f1 f3 f4 f5⟩
 self:=fun _ _ _ _ _ st h=>wpAny_pyIter_tupleiter st h
theorem sw {P:Program} {w:World} {K:Frag} {tg:Expr} (it:Addr) (lo:Int) (n:Nat):Turn P w K tg (Itr lo n) [it] it (fun i h=>IsRangeIter h it (lo+(i:Nat)*1) ((n:Int) - (i:Nat)) 1) where
 mem:=by simp
 obj:=fun i h st b hb=>by
  have e:b=it:=by simpa using hb
  subst e;exact ⟨_,st,fun v z=>by
   have z':Data.fields _=Data.cell v:=z;cases z'⟩
 keep:=fun i h h' st k=>k it (by simp) _ st
 item:=by
  intro X hP hw hK hc i pins s σ H E I hf st hg;subst hP hw hK;obtain ⟨f0,f1,f2,f3,f4,f5⟩:=hf it (by simp);have W:=Walks.range (prog:=X.prog) (w:=X.w) (I.ok.hd hc) it lo 1 n;refine tokQ I.tk (W.item i s _ _ hg st fun v h' tk hv st' kk (htk:0 < tk)=>?_);obtain ⟨t,rfl⟩:=hv;have I1:Inv X pins σ H { s with heap:=h',toks:=tk }:=I.turned (fun b o hb e=>kk b o (by simpa using hb) e) f0 f1 f3 f4 f5;refine ⟨_,rfl,tL (s:={ s with heap:=h',toks:=tk }) (n := "range_iterator") st' rfl rfl (by decide) ⟨.int (lo+i),H,I1,⟨t,?_⟩,⟨rfl,rfl⟩,st',fun b hb=>(hf b hb).1⟩⟩;rw [Int.mul_one]
 done:=by
  intro X hP hw hK hc i pins s σ H E I hf st hg;subst hP hw hK;obtain ⟨f0,f1,f2,f3,f4,f5⟩:=hf it (by simp);exact wpAny_pyNext_range_end (I.ok.hd hc) st (by have:n<=i:=hg; omega) fun h' eb=>⟨rfl,I.turned (t':=s.toks) (fun b o hb e=>eb b o hb e) f0 f1 f3 f4 f5⟩
 self:=fun _ _ _ _ _ st h=>wpAny_pyIter_rangeiter st h
section
variable {X:Cx} {tg:Expr}
theorem vO {pins:List (Addr × Obj)} {σ:St} {H:Hp} {s:Shared} {R:It->Hp->Prop} {E:Value->Shared->Prop} {lo hi:Int} {t u v:Tok} {tk:Nat} (I:Inv X pins σ H s) (h1:-(2 ^ 62)<=lo) (h2:lo < 2 ^ 62) (h3:-(2 ^ 62)<=hi) (h4:hi < 2 ^ 62)
  (q:R (Itr lo (hi - lo).toNat) H) (htk:0 < tk:=by first | assumption | exact Nat.succ_pos _ | (apply Inv.tk; assumption) | omega):wpAny (model X.prog X.w) X.A (pyIter (.ref s.heap.objs.size)) (PIE X pins σ tg R) E { s with heap:=s.heap.push { cls:=.type "range",data:=.fields #[.int lo t,.int hi u,.int 1 v] },toks:=tk }:=by
 refine wpAny_pyIter_range (IsRange.new ..) (small_one h1 h2 h3 h4) ?_;have I1:Inv X pins σ H { s with heap:=s.heap.push { cls:=.type "range",data:=.fields #[.int lo t,.int hi u,.int 1 v] },toks:=tk }:=I.kept fun b o e=>Heap.get?_push_of_some _ e
 refine ⟨(s.heap.push { cls:=.type "range",data:=.fields #[.int lo t,.int hi u,.int 1 v] }).objs.size,[(s.heap.push { cls:=.type "range",data:=.fields #[.int lo t,.int hi u,.int 1 v] }).objs.size],_,_,H,rfl,
  I1.kept (t':=tk) fun b o e=>Heap.get?_push_of_some _ e,sw _ lo (hi - lo).toNat,?_,fun b hb=>?_,q⟩
 ·have e1:lo+((0:Nat):Int)*1=lo:=by simp
  have e2:(((hi - lo).toNat:Nat):Int) - ((0:Nat):Int)=Builtin.Range.rangeSize lo hi 1:=by rw [rangeSize_one]; split <;> omega
  show IsRangeIter _ _ (lo+((0:Nat):Int)*1) ((((hi - lo).toNat:Nat):Int) - ((0:Nat):Int)) 1;rw [e1,e2];exact Heap.get?_push_size _ rfl
 ·have e:b=(s.heap.push { cls:=.type "range",data:=.fields #[.int lo t,.int hi u,.int 1 v] }).objs.size:=by simpa using hb
  subst e;exact I1.fpOk (Nat.le_refl _) (I1.hok.fresh (Nat.le_refl _))
noncomputable def iRng1 (ta:TA):TI:=fun σ H R=>ta σ H fun vs H1=>∃ j:Int,vs=[.int j] /\ -(2 ^ 62)<=j/\j < 2 ^ 62/\R (Itr 0 j.toNat) H1
theorem vL {a:Expr} {ta:TA} {p pos:Pos} (hg:Gl X "range") (hm:X.mg "range" = none) (ha:PA X [a] ta) (hs:starEach [a] X.env=[(false,eval a X.env)]:=by rfl):PI X tg (.Call (.Name "range" p) [a] [] pos) (iRng1 ta):=by
 intro pins s σ H R I h;refine Call_ (cR I hg hm boot_range (PyProof.Rows.callWith_type1 (thn (ha pos pins s σ H _ I h) fun us s1 ⟨vs,H1,I1,r1,q1⟩=>?_) hs rfl));obtain ⟨j,e,q1,q2,q⟩:=q1;subst e;cases r1 with
 | cons r rr=>
  cases rr;obtain ⟨t,rfl⟩:=r;exact call_range_1 (vO I1 (by omega) (by omega) q1 q2 (by simpa using q))
noncomputable def tFor (wi:TI) (g:TG) (tb:TS):TS:=fun D σ H=>wi σ H fun J H1=>∃ W:Nat->Nat->St->Hp->Prop,(∃ m,W 0 m σ H1)/\∀ i m σ H,W i m σ H ->
 (J.stop i H/\D.nx σ H)\/(J.go i H/\∃ N:St->Hp->Prop,(∀ σ' H',N σ' H'->∃ m',m' < m/\W (i+1) m' σ' H')/\∀ x H',J.yld i H x H'->g x σ H' fun σ2 H2=>tb { D with nx:=N,ct:=N,bk:=D.nx } σ2 H2)
noncomputable def pinsAt (fp:List Addr) (h:Heap):List (Addr × Obj):=fp.filterMap fun b=>(h.get? b).map fun o=>(b,o)
theorem cZ {fp:List Addr} {h:Heap} {b:Addr} {o:Obj} (hb:b ∈ fp) (e:h.get? b=some o):(b,o) ∈ pinsAt fp h:=List.mem_filterMap.mpr ⟨b,hb,by rw [e]; rfl⟩
theorem uV {fp:List Addr} {h:Heap} {p:Addr × Obj} (hp:p ∈ pinsAt fp h):p.1 ∈ fp/\h.get? p.1=some p.2:=by
 obtain ⟨b,hb,e⟩:=List.mem_filterMap.mp hp;cases q:h.get? b with
 | none=>rw [q] at e; cases e
 | some o=>
  rw [q] at e;have e':(b,o)=p:=Option.some.inj e;subst e';exact ⟨hb,q⟩
theorem Inv.pinned {pins:List (Addr × Obj)} {σ:St} {H:Hp} {s:Shared} {fp:List Addr} (I:Inv X pins σ H s) (hf:∀ b ∈ fp,FpOk X pins H b) (ho:∀ b ∈ fp,∃ o,s.heap.get? b=some o/\∀ v,o.data≠.cell v):Inv X (pins++pinsAt fp s.heap) σ H s:=
 I.pins_of fun p hp=>(List.mem_append.mp hp).elim (fun z=>I.pin p (List.mem_append_right _ z)) fun z=>by
  obtain ⟨hb,e⟩:=uV z;obtain ⟨f0,f1,f2,_⟩:=hf p.1 hb;obtain ⟨o,e',d⟩:=ho p.1 hb;rw [e] at e'; cases e';exact ⟨e,f0,f1,f2,d⟩
theorem Inv.unpinned {pins pl:List (Addr × Obj)} {σ:St} {H:Hp} {s:Shared} (I:Inv X (pins++pl) σ H s):Inv X pins σ H s:=I.pins_of fun p hp=>I.pin p (List.mem_append_right _ (List.mem_append_left _ hp))
theorem Am {iter:Expr} {body:List Stmt} {wi:TI} {g:TG} {tb:TS} {pos:Pos} (hp:PassesOwn (model X.prog X.w) X.A X.env X.xe) (hc:X.calm=true) (hi:PI X tg iter wi) (hg:PG X tg g) (hb:PSs X body tb)
  (hs:∀ x,foldedSetIterable iter X.env x=pure x:=by intro _; rfl):PS X (.For tg iter body [] pos) (tFor wi g tb):=by
 intro pins s σ H D I h;refine wpAny_For (thn (hi pins s σ H _ I h) fun v s1 h1=>thn h1 fun itv s2 h2=>?_) hs;obtain ⟨it,fp,tn,J,H2,e,I2,T,st2,f2,W,⟨m0,w0⟩,turn⟩:=h2;subst e;have stat:∀ {H':Hp},(∀ b ∈ fp,H' b=none)->∀ b ∈ fp,FpOk X pins H' b:=fun hn b hb=>⟨hn b hb,(f2 b hb).2⟩
 refine codeAny_forLoop_any (fun n s'=>∃ i σ' H',Inv X pins σ' H' s'/\tn i s'.heap/\(∀ b ∈ fp,H' b=none)/\W i n σ' H') ?_ m0 ⟨0,σ,H2,I2,st2,fun b hb=>(f2 b hb).1,w0⟩;rintro n s3 ⟨i,σ3,H3,I3,st3,fr3,w3⟩;rcases turn i n σ3 H3 w3 with ⟨stop,qn⟩ | ⟨go,N,hN,step⟩
 ·refine wpAny_passesOwn hp (thn (T.done X rfl rfl rfl hc i pins s3 σ3 H3 X.xe I3 (stat fr3) st3 stop) fun r s4 ⟨hr,I4⟩=>?_);subst hr;exact wpAny_execs_nil ⟨σ3,H3,I4,qn⟩
 ·refine wpAny_passesOwn hp (thn (T.item X rfl rfl rfl hc i pins s3 σ3 H3 X.xe I3 (stat fr3) st3 go) fun r s4 ⟨u,hr,h4⟩=>?_);subst hr;refine wpAny_passesOwn hp (thn h4 fun _ s5 ⟨x,H5,I5,r5,y5,st5,fr5⟩=>?_);have I5':=I5.pinned (stat fr5) (T.obj _ _ st5);refine wpAny_passesOwn hp (thn (hg _ s5 σ3 H5 x u _ I5' r5 (step x H5 y5)) fun _ s6 ⟨σ6,H6,I6,q6⟩=>?_);refine wpAny_passesOwn hp (thn (hb _ s6 σ6 H6 _ I6 q6) fun f s7 q7=>?_);have again:∀ {σ7:St} {H7:Hp},Inv X (pins++pinsAt fp s5.heap) σ7 H7 s7->N σ7 H7->∃ m,m < n/\∃ i σ' H',Inv X pins σ' H' s7/\tn i s7.heap/\(∀ b ∈ fp,H' b=none)/\W i m σ' H':=fun {σ7 H7} I7 n7=>by
   obtain ⟨m',hm,w7⟩:=hN σ7 H7 n7;refine ⟨m',hm,i+1,σ7,H7,I7.unpinned,T.keep _ _ _ st5 fun b hb o e=>(I7.pin (b,o) (List.mem_append_right _ (List.mem_append_right _ (cZ hb e)))).1,fun b hb=>?_,w7⟩;obtain ⟨o,e,d⟩:=T.obj _ _ st5 b hb;exact (I7.pin (b,o) (List.mem_append_right _ (List.mem_append_right _ (cZ hb e)))).2.1
  cases f with
  | next=>obtain ⟨σ7,H7,I7,n7⟩:=q7; exact again I7 n7
  | cont=>obtain ⟨σ7,H7,I7,n7⟩:=q7; exact again I7 n7
  | brk=>obtain ⟨σ7,H7,I7,q7⟩:=q7; exact ⟨σ7,H7,I7.unpinned,q7⟩
  | ret v=>obtain ⟨x7,σ7,H7,I7,r7,q7⟩:=q7; exact ⟨x7,σ7,H7,I7.unpinned,r7,q7⟩
end
theorem wZ {K:Frag} {a:Addr} {xs:List V} {g:TG} {tb:TS} {D:Ends} {σ:St} {H:Hp} (Pv:Nat->St->Hp->Prop) (h0:Pv 0 σ H) (hl:∀ i σ H,i<=xs.length->Pv i σ H->SqL K H a xs)
  (hs:∀ i x σ H,xs[i]? = some x->Pv i σ H->g x σ H fun σ2 H2=>tb { D with nx:=Pv (i+1),ct:=Pv (i+1),bk:=D.nx } σ2 H2) (hd:∀ σ H,Pv xs.length σ H->D.nx σ H):
  ∃ W:Nat->Nat->St->Hp->Prop,(∃ m,W 0 m σ H)/\∀ i m σ H,W i m σ H ->
   ((Itl K a).stop i H/\D.nx σ H)\/((Itl K a).go i H/\∃ N:St->Hp->Prop,(∀ σ' H',N σ' H'->∃ m',m' < m/\W (i+1) m' σ' H')/\∀ x H',(Itl K a).yld i H x H'->g x σ H' fun σ2 H2=>tb { D with nx:=N,ct:=N,bk:=D.nx } σ2 H2):=by
 refine ⟨fun i m σ H=>m=xs.length - i/\i<=xs.length/\Pv i σ H,⟨xs.length,by simp,Nat.zero_le _,h0⟩,?_⟩;rintro i m σ H ⟨rfl,hi,p⟩;have q:=hl i σ H hi p;by_cases hlt:i < xs.length
 ·refine .inr ⟨⟨xs,xs[i],q,by simp [hlt]⟩,Pv (i+1),fun σ' H' p'=>⟨xs.length - (i+1),by omega,rfl,hlt,p'⟩,fun x H' y=>?_⟩;obtain ⟨e,y⟩:=y;subst e;exact hs i x σ _ (y xs q) p
 ·have e:i=xs.length:=by omega
  subst e;exact .inl ⟨⟨xs,q,Nat.le_refl _⟩,hd σ H p⟩
theorem ux {lo:Int} {n:Nat} {g:TG} {tb:TS} {D:Ends} {σ:St} {H:Hp} (Pv:Nat->St->Hp->Prop) (h0:Pv 0 σ H)
  (hs:∀ i σ H,i < n->Pv i σ H->g (.int (lo+i)) σ H fun σ2 H2=>tb { D with nx:=Pv (i+1),ct:=Pv (i+1),bk:=D.nx } σ2 H2) (hd:∀ σ H,Pv n σ H->D.nx σ H):
  ∃ W:Nat->Nat->St->Hp->Prop,(∃ m,W 0 m σ H)/\∀ i m σ H,W i m σ H ->
   ((Itr lo n).stop i H/\D.nx σ H)\/((Itr lo n).go i H/\∃ N:St->Hp->Prop,(∀ σ' H',N σ' H'->∃ m',m' < m/\W (i+1) m' σ' H')/\∀ x H',(Itr lo n).yld i H x H'->g x σ H' fun σ2 H2=>tb { D with nx:=N,ct:=N,bk:=D.nx } σ2 H2):=by
 refine ⟨fun i m σ H=>m=n - i/\i<=n/\Pv i σ H,⟨n,by simp,Nat.zero_le _,h0⟩,?_⟩;rintro i m σ H ⟨rfl,hi,p⟩;by_cases hlt:i < n
 ·refine .inr ⟨hlt,Pv (i+1),fun σ' H' p'=>⟨n - (i+1),by omega,rfl,hlt,p'⟩,fun x H' y=>?_⟩;obtain ⟨e,y⟩:=y;subst e y;exact hs i σ _ hlt p
 ·have e:i=n:=by omega
  subst e;exact .inl ⟨Nat.le_refl _,hd σ H p⟩
noncomputable abbrev R2:=V->V->Hp->VK->Prop
def OpR (X:Cx) (f:Value->Value->Sem Value) (r:R2):Prop:=
 ∀ (pins:List (Addr × Obj)) (s:Shared) (σ:St) (H:Hp) (x y:V) (v u:Value) (Q:VK),Inv X pins σ H s->RelV x v->RelV y u->r x y H Q ->
  wpAny (model X.prog X.w) X.A (f v u) (EP X pins σ Q) X.xe s
def UnR (X:Cx) (f:Value->Sem Value) (r:V->Hp->VK->Prop):Prop:=
 ∀ (pins:List (Addr × Obj)) (s:Shared) (σ:St) (H:Hp) (x:V) (v:Value) (Q:VK),Inv X pins σ H s->RelV x v->r x H Q ->
  wpAny (model X.prog X.w) X.A (f v) (EP X pins σ Q) X.xe s
def CallR (X:Cx) (f:Value) (r:List V->Hp->VK->Prop):Prop:=
 ∀ (pins:List (Addr × Obj)) (s:Shared) (σ:St) (H:Hp) (xs:List V) (us:List Value) (Q:VK),Inv X pins σ H s->Vals xs us->r xs H Q ->
  wpAny (model X.prog X.w) X.A (call f us) (EP X pins σ Q) X.xe s
noncomputable def tOp (r:R2) (ta tb:TE):TE:=fun σ H Q=>ta σ H fun x H1=>tb σ H1 fun y H2=>r x y H2 Q
noncomputable def tUn (r:V->Hp->VK->Prop) (ta:TE):TE:=fun σ H Q=>ta σ H fun x H1=>r x H1 Q
noncomputable def rI (C:Int->Int->Prop) (g:Int->Int->V):R2:=fun x y H Q=>∃ i j,x=.int i/\y=.int j/\C i j/\Q (g i j) H
noncomputable def rI0 (g:Int->Int->V):R2:=fun x y H Q=>∃ i j,x=.int i/\y=.int j/\Q (g i j) H
noncomputable def rU (g:Int->V):V->Hp->VK->Prop:=fun x H Q=>∃ i,x=.int i/\Q (g i) H
section
variable {X:Cx} {a b c:Expr} {ta tb tc:TE} {pos:Pos}
theorem binT (ha:PE X a ta) (hb:PE X b tb) {pins:List (Addr × Obj)} {s:Shared} {σ:St} {H:Hp} {R:V->V->Hp->Prop} (I:Inv X pins σ H s)
  (h:ta σ H fun x H1=>tb σ H1 fun y H2=>R x y H2) {Q:Value->Shared->Prop} {f:Value->Value->Sem Value}
  (hf:∀ v u s2 x y H2,Inv X pins σ H2 s2->RelV x v->RelV y u->R x y H2->wpAny (model X.prog X.w) X.A (f v u) Q X.xe s2):
  wpAny (model X.prog X.w) X.A (eval a X.env) (fun v s₁=>wpAny (model X.prog X.w) X.A (eval b X.env) (fun u s₂=>wpAny (model X.prog X.w) X.A (f v u) Q X.xe s₂) X.xe s₁) X.xe s:=by
 refine thn (ha pins s σ H _ I h) fun v s1 ⟨x,H1,I1,r1,q1⟩=>?_
 refine thn (hb pins s1 σ H1 _ I1 q1) fun u s2 ⟨y,H2,I2,r2,q2⟩=>?_
 exact hf v u s2 x y H2 I2 r1 r2 q2
theorem am {op:Operator} {r:R2} (ho:OpR X (binaryOp op) r) (ha:PE X a ta) (hb:PE X b tb):PE X (.BinOp a op b pos) (tOp r ta tb):=by
 intro pins s σ H Q I h;exact wpAny_BinOp (binT ha hb I h fun v u s2 x y H2 I2 rx ry q=>ho pins s2 σ H2 x y v u Q I2 rx ry q)
theorem Ba {op:UnaryOp} {r:V->Hp->VK->Prop} (ho:UnR X (unaryOp op) r) (ha:PE X a ta):PE X (.UnaryOp op a pos) (tUn r ta):=by
 intro pins s σ H Q I h;exact UnaryOp_ (thn (ha pins s σ H _ I h) fun v s1 ⟨x,H1,I1,r1,q1⟩=>ho pins s1 σ H1 x v Q I1 r1 q1)
theorem opI {f:Value->Value->Sem Value} {C:Int->Int->Prop} {g:Int->Int->Int}
  (rule:∀ (i j:Int) (t u:Tok) (s:Shared) (Q:Value->Shared->Prop) (E:Value->Shared->Prop),C i j->Q (.int (g i j) s.toks) { s with toks:=s.toks+1 }->wpAny (model X.prog X.w) X.A (f (.int i t) (.int j u)) Q E s):
  OpR X f (rI C fun i j=>.int (g i j)):=by
 intro pins s σ H x y v u Q I rx ry h;obtain ⟨i,j,rfl,rfl,hc,q⟩:=h;obtain ⟨t,rfl⟩:=rx;obtain ⟨t',rfl⟩:=ry;exact rule i j t t' s _ _ hc ⟨.int (g i j),H,I.tok _,⟨_,rfl⟩,q⟩
theorem opI0 {f:Value->Value->Sem Value} {g:Int->Int->Int}
  (rule:∀ (i j:Int) (t u:Tok) (s:Shared) (Q:Value->Shared->Prop) (E:Value->Shared->Prop),Q (.int (g i j) s.toks) { s with toks:=s.toks+1 }->wpAny (model X.prog X.w) X.A (f (.int i t) (.int j u)) Q E s):
  OpR X f (rI0 fun i j=>.int (g i j)):=by
 intro pins s σ H x y v u Q I rx ry h;obtain ⟨i,j,rfl,rfl,q⟩:=h;obtain ⟨t,rfl⟩:=rx;obtain ⟨t',rfl⟩:=ry;exact rule i j t t' s _ _ ⟨.int (g i j),H,I.tok _,⟨_,rfl⟩,q⟩
theorem opB0 {f:Value->Value->Sem Value} {g:Int->Int->Bool}
  (rule:∀ (i j:Int) (t u:Tok) (s:Shared) (Q:Value->Shared->Prop) (E:Value->Shared->Prop),Q (.bool (g i j)) s->wpAny (model X.prog X.w) X.A (f (.int i t) (.int j u)) Q E s):
  OpR X f (rI0 fun i j=>.bl (g i j)):=by
 intro pins s σ H x y v u Q I rx ry h;obtain ⟨i,j,rfl,rfl,q⟩:=h;obtain ⟨t,rfl⟩:=rx;obtain ⟨t',rfl⟩:=ry;exact rule i j t t' s _ _ ⟨.bl (g i j),H,I,rfl,q⟩
def CDiv (i j:Int):Prop:=0 < j/\j < 1073741824
def CPow (i j:Int):Prop:=0<=j/\j<=1000000/\i.natAbs < 2 ^ 64
def CMul (i j:Int):Prop:=(-(2 ^ 64) < i/\i < 2 ^ 64)\/(-(2 ^ 64) < j/\j < 2 ^ 64)
theorem CMul.ok {i j:Int} (h:CMul i j):IntMulOk i j:=by
 rcases h with ⟨h1,h2⟩ | ⟨h1,h2⟩
 ·exact .of_left (intBits_le_64 h1 h2)
 ·exact .of_right (intBits_le_64 h1 h2)
theorem Al:OpR X (binaryOp .Add) (rI0 fun i j=>.int (i+j)):=opI0 fun _ _ _ _ _ _ _ q=>add_int q
theorem zD:OpR X (binaryOp .Sub) (rI0 fun i j=>.int (i - j)):=opI0 fun _ _ _ _ _ _ _ q=>sub_int q
theorem zy:OpR X (binaryOp .Mult) (rI CMul fun i j=>.int (i*j)):=opI fun _ _ _ _ _ _ _ hc q=>mul_int q hc.ok
theorem y6:OpR X (binaryOp .FloorDiv) (rI CDiv fun i j=>.int (i / j)):=opI fun i j _ _ _ _ _ hc q=>by
 have h1:(0:Int) < j:=hc.1;have h2:j < 1073741824:=hc.2;exact floordiv_int (by omega) (by rw [Int.fdiv_eq_ediv_of_nonneg i (by omega)]; exact q) (.inl (PyProof.noPylong_small (by omega)))
theorem zI:OpR X (binaryOp .Mod) (rI (fun _ j=>0 < j) fun i j=>.int (i % j)):=opI fun i j _ _ _ _ _ hc q=>by
 have h1:(0:Int) < j:=hc;exact mod_int' (by omega) (by rw [Int.fmod_eq_emod_of_nonneg i (by omega)]; exact q)
theorem unI {f:Value->Sem Value} {g:Int->Int}
  (rule:∀ (i:Int) (t:Tok) (s:Shared) (Q:Value->Shared->Prop) (E:Value->Shared->Prop),Q (.int (g i) s.toks) { s with toks:=s.toks+1 }->wpAny (model X.prog X.w) X.A (f (.int i t)) Q E s):
  UnR X f (rU fun i=>.int (g i)):=by
 intro pins s σ H x v Q I rx h;obtain ⟨i,rfl,q⟩:=h;obtain ⟨t,rfl⟩:=rx;exact rule i t s _ _ ⟨.int (g i),H,I.tok _,⟨_,rfl⟩,q⟩
theorem zY:UnR X (unaryOp .USub) (rU fun i=>.int (-i)):=unI fun _ _ _ _ _ q=>neg_int q
end
noncomputable def scal:V->V->Bool
 | .non,.non=>true | .non,.int _=>true | .int _,.non=>true | .non,.bl _=>true | .bl _,.non=>true | .non,.str _=>true | .str _,.non=>true
 | .int _,.int _=>true | .bl _,.bl _=>true | .str _,.str _=>true | .byt _,.byt _=>true
 | .int _,.str _=>true | .str _,.int _=>true | .bl _,.str _=>true | .str _,.bl _=>true
 | _,_=>false
noncomputable def rEq:R2:=fun x y H Q=>scal x y=true/\Q (.bl (decide (x=y))) H
noncomputable def rNe:R2:=fun x y H Q=>scal x y=true/\Q (.bl (!decide (x=y))) H
theorem tW {i j:Int}:decide (V.int i=V.int j)=(i == j):=by
 rw [Bool.eq_iff_iff];simp
theorem wB {i j:Bool}:decide (V.bl i=V.bl j)=(i == j):=by
 rw [Bool.eq_iff_iff];simp
theorem tQ {i j:Str}:decide (V.str i=V.str j)=(i == j):=by
 rw [Bool.eq_iff_iff];simp
theorem ue {i j:Array UInt8}:decide (V.byt i=V.byt j)=(i.toList == j.toList):=by
 rw [Bool.eq_iff_iff];cases i;cases j;simp
section
variable {X:Cx} {a b c:Expr} {ta tb tc:TE} {pos:Pos}
theorem aO {pins:List (Addr × Obj)} {σ:St} {H:Hp} {s:Shared} {Q:VK} {k k':Bool} (I:Inv X pins σ H s) (q:Q (.bl k) H) (e:k=k'):EP X pins σ Q (.bool k') s:=by
 subst e;exact ⟨.bl k,H,I,rfl,q⟩
theorem AZ:OpR X (compareOp .Eq) rEq:=by
 intro pins s σ H x y v u Q I rx ry h;obtain ⟨hs,q⟩:=h;cases x with
 | non=>
  cases rx;cases y with
  | non=>cases ry; exact PySem.EqNone.eq_none_none (aO I q (by simp))
  | bl j=>cases ry; exact PySem.EqNone.eq_none_bool (aO I q (by simp))
  | int j=>obtain ⟨t',rfl⟩:=ry; exact PySem.EqNone.eq_none_int (aO I q (by simp))
  | str j=>obtain ⟨t',rfl⟩:=ry; exact PySem.EqNone.eq_none_str (aO I q (by simp))
  | _=>exact absurd (show false=true from hs) Bool.false_ne_true
 | bl i=>
  cases rx;cases y with
  | non=>cases ry; exact PySem.EqNone.eq_bool_none (aO I q (by simp))
  | bl j=>cases ry; exact eq_bool (aO I q wB)
  | str j=>obtain ⟨t',rfl⟩:=ry; exact PySem.EqMixed.eq_bool_str (aO I q (by simp))
  | _=>exact absurd (show false=true from hs) Bool.false_ne_true
 | int i=>
  obtain ⟨t,rfl⟩:=rx;cases y with
  | non=>cases ry; exact PySem.EqNone.eq_int_none (aO I q (by simp))
  | int j=>obtain ⟨t',rfl⟩:=ry; exact eq_int (aO I q tW)
  | str j=>obtain ⟨t',rfl⟩:=ry; exact PySem.EqMixed.eq_int_str (aO I q (by simp))
  | _=>exact absurd (show false=true from hs) Bool.false_ne_true
 | str i=>
  obtain ⟨t,rfl⟩:=rx;cases y with
  | non=>cases ry; exact PySem.EqNone.eq_str_none (aO I q (by simp))
  | bl j=>cases ry; exact PySem.EqMixed.eq_str_bool (aO I q (by simp))
  | int j=>obtain ⟨t',rfl⟩:=ry; exact PySem.EqMixed.eq_str_int (aO I q (by simp))
  | str j=>obtain ⟨t',rfl⟩:=ry; exact eq_str (aO I q tQ)
  | _=>exact absurd (show false=true from hs) Bool.false_ne_true
 | byt i=>
  obtain ⟨t,rfl⟩:=rx;cases y with
  | byt j=>obtain ⟨t',rfl⟩:=ry; exact PySem.W.eq_bytes (aO I q ue)
  | _=>exact absurd (show false=true from hs) Bool.false_ne_true
 | _=>cases y <;> exact absurd (show false=true from hs) Bool.false_ne_true
theorem Bg:OpR X (compareOp .NotEq) rNe:=by
 intro pins s σ H x y v u Q I rx ry h;obtain ⟨hs,q⟩:=h;cases x with
 | non=>
  cases rx;cases y with
  | non=>cases ry; exact PySem.EqNone.ne_none_none (aO I q (by simp))
  | bl j=>cases ry; exact PySem.EqNone.ne_none_bool (aO I q (by simp))
  | int j=>obtain ⟨t',rfl⟩:=ry; exact PySem.EqNone.ne_none_int (aO I q (by simp))
  | str j=>obtain ⟨t',rfl⟩:=ry; exact PySem.EqNone.ne_none_str (aO I q (by simp))
  | _=>exact absurd (show false=true from hs) Bool.false_ne_true
 | bl i=>
  cases rx;cases y with
  | non=>cases ry; exact PySem.EqNone.ne_bool_none (aO I q (by simp))
  | bl j=>cases ry; exact ne_bool (aO I q (congrArg not wB))
  | str j=>obtain ⟨t',rfl⟩:=ry; exact PySem.EqMixed.ne_bool_str (aO I q (by simp))
  | _=>exact absurd (show false=true from hs) Bool.false_ne_true
 | int i=>
  obtain ⟨t,rfl⟩:=rx;cases y with
  | non=>cases ry; exact PySem.EqNone.ne_int_none (aO I q (by simp))
  | int j=>obtain ⟨t',rfl⟩:=ry; exact ne_int (aO I q (congrArg not tW))
  | str j=>obtain ⟨t',rfl⟩:=ry; exact PySem.EqMixed.ne_int_str (aO I q (by simp))
  | _=>exact absurd (show false=true from hs) Bool.false_ne_true
 | str i=>
  obtain ⟨t,rfl⟩:=rx;cases y with
  | non=>cases ry; exact PySem.EqNone.ne_str_none (aO I q (by simp))
  | bl j=>cases ry; exact PySem.EqMixed.ne_str_bool (aO I q (by simp))
  | int j=>obtain ⟨t',rfl⟩:=ry; exact PySem.EqMixed.ne_str_int (aO I q (by simp))
  | str j=>obtain ⟨t',rfl⟩:=ry; exact ne_str (aO I q (congrArg not tQ))
  | _=>exact absurd (show false=true from hs) Bool.false_ne_true
 | byt i=>
  obtain ⟨t,rfl⟩:=rx;cases y with
  | byt j=>obtain ⟨t',rfl⟩:=ry; exact PySem.W.ne_bytes (aO I q (congrArg not ue))
  | _=>exact absurd (show false=true from hs) Bool.false_ne_true
 | _=>cases y <;> exact absurd (show false=true from hs) Bool.false_ne_true
theorem Bb:OpR X (compareOp .Lt) (rI0 fun i j=>.bl (decide (i < j))):=opB0 fun _ _ _ _ _ _ _ q=>lt_int q
theorem AW:OpR X (compareOp .LtE) (rI0 fun i j=>.bl (decide (i<=j))):=opB0 fun _ _ _ _ _ _ _ q=>le_int q
theorem A0:OpR X (compareOp .Gt) (rI0 fun i j=>.bl (decide (j < i))):=opB0 fun _ _ _ _ _ _ _ q=>gt_int q
theorem uA:OpR X (compareOp .In) (fun x y H Q=>∃ i j,x=.str i/\y=.str j/\Q (.bl (!(Builtin.Str.occurrences j i 0 j.length 1).isEmpty)) H):=by
 intro pins s σ H x y v u Q I rx ry h;obtain ⟨i,j,rfl,rfl,q⟩:=h;obtain ⟨t,rfl⟩:=rx;obtain ⟨t',rfl⟩:=ry;exact in_str (aO I q rfl)
theorem zu:OpR X (compareOp .Is) (fun x y H Q=>y=.non/\Q (.bl (decide (x=.non))) H):=by
 intro pins s σ H x y v u Q I rx ry h;obtain ⟨rfl,q⟩:=h;cases ry;refine is_none_gen (aO I q ?_);cases x <;> first
  | (cases rx; rfl)
  | (obtain ⟨t,rfl⟩:=rx; rfl)
theorem yc:OpR X (compareOp .IsNot) (fun x y H Q=>y=.non/\Q (.bl (!decide (x=.non))) H):=by
 intro pins s σ H x y v u Q I rx ry h;obtain ⟨rfl,q⟩:=h;cases ry;refine isnot_none_gen (aO I q ?_);cases x <;> first
  | (cases rx; rfl)
  | (obtain ⟨t,rfl⟩:=rx; rfl)
theorem p8:OpR X (compareOp .NotIn) (fun x y H Q=>∃ i j,x=.str i/\y=.str j/\Q (.bl (!(!(Builtin.Str.occurrences j i 0 j.length 1).isEmpty))) H):=by
 intro pins s σ H x y v u Q I rx ry h;obtain ⟨i,j,rfl,rfl,q⟩:=h;obtain ⟨t,rfl⟩:=rx;obtain ⟨t',rfl⟩:=ry;exact notIn_str (aO I q rfl)
theorem nomark (b:Expr) {op:CmpOp} (h:op≠.In:=by decide) (h2:op≠.NotIn:=by decide):behindInMarks op b=false:=by
 have e1:(op == CmpOp.In)=false:=by cases op <;> first | rfl | exact absurd rfl h
 have e2:(op == CmpOp.NotIn)=false:=by cases op <;> first | rfl | exact absurd rfl h2
 cases b <;> simp [behindInMarks,e1,e2]
theorem yP {op:CmpOp} {r:R2} (ho:OpR X (compareOp op) r) (ha:PE X a ta) (hb:PE X b tb) (hm:behindInMarks op b=false):PE X (.Compare a [op] [b] pos) (tOp r ta tb):=by
 intro pins s σ H Q I h;exact wpAny_Compare1 (binT ha hb I h fun v u s2 x y H2 I2 rx ry q=>ho pins s2 σ H2 x y v u Q I2 rx ry q) hm
noncomputable def tTest (t:TE):TT:=fun σ H Q=>t σ H fun x H'=>∃ k,x=.bl k/\Q k H'
theorem yb {op:CmpOp} {r:R2} (ho:OpR X (compareOp op) r) (ha:PE X a ta) (hb:PE X b tb) (hm:behindInMarks op b=false):PT X (.Compare a [op] [b] pos) (tTest (tOp r ta tb)):=by
 intro pins s σ H Q I h;refine wpAny_isTrue_Compare1 (thn (ha pins s σ H _ I h) fun v s1 ⟨x,H1,I1,r1,q1⟩=>thn (hb pins s1 σ H1 _ I1 q1) fun u s2 ⟨y,H2,I2,r2,q2⟩=>
  thn (ho pins s2 σ H2 x y v u _ I2 r1 r2 q2) fun c s3 ⟨z,H3,I3,r3,k,e,q3⟩=>?_) hm
 subst e;cases r3;exact wpAny_truthy_bool ⟨H3,I3,q3⟩
theorem line63:(sizeLine:Nat) < 2 ^ 63:=by rw [sizeLine_eq]; decide
theorem sf:OpR X (binaryOp .Add) (fun x y H Q=>∃ i j,x=.str i/\y=.str j/\i.length+j.length<=sizeLine/\Q (.str (i++j)) H):=by
 intro pins s σ H x y v u Q I rx ry h;obtain ⟨i,j,rfl,rfl,hz,q⟩:=h;obtain ⟨t,rfl⟩:=rx;obtain ⟨t',rfl⟩:=ry;exact tokQ I.tk (add_str (fun t' tk (htk:0 < tk)=>⟨.str (i++j),H,I.tok _,⟨_,rfl⟩,q⟩) hz)
theorem vals1 {x:V} {us:List Value} (r:Vals [x] us):∃ u,us=[u]/\RelV x u:=by
 cases r with
 | cons r1 r2=>cases r2; exact ⟨_,rfl,r1⟩
theorem vals2 {x y:V} {us:List Value} (r:Vals [x,y] us):∃ u w',us=[u,w']/\RelV x u/\RelV y w':=by
 cases r with
 | cons r1 r2=>
  cases r2 with
  | cons r3 r4=>cases r4; exact ⟨_,_,rfl,r1,r3⟩
theorem ur (hc:X.calm=true):CallR X (.builtin "min") (fun xs H Q=>∃ i j,xs=[.int i,.int j]/\Q (.int (if j < i then j else i)) H):=by
 intro pins s σ H xs us Q I r h;obtain ⟨i,j,rfl,q⟩:=h;obtain ⟨u,w',rfl,⟨t,rfl⟩,⟨t',rfl⟩⟩:=vals2 r;refine tokQ I.tk (min_two_ints (I.ok.hd hc) fun h' tk k (htk:0 < tk)=>⟨_,H,I.kept k,?_,q⟩);by_cases hj:j < i
 ·rw [if_pos hj,if_pos hj]; exact ⟨_,rfl⟩
 ·rw [if_neg hj,if_neg hj]; exact ⟨_,rfl⟩
theorem oB:CallR X (.type "int") (fun xs H Q=>(∃ i,xs=[.int i]/\Q (.int i) H)\/∃ k,xs=[.bl k]/\Q (.int (if k then 1 else 0)) H):=by
 intro pins s σ H xs us Q I r h;rcases h with ⟨i,rfl,q⟩ | ⟨k,rfl,q⟩
 ·obtain ⟨u,rfl,t,rfl⟩:=vals1 r;exact call_int_int ⟨.int i,H,I,⟨_,rfl⟩,q⟩
 ·obtain ⟨u,rfl,r1⟩:=vals1 r;cases r1;exact call_int_bool ⟨.int (if k then 1 else 0),H,I.tok _,⟨_,rfl⟩,q⟩
end
structure ObjM (h:Heap) (x dx C:Addr) (mA:Str->Option Value):Prop where
 obj:h.get? x=some (PySem.W.instObj C dx)
 ns:h.Ns1 dx mA
 ne:dx≠x
theorem vq {h:Heap} {dx:Addr} {mA:Str->Option Value} (n:h.Ns1 dx mA):∃ od,h.get? dx=some od/\∀ name,PySem.W.lookIn name od=some (mA name):=by
 obtain ⟨o,es,ep,ho,hd,hk,_,hm⟩:=n;refine ⟨o,ho,fun name=>?_⟩;have e:=hm name;unfold nsFind findBy at e;rw [<- Array.find?_toList] at e;unfold PySem.W.lookIn;rw [hd];dsimp only;split
 ·rename_i y q;rw [q] at e;exact congrArg some e
 ·rename_i q;rw [q] at e;have a:es.toList.any (·.refKey)=false:=by
   rw [List.any_eq_false];intro y hy;obtain ⟨z,t,hkey⟩:=hk y (Array.mem_toList_iff.mp hy);simp [DictEntry.refKey,hkey]
  have a':¬ es.toList.any (·.refKey)=true:=by rw [a]; exact Bool.false_ne_true
  rw [if_neg a'];exact congrArg some e
theorem ObjM.look {h:Heap} {x dx C:Addr} {mA:Str->Option Value} (I:ObjM h x dx C mA):∃ od,PySem.W.InstAt h x (PySem.W.instObj C dx) C (some od)/\∀ name,PySem.W.lookIn name od=some (mA name):=
 let ⟨od,ho,hl⟩:=vq I.ns
 ⟨od,⟨I.obj,rfl,rfl,ho⟩,hl⟩
section
variable {prog:Program} {w:World} {A:Around} {E:Value->Shared->Prop} {s:Shared} {K:Frag} {x dx C f:Addr} {mA:Str->Option Value} {name:Str} {v:Value}
theorem xO {expr:Bool} {Q:Value->Shared->Prop} (X:K.In s.heap) (I:ObjM s.heap x dx C mA) (hg:PySem.W.plainGet K C name=true) (hh:PySem.W.hasDictIn K C=true)
  (ha:findIn K (.ref C) name=some none) (hv:mA name=some v) (hv':PySem.W.handedIn v=true) (h:Q v { s with toks:=s.toks+1 }):
  wpAny (model prog w) A (getAttr (.ref x) name expr) Q E s:=by
 obtain ⟨od,J,hl⟩:=I.look;exact PySem.W.get_value X J (PySem.W.plainGet_of hg).1 (PySem.W.findObj_own hh ha rfl (by rw [hl,hv])) hv' h
theorem ww {pl:Sem Bool} {Q:Value × List Value->Shared->Prop} (X:K.In s.heap) (I:ObjM s.heap x dx C mA) (hg:PySem.W.plainGet K C name=true)
  (hf:findIn K (.ref C) name=some (some (.ref f))) (ht:PySem.W.isFn K (.ref f)=true) (hv:mA name=none) (h:Q (.ref f,[.ref x]) s):
  wpAny (model prog w) A (getMethod (.ref x) name pl) Q E s:=by
 obtain ⟨od,J,hl⟩:=I.look;exact PySem.W.method_fn X J (PySem.W.plainGet_of hg).1 (PySem.W.plainGet_of hg).2 hf (beq_iff_eq.mp ht) (by show (PySem.W.lookIn name od).map (·.isSome)=some false; rw [hl,hv]; rfl) h
theorem yE {ns:List Str} {Q:Unit->Shared->Prop} (X:K.In s.heap) (I:ObjM s.heap x dx C mA)
  (hs:findIn K (.ref C) "__setattr__" = some (some (.builtin "object.__setattr__"))) (hp:PySem.W.plainOver K C=true) (ht:PySem.W.takerIn K C name=some none) (hh:PySem.W.hasDictIn K C=true)
  (hw:PySem.Within mA ns) (hsz:ns.length<=sizeLine)
  (h:∀ h',ObjM h' x dx C (fun y=>if y=name then some v else mA y)->Heap.SameBut dx s.heap h'->Q () { s with heap:=h',toks:=s.toks+2 }):
  wpAny (model prog w) A (setAttr (.ref x) name v) Q E s:=by
 obtain ⟨od,J,hl⟩:=I.look;refine PySem.W.set_plain X J hs (PySem.W.osa_open (s:={ s with toks:=s.toks+1 }) (r:=none) X J hp ht fun b=>?_);obtain ⟨cd,hc,hd'⟩:=PySem.W.any_some hh;have hx:s.heap.get? x=some ⟨.ref C,some dx,.plain,#[]⟩:=I.obj;refine wpAny_bind (wpAny_pure (wpAny_bind (wpAny_bind (wpAny_loadPart hx (wpAny_bind (PySem.W.Looks.here (s:={ s with toks:=s.toks+1 }) (PySem.W.looks_clsIn X hc) ?_))))));rw [hd'];refine wpAny_pure (a:=some dx) (wpAny_bind (wpAny_pure (wpAny_bind ?_)));refine wpAny_nsSet1 (s:={ s with toks:=s.toks+1 }) I.ns fun h' hn2 hs2=>?_
 obtain ⟨oD,esD,epD,hoD,hdD,hcD⟩:=hn2.count (PySem.Within.cons name v hw);refine wpAny_bind (wpAny_lookBehind hoD (by rw [hdD]; exact pastItsLine_dict (Nat.le_trans hcD (by rw [List.length_cons]; omega))) ?_);exact wpAny_pure (h _ ⟨(hs2.2 _ (Ne.symm I.ne)).trans I.obj,hn2,I.ne⟩ hs2)
theorem xg {R:Result->Shared->Prop} {vs:List Value} {kw:List (Str × Value)} (X:K.In s.heap) (hm:PySem.W.makesIn K C=true)
  (hi:findIn K (.ref C) "__init__" = some (some (.ref f))) (hf:PySem.W.typeIn K (.ref f)=some (.type "function"))
  (h:codeAny (model prog w) (A.under (.builtin "type.__call__" ⟨.ref C::vs,kw⟩)) (.call (.ref f) ⟨.ref (s.heap.objs.size+1)::vs,kw⟩) (PySem.W.InitBack (s.heap.objs.size+1) R)
   { s with heap:=(s.heap.push PySem.W.emptyDict).push (PySem.W.instObj C s.heap.objs.size) }):
  codeAny (model prog w) A (.call (.ref C) ⟨vs,kw⟩) R s:=by
 obtain ⟨hh,g,d,t,os⟩:=s;exact PySem.W.make_core (PySem.W.makes_of X hm) (PySem.W.looks_findIn X hi) (fun self=>PySem.W.bind_fn X self hf) (.inl rfl) h
end
noncomputable def putF (f:Str) (v:V):List (Str × V)->List (Str × V)
 | []=>[(f,v)]
 | (g,x)::r=>if g=f then (g,v)::r else (g,x)::putF f v r
theorem kO (f g:Str) (v:V):∀ fs:List (Str × V),(putF f v fs).lookup g=if g=f then some v else fs.lookup g
 | []=>by
  show List.lookup g [(f,v)]=_;by_cases h:g=f
  ·have hb:(g == f)=true:=beq_iff_eq.mpr h;simp only [List.lookup,hb,if_pos h]
  ·have hb:(g == f)=false:=beq_eq_false_iff_ne.mpr h;simp only [List.lookup,hb,if_neg h]
 | (k,x)::r=>by
  have ih:=kO f g v r;rw [show putF f v ((k,x)::r)=(if k=f then (k,v)::r else (k,x)::putF f v r) from rfl];by_cases hk:k=f
  ·rw [if_pos hk];by_cases h:g=k
   ·have hb:(g == k)=true:=beq_iff_eq.mpr h;simp only [List.lookup,hb,if_pos (h.trans hk)]
   ·have hb:(g == k)=false:=beq_eq_false_iff_ne.mpr h;simp only [List.lookup,hb,if_neg (fun e:g=f=>h (e.trans hk.symm))]
  ·rw [if_neg hk];by_cases h:g=k
   ·have hb:(g == k)=true:=beq_iff_eq.mpr h;simp only [List.lookup,hb,if_neg (fun e:g=f=>hk (h.symm.trans e))]
   ·have hb:(g == k)=false:=beq_eq_false_iff_ne.mpr h;simp only [List.lookup,hb];exact ih
theorem kg (f:Str) (v:V):∀ fs:List (Str × V),f ∈ (putF f v fs).map (·.1)/\∀ g,g ∈ fs.map (·.1)->g ∈ (putF f v fs).map (·.1)
 | []=>⟨by simp [putF],fun g h=>by simp at h⟩
 | (k,x)::r=>by
  obtain ⟨i1,i2⟩:=kg f v r;rw [show putF f v ((k,x)::r)=(if k=f then (k,v)::r else (k,x)::putF f v r) from rfl];by_cases hk:k=f
  ·rw [if_pos hk];subst hk;exact ⟨by simp,fun g h=>by simpa using h⟩
  ·rw [if_neg hk];refine ⟨?_,fun g h=>?_⟩
   ·rw [List.map_cons];exact List.mem_cons_of_mem _ i1
   ·rw [List.map_cons] at h ⊢;rcases List.mem_cons.mp h with e | e
    ·exact List.mem_cons.mpr (.inl e)
    ·exact List.mem_cons_of_mem _ (i2 g e)
theorem kW (f:Str) (v:V):∀ fs:List (Str × V),(putF f v fs).length<=fs.length+1
 | []=>by simp [putF]
 | (k,x)::r=>by
  have ih:=kW f v r;rw [show putF f v ((k,x)::r)=(if k=f then (k,v)::r else (k,x)::putF f v r) from rfl];by_cases hk:k=f
  ·rw [if_pos hk,List.length_cons,List.length_cons]; omega
  ·rw [if_neg hk,List.length_cons,List.length_cons]; omega
theorem RelO.some_of {v:V} {o:Option Value} (r:RelO (some v) o):∃ u,o=some u/\RelV v u:=by
 cases o with
 | none=>exact (show False from r).elim
 | some u=>exact ⟨u,rfl,r⟩
theorem RelO.none_of {o:Option Value} (r:RelO none o):o=none:=by
 cases o with
 | none=>rfl
 | some u=>exact (show False from r).elim
theorem vJ {v:V} {u:Value} (r:RelV v u):PySem.W.handedIn u=true:=by
 cases v with
 | non=>cases (show u=Value.none from r); rfl
 | bl b=>cases (show u=Value.bool b from r); rfl
 | int i=>obtain ⟨t,e⟩:=(show ∃ t,u=Value.int i t from r); cases e; rfl
 | str x=>obtain ⟨t,e⟩:=(show ∃ t,u=Value.str x t from r); cases e; rfl
 | byt b=>obtain ⟨t,e⟩:=(show ∃ t,u=Value.bytes b t from r); cases e; rfl
 | flt b=>obtain ⟨t,e⟩:=(show ∃ t,u=Value.float b t from r); cases e; rfl
 | ref a=>cases (show u=Value.ref a from r); rfl
 | ty n=>cases (show u=Value.type n from r); rfl
section
variable {P:Program} {w:World} {H H':Hp} {h h':Heap} {a C dx:Addr} {fs fs':List (Str × V)}
theorem lP (hok:HOk P w H h) (e:H a=some (.ins C dx fs)):∃ mA,ObjM h a dx C mA/\(∀ f,RelO (fs.lookup f) (mA f))/\PySem.Within mA (fs.map (·.1))/\fs.length<=1000/\H dx=some (.own a):=by
 obtain ⟨d,z,ne,ob,mA,n,r,q⟩:=(show ObjOk P w H h a (.ins C dx fs) from hok a _ e);exact ⟨mA,⟨ob,n,ne⟩,r,q,z,d⟩
end
structure Cls (K:Frag) (C:Addr):Prop where
 pg:PySem.W.plainGet K C Str.empty=true
 hd:PySem.W.hasDictIn K C=true
 po:PySem.W.plainOver K C=true
 sa:findIn K (.ref C) "__setattr__" = some (some (.builtin "object.__setattr__"))
theorem Cls.get {K:Frag} {C:Addr} (c:Cls K C) (f:Str):PySem.W.plainGet K C f=true:=c.pg
def NoAttr (K:Frag) (C:Addr) (f:Str):Prop:=findIn K (.ref C) f=some none
theorem NoAttr.taker {K:Frag} {C:Addr} {f:Str} (n:NoAttr K C f):PySem.W.takerIn K C f=some none:=by
 unfold PySem.W.takerIn;rw [show findIn K (.ref C) f=some none from n];rfl
structure Meth (K:Frag) (C:Addr) (m:Str) (f:Addr):Prop where
 at_:findIn K (.ref C) m=some (some (.ref f))
 fn:PySem.W.isFn K (.ref f)=true
 kp:keepIn K (.ref f)=true
section
variable {X:Cx} {pins:List (Addr × Obj)} {σ:St} {H:Hp} {s:Shared} {a C dx:Addr} {fs:List (Str × V)} {f:Str} {v:V} {A:Around} {E:Value->Shared->Prop}
theorem sW {b:Bool} {Q:Value->Shared->Prop} (I:Inv X pins σ H s) (e:H a=some (.ins C dx fs)) (c:Cls X.K C) (n:NoAttr X.K C f) (l:fs.lookup f=some v)
  (h:∀ u s',Inv X pins σ H s'->RelV v u->Q u s'):wpAny (model X.prog X.w) A (getAttr (.ref a) f b) Q E s:=by
 obtain ⟨mA,O,r,_,_,_⟩:=lP I.hok e;obtain ⟨u,hu,ru⟩:=RelO.some_of (v:=v) (o:=mA f) (by rw [<- l]; exact r f);exact xO I.kIn O (c.get f) c.hd n hu (vJ ru) (h u _ (I.tok _) ru)
theorem rR {m:Str} {g:Addr} {pl:Sem Bool} {Q:Value × List Value->Shared->Prop} (I:Inv X pins σ H s) (e:H a=some (.ins C dx fs)) (c:Cls X.K C) (k:Meth X.K C m g) (l:fs.lookup m=none)
  (h:Q (.ref g,[.ref a]) s):wpAny (model X.prog X.w) A (getMethod (.ref a) m pl) Q E s:=by
 obtain ⟨mA,O,r,_,_,_⟩:=lP I.hok e;have hn:mA m=none:=RelO.none_of (by rw [<- l]; exact r m);exact ww I.kIn O (c.get m) k.at_ k.fn hn h
theorem sN {y:V} {u:Value} {Q:Unit->Shared->Prop} (I:Inv X pins σ H s) (e:H a=some (.ins C dx fs)) (c:Cls X.K C) (n:NoAttr X.K C f) (hl:fs.length < 1000) (ry:RelV y u)
  (h:∀ s',Inv X pins σ (upd H a (.ins C dx (putF f y fs))) s'->Q () s'):wpAny (model X.prog X.w) A (setAttr (.ref a) f u) Q E s:=by
 obtain ⟨mA,O,r,wi,_,ho⟩:=lP I.hok e;have hz:(fs.map (·.1)).length<=sizeLine:=by rw [List.length_map,sizeLine_eq]; omega
 refine yE I.kIn O c.sa c.po n.taker c.hd wi hz fun h' O' sb=>h _ ?_
 have hd:∃ o,h'.get? dx=some o:=let ⟨o,_,_,e',_⟩:=O'.ns; ⟨o,e'⟩
 refine I.write (x:=a) (e:=dx) (by rw [e]; exact True.intro) (.inr ho) (fun b q hb z=>(sb.2 b hb).trans z) hd ?_;refine ⟨by rw [ao O.ne]; exact ho,?_,O.ne,O'.obj,_,O'.ns,fun g=>?_,fun g hg=>?_⟩
 ·have:=kW f y fs; omega
 ·show RelO ((putF f y fs).lookup g) (if g=f then some u else mA g);rw [kO];by_cases q:g=f
  ·rw [if_pos q,if_pos q]; exact ry
  ·rw [if_neg q,if_neg q]; exact r g
 ·by_cases q:g=f
  ·rw [q]; exact (kg f y fs).1
  ·refine (kg f y fs).2 g (wi g fun z=>hg ?_);show (if g=f then some u else mA g)=none;rw [if_neg q]; exact z
theorem Inv.made (I:Inv X pins σ H s):Inv X pins σ (upd (upd H s.heap.objs.size (.own (s.heap.objs.size+1))) (s.heap.objs.size+1) (.ins C s.heap.objs.size []))
  { s with heap:=(s.heap.push PySem.W.emptyDict).push (PySem.W.instObj C s.heap.objs.size) }:=by
 have e1:(s.heap.push PySem.W.emptyDict).get? s.heap.objs.size=some PySem.W.emptyDict:=Heap.get?_push_size s.heap rfl;have e2:((s.heap.push PySem.W.emptyDict).push (PySem.W.instObj C s.heap.objs.size)).get? (s.heap.objs.size+1)=some (PySem.W.instObj C s.heap.objs.size):=by
  have:=Heap.get?_push_size (s.heap.push PySem.W.emptyDict) (o:=PySem.W.instObj C s.heap.objs.size) rfl
  rwa [Heap.size_push] at this
 have e3:(s.heap.push PySem.W.emptyDict).Ns s.heap.objs.size (fun _=>none):=⟨PySem.W.emptyDict,#[],_,e1,rfl,(fun e he=>absurd he (by simp)),fun _=>rfl⟩;have I1:=I.laid (a:=s.heap.objs.size) (o:=.own (s.heap.objs.size+1)) (h':=s.heap.push PySem.W.emptyDict) (t':=s.toks) (fun b u q=>Heap.get?_push_of_some _ q) (Nat.le_refl _) ⟨_,e1⟩;refine I1.laid (a:=s.heap.objs.size+1) (o:=.ins C s.heap.objs.size []) (t':=s.toks) (fun b u q=>Heap.get?_push_of_some _ q) (Nat.le_of_eq (Heap.size_push _ _)) ?_;have ne:s.heap.objs.size≠s.heap.objs.size+1:=Nat.ne_of_lt (Nat.lt_succ_self _);refine ⟨by rw [ao ne,upd_same],Nat.zero_le _,ne,e2,fun _=>none,(Heap.Ns1.of_empty e3).at fun o q=>Heap.get?_push_of_some _ q,fun _=>True.intro,fun y hy=>absurd rfl hy⟩
theorem yV {prog:Program} {w:World} {env:Env} {e:Expr} {f:Str} {pos:Pos} {s:Shared} {Q:Value->Shared->Prop} (hb:attributeBase e f env (eval e env)=eval e env)
  (h:wpAny (model prog w) A (eval e env) (fun o s₁=>wpAny (model prog w) A (getAttr o f true) Q E s₁) E s):wpAny (model prog w) A (eval (.Attribute e f pos) env) Q E s:=
 Attribute_any_ h (by rw [arm_eval_Attribute,hb])
end
noncomputable def tFld (K:Frag) (ta:TE) (f:Str):TE:=fun σ H Q=>ta σ H fun x H1=>∃ a C dx fs v,x=.ref a/\H1 a=some (.ins C dx fs)/\Cls K C/\NoAttr K C f/\fs.lookup f=some v/\Q v H1
noncomputable def sFld (K:Frag) (ta tv:TE) (f:Str):TS:=fun D σ H=>tv σ H fun y H1=>ta σ H1 fun x H2=>∃ a C dx fs,x=.ref a/\H2 a=some (.ins C dx fs)/\Cls K C/\NoAttr K C f/\fs.length < 1000 /\
 D.nx σ (upd H2 a (.ins C dx (putF f y fs)))
section
variable {X:Cx} {o e value:Expr} {f:Str} {pos pos' tpos:Pos} {ta tv:TE}
theorem jm (he:PE X e ta) (hb:attributeBase e f X.env (eval e X.env)=eval e X.env):PE X (.Attribute e f pos) (tFld X.K ta f):=by
 intro pins s σ H Q I h;refine yV hb (thn (he pins s σ H _ I h) fun u s1 ⟨x,H1,I1,rx,a,C,dx,fs,v,ex,ea,c,n,l,q⟩=>?_);subst ex;obtain rfl:u=Value.ref a:=rx;exact sW I1 ea c n l fun u' s2 I2 ru=>⟨v,H1,I2,ru,q⟩
theorem pi (ha:PE X o ta) (hv:PE X value tv) (hs:swapsWith value (some (.Attribute o f pos')) pos.line X.env=pure false):PS X (.Assign [.Attribute o f pos'] value pos) (sFld X.K ta tv f):=by
 intro pins s σ H D I h;refine plainObj_wpAny_Assign_Attribute (thn (hv pins s σ H _ I h) fun u s1 ⟨y,H1,I1,ry,q⟩=>thn (ha pins s1 σ H1 _ I1 q) fun ov s2 ⟨x,H2,I2,rx,a,C,dx,fs,ex,ea,c,n,l,q2⟩=>?_) hs;subst ex;obtain rfl:ov=Value.ref a:=rx;exact sN I2 ea c n l ry fun s3 I3=>⟨σ,_,I3,q2⟩
end
section
variable {X:Cx} {pins:List (Addr × Obj)} {σ:St} {H:Hp} {s:Shared} {A:Around} {E:Value->Shared->Prop} {Q:Value->Shared->Prop} {c:Value} {b:Bool}
inductive TyOf (K:Frag) (H:Hp):V->Value->Prop where
 | non:TyOf K H .non (.type "NoneType")
 | bl (x:Bool):TyOf K H (.bl x) (.type "bool")
 | int (i:Int):TyOf K H (.int i) (.type "int")
 | str (x:Str):TyOf K H (.str x) (.type "str")
 | flt (x:UInt64):TyOf K H (.flt x) (.type "float")
 | lst {a:Addr} {xs:List V} (e:H a=some (.lst xs)):TyOf K H (.ref a) (.type "list")
 | frz {a:Addr} {o:Obj} {xs:List V} (e:H a=some (.frz o (.lst xs))):TyOf K H (.ref a) (.type "list")
 | tup {a:Addr} {xs:List V} (e:H a=some (.tup xs)):TyOf K H (.ref a) (.type "tuple")
 | dK {a:Addr} {kvs:List (Key × V)} (e:H a=some (.dK kvs)):TyOf K H (.ref a) (.type "dict")
 | dT {a:Addr} {kvs:List (List Key × V)} (e:H a=some (.dT kvs)):TyOf K H (.ref a) (.type "dict")
 | ins {a C dx:Addr} {fs:List (Str × V)} (e:H a=some (.ins C dx fs)) (cl:Cls K C) (ha:findIn K (.ref C) "__class__" = some (some (.builtin "object.__class__")))
   (hn:PySem.W.specialIn K (.builtin "object.__class__") "__get__" = some (some (.builtin "getset_descriptor.__get__"))) (htk:PySem.W.takesIn K (.builtin "object.__class__")=some true)
   (hm:PySem.W.mroIn K C (.type "object")=some true):TyOf K H (.ref a) (.ref C)
theorem uP {x:V} {u t:Value} (I:Inv X pins σ H s) (rx:RelV x u) (ty:TyOf X.K H x t) (e:PySem.W.kitOne X.K t c=some b) (h:∀ tk,Q (.bool b) { s with toks:=tk }):
  wpAny (model X.prog X.w) A (call (.builtin "isinstance") [u,c]) Q E s:=by
 cases ty with
 | non=>cases (show u=Value.none from rx); exact PySem.W.kia_one PySem.W.kitx_none I.kIn True.intro e (fun z=>nomatch z) h
 | bl y=>cases (show u=Value.bool y from rx); exact PySem.W.kia_one PySem.W.kitx_bool I.kIn True.intro e (fun z=>nomatch z) h
 | int i=>obtain ⟨t,q⟩:=(show ∃ t,u=Value.int i t from rx); cases q; exact PySem.W.kia_one PySem.W.kitx_int I.kIn True.intro e (fun z=>nomatch z) h
 | str y=>obtain ⟨t,q⟩:=(show ∃ t,u=Value.str y t from rx); cases q; exact PySem.W.kia_one PySem.W.kitx_str I.kIn True.intro e (fun z=>nomatch z) h
 | flt y=>obtain ⟨t,q⟩:=(show ∃ t,u=Value.float y t from rx); cases q; exact PySem.W.kia_one PySem.W.kitx_float I.kIn True.intro e (fun z=>nomatch z) h
 | @lst a xs ea=>
  cases (show u=Value.ref a from rx);obtain ⟨_,_,n,_,h1⟩:=(show ObjOk X.prog X.w H s.heap a (.lst xs) from I.hok a _ ea);exact PySem.W.kia_one PySem.W.kitx_list I.kIn ⟨_,h1,rfl⟩ e (fun z=>nomatch z) h
 | @frz a ob xs ea=>
  cases (show u=Value.ref a from rx);obtain ⟨_,_,_,n,_,h1⟩:=(show ObjOk X.prog X.w H s.heap a (.frz ob (.lst xs)) from I.hok a _ ea);exact PySem.W.kia_one PySem.W.kitx_list I.kIn ⟨_,h1,rfl⟩ e (fun z=>nomatch z) h
 | @tup a xs ea=>
  cases (show u=Value.ref a from rx);obtain ⟨_,_,_,p⟩:=(show ObjOk X.prog X.w H s.heap a (.tup xs) from I.hok a _ ea);obtain ⟨o,h1,h2,_⟩:=p;exact PySem.W.kia_one PySem.W.kitx_tuple I.kIn ⟨o,h1,h2⟩ e (fun z=>nomatch z) h
 | @dK a kvs ea=>
  cases (show u=Value.ref a from rx);obtain ⟨_,_,vs,_,p⟩:=(show ObjOk X.prog X.w H s.heap a (.dK kvs) from I.hok a _ ea);obtain ⟨o,es,ep,h1,h2,_⟩:=p;exact PySem.W.kia_one PySem.W.kitx_dict I.kIn ⟨o,h1,h2.1⟩ e (fun z=>nomatch z) h
 | @dT a kvs ea=>
  cases (show u=Value.ref a from rx);obtain ⟨_,_,xs,_,o,es,ep,h1,h2,_⟩:=(show ObjOk X.prog X.w H s.heap a (.dT kvs) from I.hok a _ ea);exact PySem.W.kia_one PySem.W.kitx_dict I.kIn ⟨o,h1,h2.1⟩ e (fun z=>nomatch z) h
 | @ins a C dx fs ea cl ha hn htk hm=>
  cases (show u=Value.ref a from rx);obtain ⟨mA,O,_⟩:=lP I.hok ea;obtain ⟨od,J,_⟩:=O.look;exact PySem.W.kia_one (PySem.W.kitx_own (cl.get _) cl.hd ha hn htk hm) I.kIn J e (fun z=>nomatch z) h
end
structure Room (k:Nat) (A:Around):Prop where
 hd:A.handled=none
 dp:A.depth+3*k+5 < recursionLimit
 un:A.units+16*k+200 < cLine
 gd:A.guards=some []
theorem Room.mono {j k:Nat} {A:Around} (r:Room k A) (h:j<=k):Room j A:=⟨r.hd,by have:=r.dp; omega,by have:=r.un; omega,r.gd⟩
theorem Room.deeper {k:Nat} {A:Around} (r:Room (k+1) A) (env:Env):Room k (A.deeper env):=
 ⟨r.hd,by have:=r.dp; show A.depth+1+3*k+5 < _; omega,by have:=r.un; show A.units+3+16*k+200 < _; omega,r.gd⟩
theorem tG {A:Around} {C:Addr} {us:List Value} {kw:List (Str × Value)}:(A.under (.builtin "type.__call__" ⟨.ref C::us,kw⟩)).depth=A.depth+1:=by
 first | rfl | simp [Around.under,Code.weight,Code.isCreation,Code.isGuard,Code.isCaller,Code.frames,Code.isFrame,guardIds]
theorem tm {A:Around} {C:Addr} {us:List Value} {kw:List (Str × Value)}:(A.under (.builtin "type.__call__" ⟨.ref C::us,kw⟩)).units=A.units+1:=by
 first | rfl | simp [Around.under,Code.cUnits,Code.frames,Code.isFrame]
theorem Room.make {k:Nat} {A:Around} (r:Room (k+1) A) (C:Addr) (us:List Value) (kw:List (Str × Value)):Room k (A.under (.builtin "type.__call__" ⟨.ref C::us,kw⟩)):=
 ⟨r.hd,by have:=r.dp; rw [tG]; omega,by have:=r.un; rw [tm]; omega,by first | exact r.gd | (simpa [Around.under,Code.guards,Code.isGuard,pushGuards,guardIds] using r.gd)⟩
theorem Room.depth {k:Nat} {A:Around} (r:Room k A):A.depth < recursionLimit:=by have:=r.dp; omega
theorem Room.units {k:Nat} {A:Around} (r:Room k A):A.units+64 < cLine:=by have:=r.un; omega
theorem Room.units0 {k:Nat} {A:Around} (r:Room k A):A.units < cLine:=by have:=r.un; omega
noncomputable def tNil:TA:=fun _ H Q=>Q [] H
noncomputable def tCons (ta:TE) (tr:TA):TA:=fun σ H Q=>ta σ H fun x H1=>tr σ H1 fun xs H2=>Q (x::xs) H2
section
variable {X:Cx} {e:Expr} {es:List Expr} {te:TE} {t:TA} {pos:Pos}
theorem ab:PA X [] tNil:=fun _ _ _ _ H Q I h=>Calls.spliced_nil ⟨[],H,I,.nil,h⟩
theorem aa (ha:PE X e te) (hr:PA X es t) (hs:starEach (e::es) X.env=(false,eval e X.env)::starEach es X.env:=by rfl):PA X (e::es) (tCons te t):=by
 intro pos pins s σ H Q I h;rw [hs];show wpAny _ _ (spliced ((false,eval e X.env)::backTo pos (starEach es X.env))) _ _ s;refine Calls.spliced_cons (thn (ha pins s σ H _ I h) fun u s1 ⟨x,H1,I1,r1,q1⟩=>?_);exact thn (hr pos pins s1 σ H1 _ I1 q1) fun us s2 ⟨xs,H2,I2,r2,q2⟩=>⟨x::xs,H2,I2,.cons r1 r2,q2⟩
noncomputable def tTup (t:TA):TE:=fun σ H Q=>t σ H fun xs H1=>xs.length<=sizeLine/\∀ p,H1 p=none->Q (.ref p) (upd H1 p (.tup xs))
noncomputable def tLst (t:TA):TE:=fun σ H Q=>t σ H fun xs H1=>xs.length<=sizeLine/\∀ p,H1 p=none->Q (.ref p) (upd H1 p (.lst xs))
theorem aS {x1} (h:PA X es t):PE X (.Tuple es x1 pos) (tTup t):=by
 intro pins s σ H Q I hq;refine wpAny_Tuple_spliced (thn (h pos pins s σ H _ I hq) fun us s1 ⟨xs,H1,I1,r,z,q⟩=>⟨by rw [<- r.length]; exact z,?_⟩);have hf:H1 s1.heap.objs.size=none:=I1.hok.fresh (Nat.le_refl _);refine ⟨.ref s1.heap.objs.size,upd H1 s1.heap.objs.size (.tup xs),I1.laid (t':=s1.toks) (fun b u e=>Heap.get?_push_of_some _ e) (Nat.le_refl _) ?_,rfl,q _ hf⟩;exact ⟨z,us,r,⟨_,Heap.get?_push_size _ rfl,rfl,_,rfl⟩⟩
theorem br (h:PA X es t):PE X (.List es pos) (tLst t):=by
 intro pins s σ H Q I hq;refine wpAny_List_spliced (thn (h pos pins s σ H _ I hq) fun us s1 ⟨xs,H1,I1,r,z,q⟩=>⟨by rw [<- r.length]; exact z,?_⟩);have hf:H1 s1.heap.objs.size=none:=I1.hok.fresh (Nat.le_refl _);refine ⟨.ref s1.heap.objs.size,upd H1 s1.heap.objs.size (.lst xs),I1.laid (t':=s1.toks) (fun b u e=>Heap.get?_push_of_some _ e) (Nat.le_refl _) ?_,rfl,q _ hf⟩;exact ⟨z,us,0,r,Heap.get?_push_size _ rfl⟩
end
noncomputable abbrev Sp:=List V->Hp->VK->XK->Prop
noncomputable abbrev CXT:=List Env->Hp->Shared->XK->Value->Shared->Prop
structure Env0 (P:Program) (w:World) (K:Frag) (mg:Str->Option Value) (base:Heap) (A:Around) (outer:List Env) (s:Shared) (H:Hp):Prop where
 frames:A.frames=some outer
 mod:Mod K mg base
 bs:∀ b o,base.get? b=some o->s.heap.get? b=some o/\H b=none
 bsz:base.objs.size<=s.heap.objs.size
 funs:s.heap.FunFrames base outer
 frf:∀ b ∈ frs outer,H b=none
 hok:HOk P w H s.heap
 bare:AllBare s.gens
 tk:0 < s.toks
def CE (outer:List Env) (P:Program) (w:World) (H:Hp) (s:Shared) (Q:VK) (u:Value) (s':Shared):Prop:=
 ∃ v H',0 < s'.toks/\s'.os=s.os/\AllBare s'.gens/\Un (frs outer) [] H H' s.heap s'.heap/\HOk P w H' s'.heap/\RelV v u/\Q v H'
def CR (CX:CXT) (outer:List Env) (P:Program) (w:World) (H:Hp) (s:Shared) (Q:VK) (E:XK) (r:Result) (s':Shared):Prop:=
 match r with
 | .ok (.ret u)=>CE outer P w H s Q u s'
 | .ok _=>False
 | .error e=>CX outer H s E e s'
structure FnOk (P:Program) (w:World) (K:Frag) (mg:Str->Option Value) (base:Heap) (CX:CXT) (k:Nat) (f:Addr) (fd:FuncData) (ps:List Str) (sp:Sp):Prop where
 len:∀ vs H Q E,sp vs H Q E->vs.length=ps.length
 run:∀ (A:Around) (outer:List Env) (s:Shared) (H:Hp) (args:Args) (us:List Value) (vs:List V) (Q:VK) (E:XK),Room k A->Env0 P w K mg base A outer s H->BindsTo s fd args (ps.zip us)->Vals vs us->sp vs H Q E ->
  codeAny (model P w) A (.call (.ref f) args) (CR CX outer P w H s Q E) s
theorem Env0.make {P:Program} {w:World} {K:Frag} {mg:Str->Option Value} {base:Heap} {A:Around} {outer:List Env} {s:Shared} {H:Hp} (e:Env0 P w K mg base A outer s H) (C:Addr) (us:List Value) (kw:List (Str × Value)):
  Env0 P w K mg base (A.under (.builtin "type.__call__" ⟨.ref C::us,kw⟩)) outer s H:=⟨by first | exact e.frames | (simpa [Around.under,Code.envs,Code.isFrame,pushEnvs] using e.frames),e.mod,e.bs,e.bsz,e.funs,e.frf,e.hok,e.bare,e.tk⟩
section
variable {X:Cx} {pins:List (Addr × Obj)} {σ:St} {H:Hp} {s s':Shared}
theorem Inv.env0 (I:Inv X pins σ H s):Env0 X.prog X.w X.K X.mg X.base X.A X.stack s H:=
 ⟨I.ok.frames,I.ok.mod,I.bs,Nat.le_trans I.ok.bsz I.sz,I.stack,I.stkFree,I.hok,I.bare,I.tk⟩
theorem Inv.after {Q:VK} {u:Value} (I:Inv X pins σ H s) (h:CE X.stack X.prog X.w H s Q u s'):EP X pins σ Q u s':=by
 obtain ⟨v,H',ht,os,bare,un,hok,r,q⟩:=h;obtain ⟨hh,g,d,t,os'⟩:=s';obtain rfl:os'=s.os:=os;exact ⟨v,H',I.call (h':=hh) (g':=g) (d':=d) (t':=t) (ch:=[]) un hok bare (fun b z=>absurd z (by simp)) ht,r,q⟩
end
noncomputable def tCall (sp:Sp) (dvs:List V) (E:XK) (t:TA):TE:=fun σ H Q=>t σ H fun vs H1=>sp (vs++dvs) H1 Q E
noncomputable def tMeth (C:Addr) (m:Str) (sp:Sp) (dvs:List V) (E:XK) (ta:TE) (t:TA):TE:=fun σ H Q=>ta σ H fun x H1=>∃ a dx fs,x=.ref a/\H1 a=some (.ins C dx fs)/\fs.lookup m=none /\
 t σ H1 fun vs H2=>sp (x::(vs++dvs)) H2 Q E
noncomputable def tMake (C:Addr) (sp:Sp) (dvs:List V) (E:XK) (t:TA):TE:=fun σ H Q=>t σ H fun vs H1=>∀ x dx,H1 x=none->H1 dx=none->dx≠x ->
 sp (.ref x::(vs++dvs)) (upd (upd H1 dx (.own x)) x (.ins C dx [])) (fun v H2=>v=.non/\Q (.ref x) H2) E
def Binds (K:Frag) (fd:FuncData) (ps:List Str) (ds:List Value):Prop:=
 ∀ (s:Shared) (us:List Value),K.In s.heap->(us++ds).length=ps.length->BindsTo s fd ⟨us,[]⟩ (ps.zip (us++ds))
theorem Binds.all {K:Frag} {fd:FuncData} {ps:List Str} (h:∀ us:List Value,us.length=ps.length->bindArgs fd ⟨us,[]⟩=pure (ps.zip us)):Binds K fd ps []:=fun s us _ hl=>by
 rw [List.append_nil] at hl ⊢;exact .of_eq (h us hl)
def Passes (CX:CXT) (X:Cx) (E:XK):Prop:=∀ (pins:List (Addr × Obj)) (σ:St) (H:Hp) (s:Shared) (e:Value) (s':Shared),Inv X pins σ H s->CX X.stack H s E e s'->X.xe e s'
section
variable {X:Cx} {CX:CXT} {k:Nat} {f C:Addr} {fd:FuncData} {ps:List Str} {sp:Sp} {dvs:List V} {ds:List Value} {E:XK} {x m:Str} {p pos apos:Pos} {e o:Expr} {es:List Expr} {ta:TE} {t:TA}
theorem xo {pins:List (Addr × Obj)} {σ:St} {H:Hp} {s:Shared} {Q:VK} {us:List Value} {vs:List V} (F:FnOk X.prog X.w X.K X.mg X.base CX k f fd ps sp) (hr:Room k X.A) (hb:Binds X.K fd ps ds) (hd:Vals dvs ds) (hx:Passes CX X E)
  (I:Inv X pins σ H s) (r:Vals vs us) (h:sp (vs++dvs) H Q E):wpAny (model X.prog X.w) X.A (call (.ref f) us) (EP X pins σ Q) X.xe s:=by
 have r2:Vals (vs++dvs) (us++ds):=r.append hd;have hl:(us++ds).length=ps.length:=by rw [<- r2.length]; exact F.len _ _ _ _ h
 refine wpAny_call (codeAny_mono (F.run X.A X.stack s H ⟨us,[]⟩ (us++ds) (vs++dvs) Q E hr I.env0 (hb s us I.kIn hl) r2 h) fun r s' hq=>?_);cases r with
 | error e=>exact hx pins σ H s e s' I hq
 | ok fl=>
  cases fl with
  | ret u=>exact I.after hq
  | next=>exact False.elim hq
  | brk=>exact False.elim hq
  | cont=>exact False.elim hq
theorem xY (F:FnOk X.prog X.w X.K X.mg X.base CX k f fd ps sp) (hr:Room k X.A) (hg:Gl X x) (hm:X.mg x=some (.ref f)) (hk:keepIn X.K (.ref f)=true) (hb:Binds X.K fd ps ds) (hd:Vals dvs ds) (hx:Passes CX X E)
  (ha:PA X (e::es) t) (hdb:(x == ("__debug__" : Str))=false:=by decide) (he:starEach (e::es) X.env=(false,eval e X.env)::starEach es X.env:=by rfl) (hpl:(backTo pos (starEach es X.env)).any (·.1)=false:=by rfl):
  PE X (.Call (.Name x p) (e::es) [] pos) (tCall sp dvs E t):=by
 intro pins s σ H Q I h;refine wpAny_Call_Name_kw (ud I hg hm ?_ hdb);refine PySem.W.callWith_K (h₀:=X.base) I.ok.mod.kin hk (thn (ha pos pins s σ H _ I h) fun us s1 ⟨vs,H1,I1,r,q⟩=>⟨I1.kIn,?_⟩) he hpl;exact xo F hr hb hd hx I1 r q
theorem xW {pl:Sem Bool} (he:PE X o ta) (c:Cls X.K C) (hm:Meth X.K C m f) (F:FnOk X.prog X.w X.K X.mg X.base CX k f fd ps sp) (hr:Room k X.A) (hb:Binds X.K fd ps ds) (hd:Vals dvs ds) (hx:Passes CX X E) (ha:PA X (e::es) t)
  (hst:starEach (e::es) X.env=(false,eval e X.env)::starEach es X.env:=by rfl) (hpl:(backTo pos (starEach es X.env)).any (·.1)=false:=by rfl)
  (ht:eval (.Call (.Attribute o m apos) (e::es) [] pos) X.env=(do
   let ov <- eval o X.env
   standAt apos.atName
   let (f,first) <- holding [ov] (getMethod ov m pl)
   callWith pos f first (backTo pos (starEach (e::es) X.env)) (backToKw pos (keywordEach [] X.env))):=by rfl):
  PE X (.Call (.Attribute o m apos) (e::es) [] pos) (tMeth C m sp dvs E ta t):=by
 intro pins s σ H Q I h;refine PySem.W.methodCall_KW (pl:=pl) (thn (he pins s σ H _ I h) fun u s1 ⟨x,H1,I1,rx,a,dx,fs,ex,ea,l,q⟩=>?_) ht;subst ex;obtain rfl:u=Value.ref a:=rx;refine rR I1 ea c hm l ?_;refine PySem.W.callWith_K (first:=[.ref a]) (h₀:=X.base) I.ok.mod.kin hm.kp (thn (ha pos pins s1 σ H1 _ I1 q) fun us s2 ⟨vs,H2,I2,r,q2⟩=>⟨I2.kIn,?_⟩) hst hpl;exact xo (us:=.ref a::us) (vs:=.ref a::vs) F hr hb hd hx I2 (.cons rfl r) q2
structure Mk (K:Frag) (C f:Addr):Prop where
 makes:PySem.W.makesIn K C=true
 init:findIn K (.ref C) "__init__" = some (some (.ref f))
 fn:PySem.W.isFn K (.ref f)=true
 kp:keepIn K (.ref C)=true
theorem vT {pins:List (Addr × Obj)} {σ:St} {H:Hp} {s:Shared} {Q:VK} {us:List Value} {vs:List V} (M:Mk X.K C f) (F:FnOk X.prog X.w X.K X.mg X.base CX k f fd ps sp) (hr:Room (k+1) X.A) (hb:Binds X.K fd ps ds) (hd:Vals dvs ds)
  (hx:Passes CX X E) (I:Inv X pins σ H s) (r:Vals vs us)
  (h:∀ x dx,H x=none->H dx=none->dx≠x->sp (.ref x::(vs++dvs)) (upd (upd H dx (.own x)) x (.ins C dx [])) (fun v H2=>v=.non/\Q (.ref x) H2) E):
  wpAny (model X.prog X.w) X.A (call (.ref C) us) (EP X pins σ Q) X.xe s:=by
 have hq:=h (s.heap.objs.size+1) s.heap.objs.size (I.hok.fresh (Nat.le_succ _)) (I.hok.fresh (Nat.le_refl _)) (Nat.ne_of_lt (Nat.lt_succ_self _));have I2:=Inv.made (C:=C) I;have r2:Vals (V.ref (s.heap.objs.size+1)::(vs++dvs)) (Value.ref (s.heap.objs.size+1)::(us++ds)):=.cons rfl (r.append hd);have hl:(Value.ref (s.heap.objs.size+1)::us++ds).length=ps.length:=by
  have e:=r2.length;rw [F.len _ _ _ _ hq] at e;exact e.symm
 refine wpAny_call (xg (f:=f) I.kIn M.makes M.init (beq_iff_eq.mp M.fn) (codeAny_mono (F.run _ X.stack _ _ ⟨Value.ref (s.heap.objs.size+1)::us,[]⟩ (Value.ref (s.heap.objs.size+1)::(us++ds)) _ _ E (hr.make C us [])
  (I2.env0.make C us []) (hb _ (Value.ref (s.heap.objs.size+1)::us) I2.kIn hl) r2 hq) fun r s' hq'=>?_))
 cases r with
 | error e=>exact hx pins σ _ _ e s' I2 hq'
 | ok fl=>
  cases fl with
  | ret u=>
   obtain ⟨v,H',I3,rv,ev,q3⟩:=I2.after hq';subst ev;exact ⟨rv,⟨V.ref (s.heap.objs.size+1),H',I3,rfl,q3⟩⟩
  | next=>exact False.elim hq'
  | brk=>exact False.elim hq'
  | cont=>exact False.elim hq'
theorem yp (M:Mk X.K C f) (F:FnOk X.prog X.w X.K X.mg X.base CX k f fd ps sp) (hr:Room (k+1) X.A) (hg:Gl X x) (hm:X.mg x=some (.ref C)) (hb:Binds X.K fd ps ds) (hd:Vals dvs ds) (hx:Passes CX X E)
  (ha:PA X (e::es) t) (hdb:(x == ("__debug__" : Str))=false:=by decide) (he:starEach (e::es) X.env=(false,eval e X.env)::starEach es X.env:=by rfl) (hpl:(backTo pos (starEach es X.env)).any (·.1)=false:=by rfl):
  PE X (.Call (.Name x p) (e::es) [] pos) (tMake C sp dvs E t):=by
 intro pins s σ H Q I h;refine wpAny_Call_Name_kw (ud I hg hm ?_ hdb);refine PySem.W.callWith_K (h₀:=X.base) I.ok.mod.kin M.kp (thn (ha pos pins s σ H _ I h) fun us s1 ⟨vs,H1,I1,r,q⟩=>⟨I1.kIn,?_⟩) he hpl;exact vT M F hr hb hd hx I1 r q
end
section
variable {X:Cx} {CX:CXT} {k:Nat} {f C:Addr} {fd:FuncData} {ps ks:List Str} {sp:Sp} {E:XK} {x m:Str} {p pos apos kpos:Pos} {e o:Expr} {es:List Expr} {kws:List Keyword} {te ta:TE} {t tk:TA} {nm:Option Str}
variable {g:List Value->List Value->List Value} {gV:List V->List V->List V}
end
structure FnScope (N P:List Str) (sc:Scope):Prop where
 kind:sc.kind=.function
 co:sc.isCoroutine=false
 gen:sc.isGenerator=false
 nd:N.Nodup
 pre:N.take P.length=P
 par:∀ x ∈ P,sc.names.lookup x=some .local\/sc.names.lookup x=some .cell
 nofree:∀ y ∈ sc.names,y.2≠.free
theorem oA {kindOf:Str->Option NameKind} {x:Str}:∀ {binds:List (Str × Value)} {m:Str->Option Value},(∀ v,(x,v) ∉ binds)->bindL kindOf binds m x=m x
 | [],_,_=>rfl
 | (n,v)::r,m,h=>by
  unfold bindL;rw [oA fun w hw=>h w (List.mem_cons_of_mem _ hw)];split
  ·have:x≠n:=by rintro rfl; exact h v List.mem_cons_self
   simp [this]
  ·rfl
theorem oT {kindOf:Str->Option NameKind} {x:Str}:∀ {binds:List (Str × Value)} {m:Str->Option Value},(∀ v,(x,v) ∉ binds)->bindC kindOf binds m x=m x
 | [],_,_=>rfl
 | (n,v)::r,m,h=>by
  unfold bindC;rw [oT fun w hw=>h w (List.mem_cons_of_mem _ hw)];split
  ·rfl
  ·have:x≠n:=by rintro rfl; exact h v List.mem_cons_self
   simp [this]
theorem n9 {kindOf:Str->Option NameKind} {x:Str} {v:Value}:∀ {P:List Str} {vs:List Value} {i:Nat} {m:Str->Option Value},P.Nodup->P[i]? = some x->vs[i]? = some v->kindOf x=some .local ->
  bindL kindOf (P.zip vs) m x=some v
 | [],_,_,_,_,h,_,_=>by simp at h
 | _::_,[],_,_,_,_,h,_=>by simp at h
 | p::P,w::vs,0,m,nd,h1,h2,hk=>by
  simp at h1 h2; subst h1; subst h2;show bindL kindOf ((p,w)::P.zip vs) m p=_;unfold bindL;rw [oA fun v hv=>(List.nodup_cons.mp nd).1 (List.of_mem_zip hv).1,if_pos hk];simp
 | p::P,w::vs,i+1,m,nd,h1,h2,hk=>by
  show bindL kindOf ((p,w)::P.zip vs) m x=_;unfold bindL;exact n9 (i:=i) (List.nodup_cons.mp nd).2 (by simpa using h1) (by simpa using h2) hk
theorem oR {kindOf:Str->Option NameKind} {x:Str} {v:Value}:∀ {P:List Str} {vs:List Value} {i:Nat} {m:Str->Option Value},P.Nodup->P[i]? = some x->vs[i]? = some v->kindOf x≠some .local ->
  bindC kindOf (P.zip vs) m x=some v
 | [],_,_,_,_,h,_,_=>by simp at h
 | _::_,[],_,_,_,_,h,_=>by simp at h
 | p::P,w::vs,0,m,nd,h1,h2,hk=>by
  simp at h1 h2; subst h1; subst h2;show bindC kindOf ((p,w)::P.zip vs) m p=_;unfold bindC;rw [oT fun v hv=>(List.nodup_cons.mp nd).1 (List.of_mem_zip hv).1,if_neg hk];simp
 | p::P,w::vs,i+1,m,nd,h1,h2,hk=>by
  show bindC kindOf ((p,w)::P.zip vs) m x=_;unfold bindC;exact oR (i:=i) (List.nodup_cons.mp nd).2 (by simpa using h1) (by simpa using h2) hk
noncomputable def start (N:List Str) (vs:List V):St:=vs.map some++List.replicate (N.length - vs.length) none
noncomputable def cxOf (CX:CXT) (P:Program) (w:World) (K:Frag) (mg:Str->Option Value) (base:Heap) (N:List Str) (qual:Str) (scope:Scope) (f:Addr) (cd:Value) (A:Around) (outer:List Env) (s:Shared) (H:Hp) (E:XK):Cx where
 prog:=P
 w:=w
 K:=K
 mg:=mg
 base:=base
 A:=A.deeper (envOfC qual scope s.heap.objs.size f cd)
 N:=N
 s₀:=s
 H₀:=H
 env:=envOfC qual scope s.heap.objs.size f cd
 outer:=outer
 stack:=envOfC qual scope s.heap.objs.size f cd::outer
 ex:=[]
 calm:=true
 fn:=fun _=>true
 pn:=[]
 xe:=fun e s'=>wpAny (model P w) (A.deeper (envOfC qual scope s.heap.objs.size f cd)) (leaving (envOfC qual scope s.heap.objs.size f cd) e) (fun _ s''=>CX outer H s E e s'') (fun e' s''=>CX outer H s E e' s'') s'
theorem qt {sc:Scope} {n:Nat} {x:Str} (h:sc.names.lookup x=some .cell):∃ c,(cellsFrom n sc.names []).lookup x=some c:=by
 have q:=PySem.W.cellsFrom_some sc.names n [] (.inl h);exact Option.isSome_iff_exists.mp q
theorem uW {CX:CXT} {P:Program} {w:World} {K:Frag} {mg:Str->Option Value} {base:Heap} {N ps:List Str} {qual:Str} {scope:Scope} {f:Addr} {cd:Value} {A:Around} {outer:List Env} {s s1:Shared} {H:Hp} {E:XK} {us:List Value} {vs:List V}
  (S:FnScope N ps scope) (hd:A.handled=none) (e0:Env0 P w K mg base A outer s H) (hl:vs.length=ps.length) (r:Vals vs us)
  (x:InCallC s s.heap.objs.size (bindL (envOfC qual scope s.heap.objs.size f cd).kindOf (ps.zip us) fun _=>none) (cellsFrom (s.heap.objs.size+1) scope.names []) (bindC (envOfC qual scope s.heap.objs.size f cd).kindOf (ps.zip us) fun _=>none) s1) (htk:0 < s1.toks):
  Inv (cxOf CX P w K mg base N qual scope f cd A outer s H E) [] (start N vs) H s1:=by
 have hpl:ps.length<=N.length:=by have:=congrArg List.length S.pre; rw [List.length_take] at this; omega
 obtain ⟨h1,tk,rfl,hk⟩:=x.done;have noA:∀ b:Addr,b ∉ (cxOf CX P w K mg base N qual scope f cd A outer s H E).ex:=fun b z=>absurd (show b ∈ ([]:List Addr) from z) (by simp)
 refine ⟨⟨e0.mod,S.kind,rfl,rfl,Nat.le_refl _,fun y z c h1 h2=>?_,fun y hy=>?_,fun y c _ h=>?_,fun _=>hd,Around.frames_deeper e0.frames,.inr ⟨rfl,rfl⟩,fun b z=>absurd z (noA b),e0.bs,e0.bsz,fun b _ _=>noA b,fun b z=>absurd z (noA b),e0.funs,e0.frf⟩,
  rfl,e0.bare,Un.kept hk,⟨_,x.toInCall.ns,fun i y v h1 h2 h3=>?_⟩,fun y c h=>⟨_,x.cell y c h⟩,e0.hok.fresh (Nat.le_refl _),fun y c h=>?_,fun p hp=>absurd (show p ∈ ([]:List (Addr × Obj)) from hp) (by simp),e0.hok.kept hk,?_,htk⟩
 ·exact name_of_addr x.apart (PySem.mem_of_lookup h1) (PySem.mem_of_lookup h2)
 ·have hy:scope.names.lookup y=some .cell\/scope.names.lookup y=some .free:=hy;rcases hy with hy | hy
  ·exact qt hy
  ·exact absurd rfl (S.nofree _ (PySem.mem_of_lookup hy))
 ·exact Nat.le_of_lt (x.above y c (PySem.mem_of_lookup h))
 ·have hi:i < vs.length:=by
   unfold start at h2;by_cases hi:i < vs.length
   ·exact hi
   ·rw [List.getElem?_append_right (by simpa using hi)] at h2;rw [List.getElem?_replicate] at h2;split at h2 <;> cases h2
  have ha:vs[i]? = some v:=by
   unfold start at h2;rw [List.getElem?_append_left (by simpa using hi),List.getElem?_map] at h2;cases e:vs[i]? with
   | none=>rw [e] at h2; cases h2
   | some a=>rw [e] at h2; cases h2; rfl
  obtain ⟨u,hu,rv⟩:=r.get ha;have hp:ps[i]? = some y:=by
   rw [<- S.pre,List.getElem?_take_of_lt (by omega)]; exact h1
  have ndP:ps.Nodup:=by rw [<- S.pre]; exact S.nd.sublist (List.take_sublist _ _)
  refine ⟨u,rv,?_⟩;rcases S.par y (List.mem_of_getElem? hp) with k | k
  ·exact .inl ⟨k,n9 ndP hp hu k⟩
  ·obtain ⟨c,e⟩:=qt (n:=s.heap.objs.size+1) k;refine .inr ⟨.inl k,c,e,?_⟩;have q:=x.cell y c e;rw [oR ndP hp hu (by show scope.names.lookup y≠_; rw [k]; decide)] at q;exact q
 ·exact e0.hok.fresh (Nat.le_of_lt (x.above y c (PySem.mem_of_lookup h)))
 ·unfold start;show _=N.length;rw [List.length_append,List.length_map,List.length_replicate];omega
theorem zm {CX:CXT} {P:Program} {w:World} {K:Frag} {mg:Str->Option Value} {base:Heap} {k:Nat} {f:Addr} {name qual:Str} {params:Arguments} {body:List Stmt} {scope:Scope} {dV kV doc pm cdv ct oc:Value} {an od:Option Addr}
  {osl:Array (Option Value)} {N ps:List Str} {sp:Sp} (lk:K.lookup f=some ⟨oc,od,.func (fnOf name qual params body scope dV kV doc pm an cdv ct),osl⟩) (hcd:codeIn K cdv qual=true) (S:FnScope N ps scope)
  (len:∀ vs H Q E,sp vs H Q E->vs.length=ps.length)
  (hbody:∀ (A:Around) (outer:List Env) (s:Shared) (H:Hp) (vs:List V) (Q:VK) (E:XK),Room k (A.deeper (envOfC qual scope s.heap.objs.size f cdv))->sp vs H Q E ->
   ∃ t,PSs (cxOf CX P w K mg base N qual scope f cdv A outer s H E) body t/\t { nx:=fun _ H'=>Q .non H',rt:=Q } (start N vs) H):
  FnOk P w K mg base CX (k+1) f (fnOf name qual params body scope dV kV doc pm an cdv ct) ps sp:=by
 refine ⟨len,fun A outer s H args us vs Q E hr e0 hb r hsp=>?_⟩;have hl:=len _ _ _ _ hsp;have KX:K.In s.heap:=e0.mod.kin.keeps fun b o e=>(e0.bs b o e).1
 have lim:s.heap.NoLimit:=e0.mod.nolimit.keeps fun b o e=>(e0.bs b o e).1
 have hkind:∀ y ∈ ps.zip us,scope.names.lookup y.1=some .local\/(scope.names.lookup y.1=some .cell/\((cellsFrom (s.heap.objs.size+1) scope.names []).lookup y.1).isSome=true):=fun ⟨n,v⟩ hy=>by
  rcases S.par n (List.of_mem_zip hy).1 with q | q
  ·exact .inl q
  ·exact .inr ⟨q,PySem.W.cellsFrom_some _ _ _ (.inl q)⟩
 refine codeAny_call_function hr.depth (KX _ _ lk) rfl S.co S.gen rfl (PySem.W.codeRec_of KX hcd) (hb _ _ _ _ ?_);refine tokQ e0.tk (wpAny_newFunctionEnv_cells S.kind hkind fun env he s1 x htk=>?_);subst he;refine ⟨lim.keeps x.toInCall.keep,codeAny_func ?_⟩;obtain ⟨t,ht,hq⟩:=hbody A outer s H vs Q E (hr.deeper _) hsp;have I:Inv (cxOf CX P w K mg base N qual scope f cdv A outer s H E) [] (start N vs) H s1:=uW S hr.hd e0 hl r x htk;refine wpAny_mono (ht [] s1 (start N vs) H _ I hq) (fun fl s' hs=>?_) fun e s' hs=>hs
 have fin:∀ {σ':St} {H':Hp} {v:V} {u:Value},Inv (cxOf CX P w K mg base N qual scope f cdv A outer s H E) [] σ' H' s'->RelV v u->Q v H'->CE outer P w H s Q u s':=
  fun {σ' H' v u} J rv q=>⟨v,H',J.tk,J.os,J.bare,J.base,J.hok,rv,q⟩
 cases fl with
 | ret u=>
  obtain ⟨v,σ',H',J,rv,q⟩:=hs;exact fin J rv q
 | next=>
  obtain ⟨σ',H',J,q⟩:=hs;exact fin (v:=V.non) (u:=Value.none) J rfl q
 | brk=>
  obtain ⟨_,_,_,q⟩:=hs;exact False.elim q
 | cont=>
  obtain ⟨_,_,_,q⟩:=hs;exact False.elim q
section
variable {X:Cx} {x:Str} {p pos:Pos} {e:Expr} {es:List Expr} {t:TA} {id T:String} {r:List V->Hp->VK->Prop}
noncomputable def tCB (r:List V->Hp->VK->Prop) (t:TA):TE:=fun σ H Q=>t σ H fun vs H1=>r vs H1 Q
theorem au (hc:CallR X (.builtin id) r) (hg:Gl X x) (hm:X.mg x=none) (hv:bootBuiltins x=some (.builtin id)) (ha:PA X (e::es) t) (hn:x ≠ "__name__" := by decide) (hdb:(x == ("__debug__" : Str))=false:=by decide)
  (he:starEach (e::es) X.env=(false,eval e X.env)::starEach es X.env:=by rfl) (hpl:(backTo pos (starEach es X.env)).any (·.1)=false:=by rfl):PE X (.Call (.Name x p) (e::es) [] pos) (tCB r t):=by
 intro pins s σ H Q I h;refine wpAny_Call_Name_kw (cR I hg hm hv ?_ hn hdb);exact PyProof.Rows.callWith_builtin1 (thn (ha pos pins s σ H _ I h) fun us s1 ⟨vs,H1,I1,r1,q1⟩=>hc pins s1 σ H1 vs us Q I1 r1 q1) he hpl
theorem fR (hc:CallR X (.type T) r) (hg:Gl X x) (hm:X.mg x=none) (hv:bootBuiltins x=some (.type T)) (ha:PA X (e::es) t) (hn:x ≠ "__name__" := by decide) (hdb:(x == ("__debug__" : Str))=false:=by decide)
  (he:starEach (e::es) X.env=(false,eval e X.env)::starEach es X.env:=by rfl) (hpl:(backTo pos (starEach es X.env)).any (·.1)=false:=by rfl):PE X (.Call (.Name x p) (e::es) [] pos) (tCB r t):=by
 intro pins s σ H Q I h;refine wpAny_Call_Name_kw (cR I hg hm hv ?_ hn hdb);exact PyProof.Rows.callWith_type1 (thn (ha pos pins s σ H _ I h) fun us s1 ⟨vs,H1,I1,r1,q1⟩=>hc pins s1 σ H1 vs us Q I1 r1 q1) he hpl
end
end L2
namespace HT
open PySem PyProof.Rows
section
open PySem.SeqAt
open PySem.AutoSeq1 (wpAny_loadPart')
open PySem.MeetsSeq PySem.MeetsSeq2 PySem.MeetsSeq3
end
section
variable {prog:Program} {w:World} {A:Around} {E:Value->Shared->Prop} {s:Shared}
noncomputable def sIx (n d:Nat):Option Int->Nat
 | none=>d
 | some v=>if v < 0 then (v+(n:Int)).toNat else min v.toNat n
end
end HT
namespace L2
open PySem PySem.Spec PyProof.Rows
noncomputable abbrev TO:=St->Hp->(Option Int->Hp->Prop)->Prop
def PO (X:Cx) (e:Option Expr) (t:TO):Prop:=
 ∀ (pins:List (Addr × Obj)) (s:Shared) (σ:St) (H:Hp) (Q:Option Int->Hp->Prop),Inv X pins σ H s->t σ H Q ->
  wpAny (model X.prog X.w) X.A (evalPart e X.env) (fun u s'=>∃ o H',Inv X pins σ H' s'/\IsPart u o/\Q o H') X.xe s
noncomputable def tNoPart:TO:=fun _ H Q=>Q none H
noncomputable def tPart (t:TE):TO:=fun σ H Q=>t σ H fun x H1=>∃ i,x=.int i/\Q (some i) H1
theorem m8 {ns:List Int}:∀ {us:List Value},Vals (ns.map V.int) us->IntsAre us ns:=by
 induction ns with
 | nil=>intro us r; rw [List.map_nil] at r; cases r; exact .nil
 | cons n ns ih=>
  intro us r;rw [List.map_cons] at r;cases r with
  | cons r1 r2=>
   obtain ⟨t,e⟩:=r1;subst e;exact .cons n t (ih r2)
section
variable {X:Cx} {e:Expr} {te:TE} {lo hi:Option Expr} {tl th:TO} {pos p2:Pos}
theorem cm:PO X none tNoPart:=by
 intro pins s σ H Q I h;rw [evalPart_none];exact wpAny_pure ⟨none,H,I,.none,h⟩
theorem yC (h:PE X e te):PO X (some e) (tPart te):=by
 intro pins s σ H Q I hw;rw [evalPart_some];refine thn (h pins s σ H _ I hw) fun u s1 ⟨x,H1,I1,r1,q1⟩=>?_
 obtain ⟨i,rfl,q⟩:=q1;obtain ⟨t,rfl⟩:=r1;exact ⟨some i,H1,I1,.int i t,q⟩
def SlR (X:Cx) (r:V->Option Int->Option Int->Hp->VK->Prop):Prop:=
 ∀ (pins:List (Addr × Obj)) (s:Shared) (σ:St) (H:Hp) (x:V) (v vl vu:Value) (lo hi:Option Int) (sl:Addr) (Q:VK),Inv X pins σ H s->RelV x v->s.heap.IsSliceOf sl vl vu .none->IsPart vl lo->IsPart vu hi->r x lo hi H Q ->
  ∃ T id,typeLookup (.type T) "__getitem__" = pure (some (.builtin id))/\s.TypeIs v T/\wpAny (model X.prog X.w) X.A (getItem v (.ref sl)) (EP X pins σ Q) X.xe s
theorem SlR.or {r r':V->Option Int->Option Int->Hp->VK->Prop} (h:SlR X r) (h':SlR X r'):SlR X (fun x lo hi H Q=>r x lo hi H Q\/r' x lo hi H Q):=by
 intro pins s σ H x v vl vu lo hi sl Q I rx hs pl pu q;rcases q with q | q
 ·exact h pins s σ H x v vl vu lo hi sl Q I rx hs pl pu q
 ·exact h' pins s σ H x v vl vu lo hi sl Q I rx hs pl pu q
noncomputable def tSl (r:V->Option Int->Option Int->Hp->VK->Prop) (te:TE) (tl th:TO):TE:=fun σ H Q=>te σ H fun x H1=>tl σ H1 fun l H2=>th σ H2 fun u H3=>r x l u H3 Q
theorem bA {r:V->Option Int->Option Int->Hp->VK->Prop} (hr:SlR X r) (he:PE X e te) (hl:PO X lo tl) (hu:PO X hi th):PE X (.Subscript e (.Slice lo hi none p2) pos) (tSl r te tl th):=by
 intro pins s σ H Q I h;refine Subscript_ (thn (he pins s σ H _ I h) fun v s1 ⟨x,H1,I1,r1,q1⟩=>?_);refine wpAny_Slice (thn (hl pins s1 σ H1 _ I1 q1) fun vl s2 ⟨l,H2,I2,pl,q2⟩=>thn (hu pins s2 σ H2 _ I2 q2) fun vu s3 ⟨u,H3,I3,pu,q3⟩=>?_);rw [evalPart_none];refine wpAny_pure ?_;have I4:Inv X pins σ H3 { s3 with heap:=s3.heap.push { cls:=.type "slice",data:=.fields #[vl,vu,.none] } }:=I3.kept (t':=s3.toks) fun b ob q=>Heap.get?_push_of_some _ q
 obtain ⟨T,id,hT,ht,hg⟩:=hr pins { s3 with heap:=s3.heap.push { cls:=.type "slice",data:=.fields #[vl,vu,.none] } } σ H3 x v vl vu l u s3.heap.objs.size Q I4 r1 (Heap.IsSliceOf.new ..) pl pu q3;show wpAny (model X.prog X.w) X.A (subscriptTail e (.Slice lo hi none p2) v (.ref s3.heap.objs.size)) (EP X pins σ Q) X.xe { s3 with heap:=s3.heap.push { cls:=.type "slice",data:=.fields #[vl,vu,.none] } };exact tail_any (ops:=[.ref s3.heap.objs.size,v]) ht hT hg (by with_unfolding_all rfl)
noncomputable def cutV (xs:List V) (lo hi:Option Int):List V:=(xs.drop (HT.sIx xs.length 0 lo)).take (HT.sIx xs.length xs.length hi - HT.sIx xs.length 0 lo)
theorem qq (xs:List V) (lo hi:Option Int):(cutV xs lo hi).length<=xs.length:=by
 unfold cutV;rw [List.length_take,List.length_drop];omega
end
noncomputable def ixN (n:Nat) (i:Int):Option Nat:=if 0<=i then (if i < n then some i.toNat else none) else if -(n:Int)<=i then some (i+n).toNat else none
noncomputable def atI {α:Type} (xs:List α) (i:Int):Option α:=(ixN xs.length i).bind fun j=>xs[j]?
theorem tR {n:Nat} {i:Int} {j:Nat} (h:ixN n i=some j):seqIndex? i n=some j/\j < n /\ -(n:Int)<=i/\i < n:=by
 unfold ixN at h;by_cases h0:0<=i
 ·rw [if_pos h0] at h;by_cases h1:i < n
  ·rw [if_pos h1] at h;have e:i.toNat=j:=Option.some.inj h;exact ⟨by rw [seqIndex_of h0 h1,e],by omega,by omega,h1⟩
  ·rw [if_neg h1] at h; cases h
 ·rw [if_neg h0] at h;by_cases h1:-(n:Int)<=i
  ·rw [if_pos h1] at h;have e:(i+n).toNat=j:=Option.some.inj h;exact ⟨by rw [seqIndex_neg (by omega) h1,e],by omega,h1,by omega⟩
  ·rw [if_neg h1] at h; cases h
theorem pz {α:Type} {xs:List α} {i:Int} {v:α} (h:atI xs i=some v):∃ j,seqIndex? i xs.length=some j/\xs[j]? = some v/\j < xs.length /\ -(xs.length:Int)<=i/\i < xs.length:=by
 unfold atI at h;cases e:ixN xs.length i with
 | none=>rw [e] at h; cases h
 | some j=>
  rw [e] at h;obtain ⟨h1,h2,h3,h4⟩:=tR e;exact ⟨j,h1,h,h2,h3,h4⟩
theorem bR {α:Type} {xs:List α} {j:Nat} {v:α} (h:xs[j]? = some v):atI xs (j:Int)=some v:=by
 have hj:j < xs.length:=(List.getElem?_eq_some_iff.mp h).1;have e:ixN xs.length (j:Int)=some j:=by
  unfold ixN;rw [if_pos (by omega),if_pos (by omega)]; simp
 unfold atI; rw [e]; exact h
def PlainIx (b:Expr):Prop:=∀ o i,subscripted b false o i=operate [o,i] (getItem o i)
def IxR (X:Cx) (r:R2):Prop:=
 ∀ (value slice:Expr) (pins:List (Addr × Obj)) (s:Shared) (σ:St) (H:Hp) (x y:V) (v u:Value) (Q:VK),Inv X pins σ H s->RelV x v->RelV y u->r x y H Q ->
  subscripted slice false v u=operate [v,u] (getItem v u)->wpAny (model X.prog X.w) X.A (subscriptTail value slice v u) (EP X pins σ Q) X.xe s
def MtR (X:Cx) (id:String) (r:V->List V->Hp->VK->Prop):Prop:=
 ∀ (pins:List (Addr × Obj)) (s:Shared) (σ:St) (H:Hp) (x:V) (xs:List V) (v:Value) (us:List Value) (Q:VK),Inv X pins σ H s->RelV x v->Vals xs us->r x xs H Q ->
  wpAny (model X.prog X.w) X.A (call (.builtin id) (v::us)) (EP X pins σ Q) X.xe s
section
variable {X:Cx} {a b:Expr} {ta tb:TE} {pos:Pos}
theorem IxR.or {r r':R2} (h:IxR X r) (h':IxR X r'):IxR X (fun x y H Q=>r x y H Q\/r' x y H Q):=by
 intro value slice pins s σ H x y v u Q I rx ry q hs;rcases q with q | q
 ·exact h value slice pins s σ H x y v u Q I rx ry q hs
 ·exact h' value slice pins s σ H x y v u Q I rx ry q hs
theorem az {r:R2} (hr:IxR X r) (ha:PE X a ta) (hb:PE X b tb) (hs:PlainIx b):PE X (.Subscript a b pos) (tOp r ta tb):=by
 intro pins s σ H Q I h;exact Subscript_ (binT ha hb I h fun v u s2 x y H2 I2 rx ry q=>hr a b pins s2 σ H2 x y v u Q I2 rx ry q (hs _ _))
noncomputable def rIxL (K:Frag):R2:=fun x y H Q=>∃ p xs i v,x=.ref p/\y=.int i/\SqL K H p xs/\atI xs i=some v/\Q v H
noncomputable def rIxT (K:Frag):R2:=fun x y H Q=>∃ p xs i v,x=.ref p/\y=.int i/\SqT K H p xs/\atI xs i=some v/\Q v H
noncomputable def rIxS:R2:=fun x y H Q=>∃ z i c,x=.str z/\y=.int i/\z.length<=sizeLine/\atI z.cps.toList i=some c/\Q (.str ⟨#[c]⟩) H
theorem yg:IxR X (rIxL X.K):=by
 intro value slice pins s σ H x y v u Q I rx ry h hs;obtain ⟨p,xs,i,z,rfl,rfl,hq,he,q⟩:=h;cases rx;obtain ⟨t,rfl⟩:=ry;obtain ⟨its,r,pl,hz⟩:=I.list hq;obtain ⟨j,h1,h2,h3,h4,h5⟩:=pz he;obtain ⟨w,ew,rw'⟩:=r.get h2;have hl:=r.length;have hn:=line63;have fin:EP X pins σ Q w s:=⟨z,H,I,rw',q⟩;by_cases h0:0<=i
 ·have hj:i.toNat=j:=by
   rw [seqIndex_of h0 h5] at h1;exact Option.some.inj h1
  exact item_listR pl.isList h0 (by omega) (by rw [hj]; simpa using ew) fin hs
 ·have hj:(i+(its.toArray.size:Int)).toNat=j:=by
   rw [seqIndex_neg (by omega) h4] at h1;rw [List.size_toArray,<- hl];exact Option.some.inj h1
  exact subscriptTail_builtinR (x:=w) pl.isList.typeIs slot_list_getitem.lookup
   (wpAny_getItem_list_neg (Q:=fun r s'=>r=w/\EP X pins σ Q r s') pl.isList (by omega) (by rw [List.size_toArray] <;> omega) (by omega) (by rw [hj]; simpa using ew) ⟨rfl,fin⟩) hs
theorem Ao:IxR X (rIxT X.K):=by
 intro value slice pins s σ H x y v u Q I rx ry h hs;obtain ⟨p,xs,i,z,rfl,rfl,hq,he,q⟩:=h;cases rx;obtain ⟨t,rfl⟩:=ry;obtain ⟨its,r,pl,hz⟩:=I.tuple hq;obtain ⟨j,h1,h2,h3,h4,h5⟩:=pz he;obtain ⟨w,ew,rw'⟩:=r.get h2;have hl:=r.length;have hn:=line63;have fin:EP X pins σ Q w s:=⟨z,H,I,rw',q⟩;exact subscriptTail_builtinR (x:=w) pl.typeIs slot_tuple_getitem.lookup
  (getItem_tuple (j:=j) (Q:=fun r s'=>r=w/\EP X pins σ Q r s') pl (by omega) (by omega) (by rw [List.size_toArray,<- hl]; exact h1) (by simpa using ew) ⟨rfl,fin⟩) hs
theorem Ak:IxR X rIxS:=by
 intro value slice pins s σ H x y v u Q I rx ry h hs;obtain ⟨z,i,c,rfl,rfl,hz,he,q⟩:=h;obtain ⟨t,rfl⟩:=rx;obtain ⟨t',rfl⟩:=ry;obtain ⟨j,h1,h2,h3,h4,h5⟩:=pz he;have hl:z.cps.toList.length=z.length:=by simp [Str.length]
 rw [hl] at h1 h4 h5;have hn:=line63;exact tail_any (typeIs_str s z t) slot_str_getitem.lookup (getItem_str (c:=c) (by
  have e1:decide (i < -(2 ^ 63:Int))=false:=decide_eq_false (by omega);have e2:decide (i >= 2 ^ 63)=false:=decide_eq_false (by omega);rw [e1,e2,Bool.or_false]) (by rw [h1]; simpa using h2) ⟨.str ⟨#[c]⟩,H,I.tok _,⟨_,rfl⟩,q⟩) hs
noncomputable def rIx (K:Frag):R2:=fun x y H Q=>rIxL K x y H Q\/rIxT K x y H Q\/rIxS x y H Q
theorem AC:IxR X (rIx X.K):=yg.or (Ao.or Ak)
theorem rY (its:List Value) (n j:Nat) (u:Value):Obj.mapSeq (·.setIfInBounds j u) { cls:=.type "list",data:=.seq its.toArray n }={ cls:=.type "list",data:=.seq (its.set j u).toArray n }:=by
 simp [Obj.mapSeq]
theorem Inv.lst {pins:List (Addr × Obj)} {σ:St} {H:Hp} {s:Shared} {p:Addr} {xs:List V} (I:Inv X pins σ H s) (h:H p=some (.lst xs)):
  ∃ (its:List Value) (n:Nat),Vals xs its/\s.heap.get? p=some { cls:=.type "list",data:=.seq its.toArray n }/\xs.length<=sizeLine:=by
 obtain ⟨z,its,n,r,e⟩:=I.hok p _ h;exact ⟨its,n,r,e,z⟩
theorem Inv.lstUpd {pins:List (Addr × Obj)} {σ:St} {H:Hp} {s:Shared} {p:Addr} {xs ys:List V} {its its':List Value} {n n':Nat} {f:Obj->Obj} (I:Inv X pins σ H s) (h:H p=some (.lst xs))
  (ho:s.heap.get? p=some { cls:=.type "list",data:=.seq its.toArray n }) (hf:f { cls:=.type "list",data:=.seq its.toArray n }={ cls:=.type "list",data:=.seq its'.toArray n' }) (r:Vals ys its') (hz:ys.length<=sizeLine) (t:Nat) (ht:0 < t:=by first | assumption | exact Nat.succ_pos _ | (apply Inv.tk; assumption) | omega):
  Inv X pins σ (upd H p (.lst ys)) { s with heap:=s.heap.update p f,toks:=t }:=by
 have e:(s.heap.update p f).get? p=some { cls:=.type "list",data:=.seq its'.toArray n' }:=by
  rw [Heap.get?_update_self f ho (by rw [hf] <;> rfl),hf]
 refine I.write (x:=p) (e:=p) (by rw [h]; trivial) (.inl rfl) (fun b u hb q=>(Heap.get?_update_other _ _ (Ne.symm hb)).trans q) ⟨_,e⟩ ?_;exact ⟨hz,its',n',r,e⟩
noncomputable def rSetL:V->V->V->Hp->(Hp->Prop)->Prop:=fun o i v H Q=>∃ p xs k j,o=.ref p/\i=.int k/\H p=some (.lst xs)/\ixN xs.length k=some j/\Q (upd H p (.lst (xs.set j v)))
theorem ng:PSet X rSetL:=by
 intro pins s σ H o i v ov iv u Q I ro ri rv h;obtain ⟨p,xs,k,j,rfl,rfl,hp,hj,q⟩:=h;cases ro;obtain ⟨t,rfl⟩:=ri;obtain ⟨its,n,r,ho,hz⟩:=I.lst hp;obtain ⟨h1,h2,h3,h4⟩:=tR hj;have hl:=r.length;have hn:=line63;have I':Inv X pins σ (upd H p (.lst (xs.set j v))) { s with heap:=s.heap.update p (Obj.mapSeq (·.setIfInBounds j u)) }:=
  I.lstUpd hp ho (rY its n j u) (r.set rv j) (by rw [List.length_set]; exact hz) s.toks
 by_cases h0:0<=k
 ·have hk:k.toNat=j:=by
   rw [seqIndex_of h0 h4] at h1;exact Option.some.inj h1
  exact PySem.W.ki_setAt ho h0 (by omega) (by rw [List.size_toArray,<- hl]; exact h4) (by rw [hk]; exact ⟨_,I',q⟩)
 ·have hk:(k+(its.toArray.size:Int)).toNat=j:=by
   rw [seqIndex_neg (by omega) h3] at h1;rw [List.size_toArray,<- hl];exact Option.some.inj h1
  exact PySem.W.ki_setBack ho (by omega) (by rw [List.size_toArray,<- hl]; exact h3) (by omega) (by rw [hk]; exact ⟨_,I',q⟩)
theorem pQ (lo hi:Option Int) (n:Nat):(sliceBounds lo hi none n).1=((HT.sIx n 0 lo:Nat):Int)/\(sliceBounds lo hi none n).2.1=((HT.sIx n n hi:Nat):Int)/\(sliceBounds lo hi none n).2.2=1:=by
 refine ⟨?_,?_,rfl⟩
 ·cases lo with
  | none=>simp [sliceBounds,HT.sIx]
  | some i=>
   simp only [sliceBounds,HT.sIx,Option.getD_none,show (1:Int) > 0 by decide,if_true];by_cases h:i < 0
   ·simp only [h,if_true] <;> omega
   ·simp only [h,if_false] <;> omega
 ·cases hi with
  | none=>simp [sliceBounds,HT.sIx]
  | some i=>
   simp only [sliceBounds,HT.sIx,Option.getD_none,show (1:Int) > 0 by decide,if_true];by_cases h:i < 0
   ·simp only [h,if_true] <;> omega
   ·simp only [h,if_false] <;> omega
theorem nH (its:List Value) (lo hi:Option Int):slicePick its.toArray lo hi none=((its.drop (HT.sIx its.length 0 lo)).take (HT.sIx its.length its.length hi - HT.sIx its.length 0 lo)).toArray:=by
 obtain ⟨h1,h2,h3⟩:=pQ lo hi its.toArray.size;unfold slicePick;rw [h1,h2,h3];simp only [sliceRange_one,pick_run,List.size_toArray] <;> rfl
noncomputable def rSlL (K:Frag):V->Option Int->Option Int->Hp->VK->Prop:=fun x lo hi H Q=>∃ a xs,x=.ref a/\SqL K H a xs/\∀ p,H p=none->Q (.ref p) (upd H p (.lst (cutV xs lo hi)))
theorem xL:SlR X (rSlL X.K):=by
 intro pins s σ H x v vl vu lo hi sl Q I rx hs pl pu h;obtain ⟨a,xs,rfl,hx,q⟩:=h;cases rx;obtain ⟨its,r,ht,hz⟩:=I.list hx;have hlen:=r.length;refine ⟨"list",_,slot_list_getitem.lookup,ht.isList.typeIs,?_⟩;refine wpAny_getItem_list_slice ht.isList hs pl pu .none (by simp) ?_ (by rw [List.size_toArray] <;> omega);rw [nH,<- hlen];refine ⟨.ref s.heap.objs.size,_,I.laid (t':=s.toks) (o:=.lst (cutV xs lo hi)) (fun b ob q=>Heap.get?_push_of_some _ q) (Nat.le_refl _) ?_,rfl,q _ (I.hok.fresh (Nat.le_refl _))⟩;exact ⟨Nat.le_trans (qq xs lo hi) hz,_,0,(r.drop (HT.sIx xs.length 0 lo)).take (HT.sIx xs.length xs.length hi - HT.sIx xs.length 0 lo),Heap.get?_push_size _ rfl⟩
noncomputable def flatV:V->Bool
 | .non=>true
 | .bl _=>true
 | .int _=>true
 | .str _=>true
 | _=>false
noncomputable def eqV:V->V->Bool
 | .non,.non=>true
 | .bl a,.bl b=>a == b
 | .bl a,.int b=>(if a then 1 else 0) == b
 | .int a,.bl b=>a == (if b then 1 else 0)
 | .int a,.int b=>a == b
 | .str a,.str b=>a == b
 | _,_=>false
theorem sx {A:Around} {s:Shared} {y x:V} {u v:Value} (ry:RelV y u) (rx:RelV x v) (fy:flatV y=true) (fx:flatV x=true):SeqAt.EqAt A s u v (eqV y x):=by
 cases y with
 | non=>
  cases ry;cases x with
  | non=>cases rx; exact SeqAt.EqAt.same _
  | bl b=>cases rx; exact SeqAt.EqAt.none_bool b
  | int b=>obtain ⟨t,rfl⟩:=rx; exact SeqAt.EqAt.none_int b t
  | str b=>obtain ⟨t,rfl⟩:=rx; exact SeqAt.EqAt.none_str b t
  | _=>exact absurd (show false=true from fx) Bool.false_ne_true
 | bl a=>
  cases ry;cases x with
  | non=>cases rx; exact SeqAt.EqAt.bool_none a
  | bl b=>cases rx; exact SeqAt.EqAt.bool_bool a b
  | int b=>obtain ⟨t,rfl⟩:=rx; exact SeqAt.EqAt.bool_int a b t
  | str b=>obtain ⟨t,rfl⟩:=rx; exact SeqAt.EqAt.bool_str a b t
  | _=>exact absurd (show false=true from fx) Bool.false_ne_true
 | int a=>
  obtain ⟨t',rfl⟩:=ry;cases x with
  | non=>cases rx; exact SeqAt.EqAt.int_none a t'
  | bl b=>cases rx; exact SeqAt.EqAt.int_bool a t' b
  | int b=>obtain ⟨t,rfl⟩:=rx; exact SeqAt.EqAt.int_int a t' b t
  | str b=>obtain ⟨t,rfl⟩:=rx; exact SeqAt.EqAt.int_str a t' b t
  | _=>exact absurd (show false=true from fx) Bool.false_ne_true
 | str a=>
  obtain ⟨t',rfl⟩:=ry;cases x with
  | non=>cases rx; exact SeqAt.EqAt.str_none a t'
  | bl b=>cases rx; exact SeqAt.EqAt.str_bool a t' b
  | int b=>obtain ⟨t,rfl⟩:=rx; exact SeqAt.EqAt.str_int a t' b t
  | str b=>obtain ⟨t,rfl⟩:=rx; exact SeqAt.EqAt.str_str a t' b t
  | _=>exact absurd (show false=true from fx) Bool.false_ne_true
 | _=>exact absurd (show false=true from fy) Bool.false_ne_true
noncomputable def eqU (x:V) (u:Value):Bool:=match u with
 | .none=>eqV .non x
 | .bool b=>eqV (.bl b) x
 | .int i _=>eqV (.int i) x
 | .str z _=>eqV (.str z) x
 | _=>false
theorem wg {x y:V} {u:Value} (r:RelV y u) (f:flatV y=true):eqU x u=eqV y x:=by
 cases y with
 | non=>cases r; rfl
 | bl b=>cases r; rfl
 | int i=>obtain ⟨t,rfl⟩:=r; rfl
 | str z=>obtain ⟨t,rfl⟩:=r; rfl
 | _=>exact absurd (show false=true from f) Bool.false_ne_true
theorem jJ {x:V}:∀ {xs:List V} {us:List Value},Vals xs us->xs.all flatV=true->us.any (eqU x)=xs.any fun y=>eqV y x
 | _,_,.nil,_=>rfl
 | y::xs,u::us,.cons r t,f=>by
  rw [List.all_cons,Bool.and_eq_true] at f;rw [List.any_cons,List.any_cons,wg r f.1,jJ t f.2]
theorem gZ {A:Around} {s:Shared} {x:V} {v:Value} (rx:RelV x v) (fx:flatV x=true):∀ {xs:List V} {us:List Value},Vals xs us->xs.all flatV=true->∀ u ∈ us,SeqAt.EqAt A s u v (eqU x u)
 | _,_,.nil,_=>fun u hu=>by cases hu
 | y::xs,u::us,.cons r t,f=>fun u' hu=>by
  rw [List.all_cons,Bool.and_eq_true] at f;rcases List.mem_cons.mp hu with rfl | hu
  ·rw [wg r f.1]; exact sx r rx f.1 fx
  ·exact gZ rx fx t f.2 u' hu
noncomputable def inV (x:V) (xs:List V):Bool:=xs.any fun y=>eqV y x
noncomputable def rIn (K:Frag) (neg:Bool):R2:=fun x y H Q=>∃ p xs,y=.ref p/\(SqL K H p xs\/SqT K H p xs)/\flatV x=true/\xs.all flatV=true/\Q (.bl (if neg then !inV x xs else inV x xs)) H
theorem vz:OpR X (compareOp .In) (rIn X.K false):=by
 intro pins s σ H x y v u Q I rx ry h;obtain ⟨p,xs,rfl,hq,fx,fs,q⟩:=h;cases ry;rcases hq with hq | hq
 ·obtain ⟨its,r,pl,hz⟩:=I.list hq;refine SeqAt.in_listAt (eqU x) pl.isList (fun w hw=>gZ rx fx r fs w (by simpa using hw)) ⟨.bl _,H,I,rfl,?_⟩;rw [show its.toArray.any (eqU x)=its.any (eqU x) by simp,jJ r fs];exact q
 ·obtain ⟨its,r,pl,hz⟩:=I.tuple hq;refine SeqAt.in_tupleAt (eqU x) pl (fun w hw=>gZ rx fx r fs w (by simpa using hw)) ⟨.bl _,H,I,rfl,?_⟩;rw [show its.toArray.any (eqU x)=its.any (eqU x) by simp,jJ r fs];exact q
theorem pb:OpR X (compareOp .NotIn) (rIn X.K true):=by
 intro pins s σ H x y v u Q I rx ry h;obtain ⟨p,xs,rfl,hq,fx,fs,q⟩:=h;cases ry;rcases hq with hq | hq
 ·obtain ⟨its,r,pl,hz⟩:=I.list hq;refine SeqAt.notIn_listAt (eqU x) pl.isList (fun w hw=>gZ rx fx r fs w (by simpa using hw)) ⟨.bl _,H,I,rfl,?_⟩;rw [show its.toArray.any (eqU x)=its.any (eqU x) by simp,jJ r fs];exact q
 ·obtain ⟨its,r,pl,hz⟩:=I.tuple hq;refine SeqAt.notIn_tupleAt (eqU x) pl (fun w hw=>gZ rx fx r fs w (by simpa using hw)) ⟨.bl _,H,I,rfl,?_⟩;rw [show its.toArray.any (eqU x)=its.any (eqU x) by simp,jJ r fs];exact q
theorem pI:CallR X (.builtin "len") (fun xs H Q=>∃ p ys,xs=[.ref p]/\(SqL X.K H p ys\/SqT X.K H p ys)/\Q (.int ys.length) H):=by
 intro pins s σ H xs us Q I r h;obtain ⟨p,ys,rfl,hq,q⟩:=h;obtain ⟨u,rfl,rx⟩:=vals1 r;cases rx;have hn:=line63;rcases hq with hq | hq
 ·obtain ⟨its,r',pl,hz⟩:=I.list hq;have hlen:=r'.length;exact Calls.call_len_list pl.isList (by simp only [List.size_toArray] <;> omega) ⟨.int ys.length,H,I.tok _,⟨s.toks+1,by rw [List.size_toArray,hlen]⟩,q⟩
 ·obtain ⟨its,r',pl,hz⟩:=I.tuple hq;have hlen:=r'.length;exact len_tuple pl (by simp only [List.size_toArray] <;> omega) ⟨.int ys.length,H,I.tok _,⟨s.toks+1,by rw [List.size_toArray,hlen]⟩,q⟩
theorem pJ:CallR X (.builtin "len") (fun xs H Q=>∃ z,xs=[.str z]/\z.length<=sizeLine/\Q (.int z.length) H):=by
 intro pins s σ H xs us Q I r h;obtain ⟨z,rfl,hz,q⟩:=h;obtain ⟨u,rfl,t,rfl⟩:=vals1 r;have hn:=line63;exact len_str (by omega) ⟨.int z.length,H,I.tok _,⟨_,rfl⟩,q⟩
theorem nW:CallR X (.type "tuple") (fun xs H Q=>∃ p ys,xs=[.ref p]/\((SqL X.K H p ys/\∀ l,H l=none->Q (.ref l) (upd H l (.tup ys)))\/(SqT X.K H p ys/\Q (.ref p) H))):=by
 intro pins s σ H xs us Q I r h;obtain ⟨p,ys,rfl,h⟩:=h;obtain ⟨u,rfl,rx⟩:=vals1 r;cases rx;rcases h with ⟨hq,q⟩ | ⟨hq,q⟩
 ·obtain ⟨its,r',pl,hz⟩:=I.list hq;have hlen:=r'.length;refine call_tuple_list pl.isList (fun h' kp=>?_) (by simp only [List.size_toArray] <;> omega);have I1:Inv X pins σ H { s with heap:=h' }:=I.kept (t':=s.toks) kp;have I2:Inv X pins σ (upd H h'.objs.size (.tup ys)) { s with heap:=h'.push { cls:=.type "tuple",data:=.seq its.toArray } }:=
   I1.laid (t':=s.toks) (fun b o e=>Heap.get?_push_of_some _ e) (Nat.le_refl _) (show ObjOk X.prog X.w _ _ _ (.tup ys) from ⟨hz,its,r',IsTup.new _ _⟩)
  exact ⟨.ref h'.objs.size,_,I2,rfl,q _ (I1.hok.fresh (Nat.le_refl _))⟩
 ·obtain ⟨its,r',pl,hz⟩:=I.tuple hq;exact call_tuple_same pl ⟨.ref p,H,I,rfl,q⟩
def tyV (K:Frag) (T:String) (x:V) (H:Hp):Prop:=match x with
 | .str _=>T = "str"
 | .int _=>T = "int"
 | .ref p=>(T = "list" /\ ∃ xs,SqL K H p xs)\/(T = "tuple" /\ ∃ o,K.lookup p=some o/\o.cls=.type "tuple" /\ o.dict=none) \/
   (T = "dict" /\ ((∃ kvs,H p=some (.dK kvs))\/∃ kvs,H p=some (.dT kvs)))\/(T = "set" /\ ∃ S n,H p=some (.set S n))
 | _=>False
theorem zT {pins:List (Addr × Obj)} {σ:St} {H:Hp} {s:Shared} {T:String} {x:V} {v:Value} (I:Inv X pins σ H s) (r:RelV x v) (ty:tyV X.K T x H):
  s.TypeIs v T/\∀ a,v=.ref a->∃ ob,s.heap.get? a=some ob/\ob.dict=none:=by
 cases x with
 | str z=>
  obtain ⟨t,rfl⟩:=r;cases (show T = "str" from ty);exact ⟨typeIs_str s z t,fun _ e=>nomatch e⟩
 | int i=>
  obtain ⟨t,rfl⟩:=r;cases (show T = "int" from ty);exact ⟨typeIs_int s i t,fun _ e=>nomatch e⟩
 | ref p=>
  cases r;rcases ty with ⟨rfl,xs,hq⟩ | ⟨rfl,o,hk,hc,hd⟩ | ⟨rfl,hk⟩ | ⟨rfl,S,n,hk⟩
  ·obtain ⟨its,_,pl,_⟩:=I.list hq;refine ⟨pl.isList.typeIs,fun a e=>?_⟩;cases e;obtain ⟨o,n,e,c,hd,_⟩:=pl;exact ⟨o,e,hd⟩
  ·refine ⟨⟨o,I.kIn p o hk,hc⟩,fun a e=>?_⟩;cases e;exact ⟨o,I.kIn _ o hk,hd⟩
  ·have z:∃ o,s.heap.get? p=some o/\o.ExactDict:=by
    rcases hk with ⟨kvs,hk⟩ | ⟨kvs,hk⟩
    ·obtain ⟨_,_,_,_,o,_,_,e,ex,_⟩:=I.hok p _ hk;exact ⟨o,e,ex⟩
    ·obtain ⟨_,_,_,_,o,_,_,e,ex,_⟩:=I.hok p _ hk;exact ⟨o,e,ex⟩
   obtain ⟨o,e,ex⟩:=z;refine ⟨⟨o,e,ex.1⟩,fun a e2=>?_⟩;cases e2;exact ⟨o,e,ex.2.1⟩
  ·obtain ⟨o,_,_,_,e,ex,_⟩:=I.hok p _ hk;refine ⟨⟨o,e,ex.1⟩,fun a e2=>?_⟩;cases e2;exact ⟨o,e,ex.2.1⟩
 | _=>exact False.elim ty
noncomputable def tBM (K:Frag) (T:String) (r:V->List V->Hp->VK->Prop) (to:TE) (t:TA):TE:=fun σ H Q=>to σ H fun x H1=>tyV K T x H1/\t σ H1 fun xs H2=>r x xs H2 Q
variable {o e:Expr} {es:List Expr} {to:TE} {t:TA} {name:Str} {apos cpos:Pos} {T id:String} {r:V->List V->Hp->VK->Prop}
theorem rf (pa:PlainAttrs T) (slot:Slot T name id) (hty:typeOf (.builtin id)=pure (.type "method_descriptor")) (hm:MtR X id r) (ho:PE X o to) (ha:PA X (e::es) t)
  (hbase:attributeBase o name X.env (eval o X.env)=eval o X.env:=by rfl)
  (hfew:((backTo cpos (starEach (e::es) X.env)).all (fun x=>!x.1) && (backToKw cpos (keywordEach [] X.env)).all (fun x=>x.1.isSome)
   && decide ((e::es).length+([]:List Keyword).length+(if ([]:List Keyword).isEmpty then 0 else 1) < 30))=true:=by rfl)
  (hline:(apos.endLine == cpos.line)=true:=by rfl) (hs:starEach (e::es) X.env=(false,eval e X.env)::starEach es X.env:=by rfl) (hplain:(backTo cpos (starEach es X.env)).any (·.1)=false:=by rfl):
  PE X (.Call (.Attribute o name apos) (e::es) [] cpos) (tBM X.K T r to t):=by
 intro pins s σ H Q I h;refine wpAny_Call_method_late hbase hfew hline rfl (thn (ho pins s σ H _ I h) fun v s1 ⟨x,H1,I1,r1,ty,q1⟩=>?_);obtain ⟨h1,h2⟩:=zT I1 r1 ty;refine ⟨T,id,pa,slot,hty,h1,h2,?_⟩;have hA:=ha cpos pins s1 σ H1 _ I1 q1;rw [hs] at hA ⊢;refine Calls.callWith_builtin (by show (false || (backTo cpos (starEach es X.env)).any (·.1))=false; rw [hplain] <;> rfl) (Calls.evalArgs_plain ?_);exact thn hA fun us s2 ⟨vs,H2,I2,r2,q2⟩=>hm pins s2 σ H2 x vs v us Q I2 r1 r2 q2
end
def MtM (X:Cx) (id:String) (r:V->List V->Hp->VK->Prop):Prop:=
 ∀ (pins:List (Addr × Obj)) (s:Shared) (σ:St) (H:Hp) (x:V) (xs:List V) (v:Value) (us:List Value) (Q:VK),Inv X pins σ H s->RelV x v->Vals xs us->r x xs H Q ->
  wpAny (model X.prog X.w) X.A (call (.builtin id) (v::us)) (EP X pins σ Q) X.xe s
theorem Vals.one:∀ {x:V} {us:List Value},Vals [x] us->∃ u,us=[u]/\RelV x u
 | _,_,.cons r .nil=>⟨_,rfl,r⟩
theorem Vals.two:∀ {x y:V} {us:List Value},Vals [x,y] us->∃ u v,us=[u,v]/\RelV x u/\RelV y v
 | _,_,_,.cons r (.cons q .nil)=>⟨_,_,rfl,r,q⟩
theorem Vals.rep {xs:List V} {us:List Value} (h:Vals xs us):∀ k:Nat,Vals (List.replicate k xs).flatten (List.replicate k us).flatten
 | 0=>.nil
 | k+1=>by
  rw [List.replicate_succ,List.replicate_succ,List.flatten_cons,List.flatten_cons];exact Vals.append h (Vals.rep h k)
theorem oH (its:List Value):∀ (k:Nat) (acc:List Value),
  List.foldl (fun x1 x2=>x1++x2) acc.toArray (List.replicate k its.toArray)=(acc++(List.replicate k its).flatten).toArray
 | 0,acc=>by simp
 | k+1,acc=>by
  have e:acc.toArray++its.toArray=(acc++its).toArray:=by simp
  have e2:(acc++its)++(List.replicate k its).flatten=acc++(List.replicate (k+1) its).flatten:=by
   rw [List.replicate_succ,List.flatten_cons,List.append_assoc]
  rw [<- e2,<- oH its k (acc++its),<- e,List.replicate_succ,List.foldl_cons]
section
variable {X:Cx} {pins:List (Addr × Obj)} {σ:St} {H:Hp} {s:Shared} {l b:Addr} {xs ys zs:List V}
theorem Inv.lset {its its':List Value} {n:Nat} {f:Array Value->Array Value} {t':Nat} (I:Inv X pins σ H s) (hH:H l=some (.lst xs))
  (e:s.heap.get? l=some { cls:=.type "list",data:=.seq its.toArray n }) (hf:f its.toArray=its'.toArray) (hv:Vals ys its') (hz:ys.length<=sizeLine) (ht:0 < t':=by first | assumption | exact Nat.succ_pos _ | (apply Inv.tk; assumption) | omega):
  Inv X pins σ (upd H l (.lst ys)) { s with heap:=s.heap.update l (Obj.mapSeq f),toks:=t' }:=by
 have q:=PySem.IsL.update e f;rw [hf] at q;refine I.write (x:=l) (e:=l) (by rw [hH]; exact trivial) (.inl rfl) (fun b' u hb hu=>(Heap.get?_update_other s.heap (Obj.mapSeq f) (Ne.symm hb)).trans hu) ⟨_,q⟩ ?_;exact ⟨hz,its',_,hv,q⟩
theorem Inv.lnew {its:List Value} {t':Nat} (I:Inv X pins σ H s) (hv:Vals ys its) (hz:ys.length<=sizeLine) (ht:0 < t':=by first | assumption | exact Nat.succ_pos _ | (apply Inv.tk; assumption) | omega):
  Inv X pins σ (upd H s.heap.objs.size (.lst ys)) { s with heap:=s.heap.push { cls:=.type "list",data:=.seq its.toArray },toks:=t' }:=
 I.laid (fun _ _ q=>Heap.get?_push_of_some _ q) (Nat.le_refl _) ⟨hz,its,0,hv,Heap.get?_push_size _ rfl⟩
theorem Inv.fresh (I:Inv X pins σ H s):H s.heap.objs.size=none:=I.hok.fresh (Nat.le_refl _)
theorem Inv.lstM (I:Inv X pins σ H s) (hH:H l=some (.lst xs)):xs.length<=sizeLine/\∃ (its:List Value) (n:Nat),Vals xs its/\xs.length=its.length/\s.heap.get? l=some { cls:=.type "list",data:=.seq its.toArray n }:=by
 obtain ⟨z,its,n,r,e⟩:=I.hok l _ hH;exact ⟨z,its,n,r,r.length,e⟩
theorem notLongL {n:Nat} (h:n<=sizeLine):Builtin.List.listTooLong n=false:=by
 unfold Builtin.List.listTooLong;exact decide_eq_false (by omega)
end
section
variable {X:Cx}
noncomputable def rAppend:V->List V->Hp->VK->Prop:=fun x vs H Q=>∃ l xs y,x=.ref l/\vs=[y]/\H l=some (.lst xs)/\xs.length < sizeLine/\Q .non (upd H l (.lst (xs++[y])))
theorem kB:MtM X "list.append" rAppend:=by
 intro pins s σ H x vs v us Q I rx rv h;obtain ⟨l,xs,y,rfl,rfl,hH,hz,q⟩:=h;cases rx;obtain ⟨u,rfl,ru⟩:=rv.one;obtain ⟨z,its,n,r,hl,e⟩:=I.lstM hH;refine call_meets F.slot_list_append ⟨_,e,rfl⟩ F.entry_list_append (F.args_list_append_2 _ _) (PySem.list_append l its.toArray n u (by rw [List.size_toArray]; omega)) ⟨e,?_⟩;refine ⟨.non,_,I.lset (its':=its++[u]) hH e (by simp) (r.append (.cons ru .nil)) ?_,rfl,q⟩;rw [List.length_append,List.length_singleton];omega
noncomputable def rExtend:V->List V->Hp->VK->Prop:=fun x vs H Q=>∃ l b xs zs,x=.ref l/\vs=[.ref b]/\H l=some (.lst xs)/\H b=some (.lst zs)/\xs.length+zs.length<=sizeLine/\Q .non (upd H l (.lst (xs++zs)))
theorem uJ:MtM X "list.extend" rExtend:=by
 intro pins s σ H x vs v us Q I rx rv h;obtain ⟨l,b,xs,zs,rfl,rfl,hH,hB,hz,q⟩:=h;cases rx;obtain ⟨u,rfl,ru⟩:=rv.one;cases ru;obtain ⟨z,its,n,r,hl,e⟩:=I.lstM hH;obtain ⟨z2,its2,n2,r2,hl2,e2⟩:=I.lstM hB;have hsz:its.toArray.size+its2.toArray.size<=sizeLine:=by rw [List.size_toArray,List.size_toArray]; omega
 have hlong:¬ (!its.toArray.isEmpty && Builtin.List.listTooLong (its.toArray.size+its2.toArray.size))=true:=by
  rw [notLongL hsz,Bool.and_false];exact Bool.false_ne_true
 refine call_meets F.slot_list_extend ⟨_,e,rfl⟩ F.entry_list_extend (F.args_list_extend_2 _ _)
  (AutoSeq1.list_extend_list_list_0 l its.toArray n b its2.toArray n2 hlong (by rw [List.size_toArray]; omega) (by omega)) ⟨e,e2,?_⟩
 refine ⟨.non,_,I.lset (its':=its++its2) hH e (by simp) (r.append r2) ?_,rfl,q⟩;rw [List.length_append];omega
noncomputable def rCat:R2:=fun x y H Q=>∃ l b xs zs,x=.ref l/\y=.ref b/\H l=some (.lst xs)/\H b=some (.lst zs)/\xs.length+zs.length<=sizeLine/\∀ p,H p=none->Q (.ref p) (upd H p (.lst (xs++zs)))
theorem Aj:OpR X (binaryOp .Add) rCat:=by
 intro pins s σ H x y v u Q I rx ry h;obtain ⟨l,b,xs,zs,rfl,rfl,hH,hB,hz,q⟩:=h;cases rx;cases ry;obtain ⟨z,its,n,r,hl,e⟩:=I.lstM hH;obtain ⟨z2,its2,n2,r2,hl2,e2⟩:=I.lstM hB;refine PySem.P.add_list e e2 ?_ (by rw [List.size_toArray,List.size_toArray]; omega);have ea:its.toArray++its2.toArray=(its++its2).toArray:=by simp
 rw [ea];exact ⟨.ref _,_,I.lnew (t':=s.toks) (r.append r2) (by rw [List.length_append]; omega),rfl,q _ I.fresh⟩
noncomputable def rRep:R2:=fun x y H Q=>∃ l k xs,x=.ref l/\y=.int k/\H l=some (.lst xs) /\ -(2 ^ 63)<=k/\k < 2 ^ 63/\xs.length*k.toNat<=sizeLine /\
 ∀ p,H p=none->Q (.ref p) (upd H p (.lst (List.replicate k.toNat xs).flatten))
theorem yv {α:Type} (xs:List α) (k:Nat):(List.replicate k xs).flatten.length=k*xs.length:=by
 induction k with
 | zero=>simp
 | succ k ih=>rw [List.replicate_succ,List.flatten_cons,List.length_append,ih,Nat.succ_mul,Nat.add_comm]
theorem wb:OpR X (binaryOp .Mult) rRep:=by
 intro pins s σ H x y v u Q I rx ry h;obtain ⟨l,k,xs,rfl,rfl,hH,h1,h2,hz,q⟩:=h;cases rx;obtain ⟨t,rfl⟩:=ry;obtain ⟨z,its,n,r,hl,e⟩:=I.lstM hH;have hlen:its.toArray.size*k.toNat<=sizeLine:=by rw [List.size_toArray,<- hl]; exact hz
 have hcap:¬ its.toArray.size*k.toNat > (2 ^ 63 - 1) / 8:=by
  have:(sizeLine:Nat)<=(2 ^ 63 - 1) / 8:=by decide
  omega
 have hfit:¬ (!Builtin.List.listFitsIndex k)=true:=by
  rw [fitsIndex_both h1 h2];exact Bool.false_ne_true
 have hlong:¬ Builtin.List.listTooLong (its.toArray.size*k.toNat)=true:=by
  rw [notLongL hlen];exact Bool.false_ne_true
 have hnew:List.foldl (fun x1 x2=>x1++x2) #[] (List.replicate (if its.toArray.isEmpty=true then 0 else k.toNat) its.toArray)=(List.replicate k.toNat its).flatten.toArray:=by
  have f0:∀ m:Nat,List.foldl (fun x1 x2=>x1++x2) #[] (List.replicate m its.toArray)=(List.replicate m its).flatten.toArray:=fun m=>by
   have:=oH its m [];rw [List.nil_append] at this;exact this
  rw [f0];cases its with
  | nil=>simp
  | cons a r'=>rw [if_neg (by simp)]
 refine wpAny_binaryOp_repeat_ref (T := "list") (U := "int") (by decide) ⟨_,e,rfl⟩ (fun s'=>typeIs_int s' k t) noFill_list_mul F.fills_int_mul F.slot_int_rmul repeat_list F.slot_int_index.lookup
  (call_meets F.slot_int_rmul (typeIs_int s k t) F.entry_int_rmul (F.args_int_rmul_2 _ _) (int___rmul___int_list k t l its.toArray n)
   ⟨e,rfl,⟨_,e,rfl⟩,call_meets F.slot_list_mul ⟨_,e,rfl⟩ F.entry_list_mul (F.args_list_mul_2 _ _) (AutoListH.list___mul___list_int_3 l its.toArray n k t hfit hcap hlong) ⟨e,?_⟩⟩)
 rw [hnew];exact ⟨.ref _,_,I.lnew (t':=s.toks) (r.rep k.toNat) (by rw [yv,Nat.mul_comm]; exact hz),rfl,q _ I.fresh⟩
end
section
variable {prog:Program} {w:World} {A:Around} {E:Value->Shared->Prop} {s:Shared}
end
section
variable {X:Cx}
end
end L2
namespace Att
open PySem PySem.W PySem.Calls PyProof.Rows
theorem lD {P:Params} {h:Heap}:∀ (ns:List Int) (vs:List Value),WellAll P h vs (ns.map WData.int)->IntsAre vs ns:=by
 intro ns
 induction ns with
 | nil=>
  intro vs w;rw [List.map_nil] at w;cases w;exact .nil
 | cons n ns ih=>
  intro vs w;rw [List.map_cons] at w;cases w with
  | cons a b=>
   cases a;exact .cons _ _ (ih _ b)
theorem script_of {l:OpenLaw} {n:Nat} (hn:l.most=some n) {P:Params} {h:Heap} {args:List WData} {vals:List Value}
  (hpre:l.row.toRowW.claim.pre args=true) (hwl:WellAll P h vals args):
  ∃ a vs ns,vals=[Value.ref a]/\args=[WData.list (ns.map WData.int)]/\h.get? a=some { cls:=.type "list",data:=.seq vs.toArray }/\IntsAre vs ns/\ns.length<=n:=by
 have hsh:WShape.hasAll [] args [.list .int]=true:=(pre_splitW hpre).1;have hc:l.pre.holds [] { args:=args }=true:=(pre_splitW hpre).2;obtain ⟨d,r,rfl,h1,h2⟩:=hasAllW_cons hsh;obtain rfl:=hasAllW_nil h2;obtain ⟨xs,rfl,h3⟩:=hasW_list h1;obtain ⟨ns,rfl⟩:=items_int h3;have hlen:ns.length<=n:=by
  unfold OpenLaw.pre at hc;have h4:(WTm.not (.lt (.lit (.int (n:Int))) (.len (.arg 0)))).holds [] { args:=[.list (ns.map .int)] }=true:=by
   have h4:=(holds_andW hc).1;rw [hn] at h4;exact h4
  have h5:=condW_of h4 (w_not (w_lt w_lit (w_len_list (w_arg rfl))));rw [List.length_map] at h5;refine Nat.le_of_not_lt fun q=>?_
  have q':(n:Int) < ((ns.length:Nat):Int):=by omega
  first
   | (rw [decide_eq_true q'] at h5; exact absurd h5 (by decide))
   | (simp at h5; omega)
 cases hwl with
 | cons w1 w2=>
  cases w2;cases w1 with
  | list ho hall=>exact ⟨_,_,ns,rfl,rfl,ho,lD ns _ hall,hlen⟩
theorem post_true (l:OpenLaw) (args:List WData):l.row.toRowW.claim.post args (.bool true) args=true:=
 postW_of (r:=l.row.toRowW) (X:=(true == true))
  (show WShape.has [] (.bool true) .bool=true by first | rfl | decide | simp [WShape.has,WShape.arms,WShape.armsAll])
  (show (WTm.eq .res (.lit (.bool true))).value [] { args:=args,res:=some (.bool true),after:=args }=some (.bool (true == true)) from w_eq_bool (w_res rfl) w_lit) rfl
section
variable {prog:Program} {w:World} {A:Around} {E:Value->Shared->Prop} {s:Shared} {K:Frag}
end
end Att
namespace L2
open PySem PySem.Spec PyProof.Rows
theorem j7:∀ {vs:List Value} {ns:List Int},IntsAre vs ns->Vals (ns.map V.int) vs
 | _,_,.nil=>.nil
 | _,_,.cons n t h=>.cons ⟨t,rfl⟩ (j7 h)
noncomputable abbrev KOf {K:Frag} {h:Heap} (_:K.In h):Frag:=K
theorem pV {l:PySem.W.OpenLaw} {n:Nat} {q:Program} {loose:List Str} {XP:(Str->Option Value)->Heap->Prop} {α:Type} {Yf:Shared->α} {Ya:World->α} {d:DefRec}
  (hn:l.most=some n) (hdf:d.params.defaults=[])
  (call:∀ (w:World) (s₀ s₁:Shared) (mg mb:Str->Option Value) (fa a:Addr) (vs:List Value) (ns:List Int),
   PySem.W.Ground q loose [] XP w s₀ mg mb s₁.heap->Yf s₀ = Ya w->(∀ b o,s₀.heap.get? b=some o->s₁.heap.get? b=some o)->s₀.toks<=s₁.toks->mg d.name=some (.ref fa) ->
   s₁.heap.get? a=some { cls:=.type "list",data:=.seq vs.toArray }->IntsAre vs ns->ns.length<=n->s₁.gens=#[] ->
   codeAny (model l.prog w) callerA (.call (.ref fa) ⟨[.ref a],[]⟩) (fun r s'=>r=.ok (.ret (.bool true))/\OldK s₁.heap s'.heap/\s'.os=s₁.os/\AllBare s'.gens) s₁):
  PySem.W.WalkX q loose XP Yf Ya l.row.toRowW d [] (fun f vs=>PySem.call f vs):=by
 intro w s₀ s₁ mg mb G Y fa o pm cd doc dV kV ho hd hcd hD hmg hg args vals as L hpre hlay hrd hwl hlo;obtain ⟨a,vs,ns,rfl,rfl,hobj,hints,hlen⟩:=Att.script_of hn hpre hwl;have ht:s₀.toks<=s₁.toks:=by
  obtain ⟨ord,_,e⟩:=L.laid;exact (PySem.W.layAllW_grows _ _ _ e).toks
 refine PySem.W.enter_call (codeAny_mono (call w s₀ s₁ mg mb fa a vs ns G Y L.keeps ht hmg hobj hints hlen hg) fun r s' hq=>?_);obtain ⟨rfl,h2,h3,h4⟩:=hq;exact ⟨.inl ⟨.bool true,.bool true,[],rfl,fun _=>rfl,.bool true,Att.post_true l _,fun _=>⟨List.Pairwise.nil,fun _ hm=>(nomatch hm)⟩⟩,h2,h3,h4⟩
noncomputable def inClass (s:Stmt) (j:Nat):Stmt:=match s with
 | .ClassDef _ _ _ body _ _ _ _ _ _ _=>body.getD j (.Pass ⟨0,0,0,0⟩)
 | _=>.Pass ⟨0,0,0,0⟩
noncomputable def defArgs (s:Stmt):Arguments:=match s with
 | .FunctionDef _ a _ _ _ _ _ _ _ _=>a
 | _=>{ posonlyargs:=[],args:=[],vararg:=none,kwonlyargs:=[],kw_defaults:=[],kwarg:=none,defaults:=[] }
noncomputable def defBody (s:Stmt):List Stmt:=match s with
 | .FunctionDef _ _ b _ _ _ _ _ _ _=>b
 | _=>[]
noncomputable def defScope (s:Stmt):Scope:=match s with
 | .FunctionDef _ _ _ _ _ _ sc _ _ _=>sc
 | _=>{ kind:=.function,names:=[],isGenerator:=false,isCoroutine:=false }
noncomputable abbrev CX0:CXT:=fun _ _ _ _ _ _=>False
noncomputable abbrev E0:XK:=fun _ _ _=>False
theorem pass0 {X:Cx}:Passes CX0 X E0:=fun _ _ _ _ _ _ _ h=>h.elim
structure Fun (K:Frag) (x qual:Str) (st:Stmt) (f:Addr) (fd:FuncData):Prop where
 ex:∃ (oc:Value) (od:Option Addr) (kV doc pm:Value) (an:Option Addr) (cdv ct:Value) (osl:Array (Option Value)),
  fd=fnOf x qual (defArgs st) (defBody st) (defScope st) .none kV doc pm an cdv ct/\K.lookup f=some ⟨oc,od,.func fd,osl⟩/\codeIn K cdv qual=true
 kp:keepIn K (.ref f)=true
section
variable {P:Program} {w:World} {K:Frag} {mg:Str->Option Value} {base:Heap}
theorem Fun.ok {x qual:Str} {st:Stmt} {f:Addr} {fd:FuncData} {N ps:List Str} {k:Nat} {sp:Sp} (F:Fun K x qual st f fd) (S:FnScope N ps (defScope st)) (len:∀ vs H Q E,sp vs H Q E->vs.length=ps.length)
  (hbody:∀ (cdv:Value) (A:Around) (outer:List Env) (s:Shared) (H:Hp) (vs:List V) (Q:VK) (E:XK),Room k (A.deeper (envOfC qual (defScope st) s.heap.objs.size f cdv))->sp vs H Q E ->
   ∃ t,PSs (cxOf CX0 P w K mg base N qual (defScope st) f cdv A outer s H E).nox (defBody st) t/\t { nx:=fun _ H'=>Q .non H',rt:=Q } (start N vs) H):FnOk P w K mg base CX0 (k+1) f fd ps sp:=by
 obtain ⟨oc,od,kV,doc,pm,an,cdv,ct,osl,rfl,lk,hcd⟩:=F.ex;refine zm lk hcd S len fun A outer s H vs Q E hr hsp=>?_
 obtain ⟨t,h,q⟩:=hbody cdv A outer s H vs Q E hr hsp;exact ⟨t,h.nox,q⟩
theorem Fun.binds {x qual:Str} {st:Stmt} {f:Addr} {fd:FuncData} {ps:List Str} (F:Fun K x qual st f fd)
  (h:∀ (kV doc pm:Value) (an:Option Addr) (cdv ct:Value) (us:List Value),us.length=ps.length->bindArgs (fnOf x qual (defArgs st) (defBody st) (defScope st) .none kV doc pm an cdv ct) ⟨us,[]⟩=pure (ps.zip us)):Binds K fd ps []:=by
 obtain ⟨oc,od,kV,doc,pm,an,cdv,ct,osl,rfl,lk,hcd⟩:=F.ex;exact .all (h kV doc pm an cdv ct)
theorem mX {x qual:Str} {st:Stmt} {f:Addr} {oc:Value} {od an:Option Addr} {osl:Array (Option Value)} {kV doc pm cdv ct:Value} (l:K.lookup f=some ⟨oc,od,.func (fnOf x qual (defArgs st) (defBody st) (defScope st) .none kV doc pm an cdv ct),osl⟩)
  (c:codeIn K cdv qual=true) (k:keepIn K (.ref f)=true):Fun K x qual st f (fnOf x qual (defArgs st) (defBody st) (defScope st) .none kV doc pm an cdv ct):=⟨⟨oc,od,kV,doc,pm,an,cdv,ct,osl,rfl,l,c⟩,k⟩
end
theorem A1 {A:Around} {k:Nat} (hr:Room k A):A.units+1 < cLine:=Nat.lt_of_le_of_lt (Nat.add_le_add_left (by decide:1<=64) _) hr.units
theorem small1000 {n:Nat} (h:n<=1000):n < sizeLine:=Nat.lt_of_le_of_lt h (by decide)
section
variable {X:Cx}
theorem pv (i:Nat) {x:Str} {pos:Pos} (hN:X.N[i]? = some x:=by rfl) (hv:Vis X.env.scope x:=by first | exact Or.inl rfl | exact Or.inr (Or.inl rfl) | exact Or.inr (Or.inr rfl)) (hd:(x == ("__debug__" : Str))=false:=by decide)
  (hcd:(x == ("__classdict__" : Str))=false:=by decide):PE X (.Name x pos) (tVar i):=wA hN hv hd hcd
end
theorem ite2 {c A B:Prop} [Decidable c] (h1:c->A) (h2:¬ c->B):if c then A else B:=by
 by_cases h:c
 ·rw [if_pos h];exact h1 h
 ·rw [if_neg h];exact h2 h
def Same (H H':Hp):Prop:=∀ b o,H b=some o->H' b=some o
theorem Same.refl (H:Hp):Same H H:=fun _ _ h=>h
theorem Same.trans {H H1 H2:Hp} (a:Same H H1) (b:Same H1 H2):Same H H2:=fun c o h=>b c o (a c o h)
theorem Same.free {H H':Hp} (e:Same H H') {l:Addr} (h:H' l=Option.none):H l=Option.none:=by
 cases q:H l with
 | none=>rfl
 | some o=>
  rw [e l o q] at h;cases h
theorem Same.seq {K:Frag} {H H':Hp} {a:Addr} {xs:List V} (e:Same H H') (h:SqL K H a xs):SqL K H' a xs:=by
 rcases h with (h | ⟨o,h⟩) | h
 ·exact .inl (.inl (e _ _ h))
 ·exact .inl (.inr ⟨o,e _ _ h⟩)
 ·exact .inr h
section
variable {X:Cx} {pins:List (Addr × Obj)} {σ:St} {H H':Hp} {s:Shared} {h':Heap}
theorem Inv.turnedL {t':Nat} {its:List Addr} (I:Inv X pins σ H s) (k:∀ b o,b ∉ its->s.heap.get? b=some o->h'.get? b=some o) (hf:∀ b ∈ its,FpOk X pins H b) (ht:0 < t':=by first | assumption | exact Nat.succ_pos _ | (apply Inv.tk; assumption) | omega):Inv X pins σ H { s with heap:=h',toks:=t' }:=by
 have nit:∀ b u,H b=some u->b ∉ its:=fun b u e z=>by
  have q:=(hf b z).1;rw [q] at e;cases e
 refine I.step (g':=s.gens) (d':=s.drawn) (ch:=its) (fun b hb=>?_) (fun b o _ _ hc e _=>k b o hc e) (fun b o _ _ hc e _=>⟨o.slots,k b o hc e⟩) (fun _ _ _ _ n=>n)
  (fun b o hc e=>⟨o,k b o hc e⟩) (fun _ _ e=>e) (fun _ _ _ e=>e) (fun b ps e=>⟨#[],by rw [e]; simp⟩) (fun m hm=>?_) (fun b u e=>?_) I.bare
 ·obtain ⟨f0,f1,f2,f3,f4,f5⟩:=hf b hb;exact ⟨f3,f1,f4,f5⟩
 ·obtain ⟨o,es,ep,ho,r⟩:=hm;exact ⟨o,es,ep,k _ o (fun z=>(hf _ z).2.1 rfl) ho,r⟩
 ·refine (I.hok b u e).stay (fun c v hc q=>k c v ?_ q) (fun _ q=>q) fun _ _ q=>q
  rcases hc with z | z
  ·rw [z]; exact nit b u e
  ·exact nit c _ z
end
theorem sH (x:Str):["enumerate", "zip", "dict_itemiterator", "dict_reverseitemiterator", "odict_iterator", "itertools.zip_longest", "itertools.pairwise"].contains (strIterType x)=false:=by
 unfold strIterType;split <;> decide
section
variable {prog:Program} {w:World} {A:Around} {E:Value->Shared->Prop} {s:Shared}
theorem bn (x:Str):strIterType x = "str_ascii_iterator" \/ strIterType x = "str_iterator" := by
 unfold strIterType;split
 ·exact .inl rfl
 ·exact .inr rfl
theorem nS {it:Addr} {x:Str} {t:Tok} {i c:Nat} {Q:Option Value->Shared->Prop} (hit:s.heap.IsStrIter it (strIterType x) x t i) (hx:x.cps[i]? = some c)
  (hQ:∀ h',h'.IsStrIter it (strIterType x) x t (i+1)->Heap.SameBut it s.heap h'->Q (some (.str ⟨#[c]⟩ s.toks)) { s with heap:=h',toks:=s.toks+1 }):
  wpAny (model prog w) A (pyNext (.ref it)) Q E s:=by
 rcases bn x with e | e
 ·rw [e] at hit;simp only [e] at hQ;exact wpAny_pyNext_ascii_item hit hx hQ
 ·rw [e] at hit;simp only [e] at hQ;exact wpAny_pyNext_wide_item hit hx hQ
theorem pE {it:Addr} {x:Str} {t:Tok} {i:Nat} {Q:Option Value->Shared->Prop} (hh:A.handled=none) (hit:s.heap.IsStrIter it (strIterType x) x t i) (hx:x.cps[i]? = none)
  (hQ:∀ h',Heap.ExtBut it s.heap h'->Q none { s with heap:=h' }):wpAny (model prog w) A (pyNext (.ref it)) Q E s:=by
 rcases bn x with e | e
 ·rw [e] at hit;exact wpAny_pyNext_ascii_end hh hit hx hQ
 ·rw [e] at hit;exact wpAny_pyNext_wide_end hh hit hx hQ
theorem nE {it:Addr} {x:Str} {t:Tok} {i:Nat} {Q:Value->Shared->Prop} (hit:s.heap.IsStrIter it (strIterType x) x t i) (h:Q (.ref it) s):wpAny (model prog w) A (pyIter (.ref it)) Q E s:=by
 rcases bn x with e | e
 ·rw [e] at hit;exact wpAny_pyIter_striter_ascii hit h
 ·rw [e] at hit;exact wpAny_pyIter_striter_wide hit h
theorem ln {it:Addr} {x:Str} {t:Tok} {i c:Nat} {Q:Value->Shared->Prop} (hit:s.heap.IsStrIter it (strIterType x) x t i) (hx:x.cps[i]? = some c)
  (hQ:∀ h',h'.IsStrIter it (strIterType x) x t (i+1)->Heap.SameBut it s.heap h'->Q (.str ⟨#[c]⟩ s.toks) { s with heap:=h',toks:=s.toks+1 }):
  wpAny (model prog w) A (Builtin.SmallTypes.nextOf (.ref it)) Q E s:=by
 rcases bn x with e | e
 ·rw [e] at hit;simp only [e] at hQ;exact wpAny_nextOf_ascii_item hit hx hQ
 ·rw [e] at hit;simp only [e] at hQ;exact wpAny_nextOf_wide_item hit hx hQ
theorem mj {it:Addr} {x:Str} {t:Tok} {i:Nat} {Q:Value->Shared->Prop} (hh:A.handled=none) (hit:s.heap.IsStrIter it (strIterType x) x t i) (hx:x.cps[i]? = none)
  (hE:∀ h' e,Heap.ExtBut it s.heap h'->(∃ o,h'.get? e=some o/\o.cls=.type "StopIteration")->E (.ref e) { s with heap:=h' }):wpAny (model prog w) A (Builtin.SmallTypes.nextOf (.ref it)) Q E s:=by
 rcases bn x with e | e
 ·rw [e] at hit;exact wpAny_nextOf_ascii_end hh hit hx hE
 ·rw [e] at hit;exact wpAny_nextOf_wide_end hh hit hx hE
end
noncomputable def Its (x:Str):It:=⟨fun i _=>i < x.cps.size,fun i H v H'=>H'=H/\∃ c,x.cps[i]? = some c/\v=.str ⟨#[c]⟩,fun i _=>x.cps.size<=i⟩
theorem qI {h:Heap} {it:Addr} {ty:String} {x:Str} {t:Tok} {i:Nat} (st:h.IsStrIter it ty x t i):∃ o,h.get? it=some o/\∀ v,o.data≠.cell v:=by
 obtain ⟨o,e,c,d⟩:=st;exact ⟨o,e,fun v z=>by rw [d] at z; cases z⟩
theorem vW {P:Program} {w:World} {K:Frag} {tg:Expr} (x:Str) (t:Tok) (it:Addr):Turn P w K tg (Its x) [it] it (fun i h=>h.IsStrIter it (strIterType x) x t i) where
 mem:=by simp
 obj:=fun i h st b hb=>by
  have e:b=it:=by simpa using hb
  subst e;exact qI st
 keep:=fun i h h' st k=>by
  obtain ⟨o,e,r⟩:=st;exact ⟨o,k it (by simp) o e,r⟩
 item:=by
  intro X hP hw hK hc i pins s σ H E I hf st hg;subst hP hw hK;have hi:i < x.cps.size:=hg;refine nS st (c:=x.cps[i]) (by simp [hi]) fun h' st' sb=>?_
  have I1:Inv X pins σ H { s with heap:=h',toks:=s.toks+1 }:=I.turnedL (its:=[it]) (fun b o hb e=>(sb.2 b (by simpa using hb)).trans e) hf;obtain ⟨o,e,c,d⟩:=id st';exact ⟨_,rfl,tL (s:={ s with heap:=h',toks:=s.toks+1 }) e c d (sH x) ⟨.str ⟨#[x.cps[i]]⟩,H,I1,⟨_,rfl⟩,⟨rfl,_,by simp [hi],rfl⟩,st',fun b hb=>(hf b hb).1⟩⟩
 done:=by
  intro X hP hw hK hc i pins s σ H E I hf st hg;subst hP hw hK;have hi:x.cps.size<=i:=hg;exact pE (I.ok.hd hc) st (by simp [hi]) fun h' eb=>⟨rfl,I.turnedL (t':=s.toks) (its:=[it]) (fun b o hb e=>eb b o (by simpa using hb) e) hf⟩
 self:=fun _ _ _ _ _ st h=>nE st h
section
variable {X:Cx} {tg e:Expr} {te:TE}
end
theorem si {J:It} {n:Nat} {g:TG} {tb:TS} {D:Ends} {σ:St} {H:Hp} (Pv:Nat->St->Hp->Prop) (h0:Pv 0 σ H) (hgo:∀ i σ H,i < n->Pv i σ H->J.go i H) (hst:∀ σ H,Pv n σ H->J.stop n H)
  (hs:∀ i σ H x H',i < n->Pv i σ H->J.yld i H x H'->g x σ H' fun σ2 H2=>tb { D with nx:=Pv (i+1),ct:=Pv (i+1),bk:=D.nx } σ2 H2) (hd:∀ σ H,Pv n σ H->D.nx σ H):
  ∃ W:Nat->Nat->St->Hp->Prop,(∃ m,W 0 m σ H)/\∀ i m σ H,W i m σ H ->
   (J.stop i H/\D.nx σ H)\/(J.go i H/\∃ N:St->Hp->Prop,(∀ σ' H',N σ' H'->∃ m',m' < m/\W (i+1) m' σ' H')/\∀ x H',J.yld i H x H'->g x σ H' fun σ2 H2=>tb { D with nx:=N,ct:=N,bk:=D.nx } σ2 H2):=by
 refine ⟨fun i m σ H=>m=n - i/\i<=n/\Pv i σ H,⟨n,by simp,Nat.zero_le _,h0⟩,?_⟩;rintro i m σ H ⟨rfl,hi,p⟩;by_cases hlt:i < n
 ·exact .inr ⟨hgo i σ H hlt p,Pv (i+1),fun σ' H' p'=>⟨n - (i+1),by omega,rfl,hlt,p'⟩,fun x H' y=>hs i σ H x H' hlt p y⟩
 ·have e:i=n:=by omega
  subst e;exact .inl ⟨hst σ H p,hd σ H p⟩
structure Nx (prog:Program) (w:World) (A:Around) (it:Addr) (f:List Addr) (Sa Sb:Heap->Prop) (P:Value->Prop):Prop where
 fra:∀ h h',Sa h->(∀ b ∈ f,∀ o,h.get? b=some o->h'.get? b=some o)->Sa h'
 frb:∀ h h',Sb h->(∀ b ∈ f,∀ o,h.get? b=some o->h'.get? b=some o)->Sb h'
 step:∀ (s:Shared) (Q:Value->Shared->Prop) (E:Value->Shared->Prop),Sa s.heap->(∀ x h' tk,P x->Sb h'->Heap.SameBut it s.heap h'->Q x { s with heap:=h',toks:=tk })->wpAny (model prog w) A (Builtin.SmallTypes.nextOf (.ref it)) Q E s
structure Nd (prog:Program) (w:World) (A:Around) (it:Addr) (f:List Addr) (Sa:Heap->Prop):Prop where
 fra:∀ h h',Sa h->(∀ b ∈ f,∀ o,h.get? b=some o->h'.get? b=some o)->Sa h'
 step:∀ (s:Shared) (Q:Value->Shared->Prop) (E:Value->Shared->Prop),Sa s.heap->(∀ h' e,Heap.ExtBut it s.heap h'->(∃ o,h'.get? e=some o/\o.cls=.type "StopIteration")->E (.ref e) { s with heap:=h' })->wpAny (model prog w) A (Builtin.SmallTypes.nextOf (.ref it)) Q E s
structure ZAp (z TI TO i1 i2:Addr):Prop where
 TIz:TI≠z
 TOz:TO≠z
 i1z:i1≠z
 i2z:i2≠z
 TITO:TI≠TO
 TIi1:TI≠i1
 TIi2:TI≠i2
 TOi1:TO≠i1
 TOi2:TO≠i2
 i12:i1≠i2
section
variable {prog:Program} {w:World} {A:Around} {E:Value->Shared->Prop} {s:Shared}
theorem im {z TI TO i1 i2:Addr} {f1 f2:List Addr} {Sa Sb Sc Sd:Heap->Prop} {P1 P2:Value->Prop} {a b:Value} {Q:Value->Shared->Prop} (D:ZAp z TI TO i1 i2)
  (n1:Nx prog w A i1 f1 Sa Sb P1) (n2:Nx prog w A i2 f2 Sc Sd P2) (hf1:∀ c ∈ f1,c≠z/\c≠TO/\c≠i2) (hf2:∀ c ∈ f2,c≠z/\c≠TO/\c≠i1)
  (hz:IsZip s.heap z TI TO .none) (hTI:IsPair s.heap TI (.ref i1) (.ref i2)) (hTO:IsPair s.heap TO a b) (h1:Sa s.heap) (h2:Sc s.heap)
  (hQ:∀ x y h' tk,P1 x->P2 y->IsZip h' z TI TO (rawInt s.heap.objs.size)->IsPair h' TO x y->Sb h'->Sd h'->IsPair h' s.heap.objs.size x y->h'.objs.size=s.heap.objs.size+1 ->
   (∀ c o,c≠z->c≠TO->c≠i1->c≠i2->s.heap.get? c=some o->h'.get? c=some o)->Q (.ref s.heap.objs.size) { s with heap:=h',toks:=tk }):
  wpAny (model prog w) A (Builtin.«zip.__next__» ⟨[.ref z],[]⟩) (fun fin s'=>∃ v,fin=.done (.ret v)/\Q v s') E s:=by
 obtain ⟨hp,gs,dr,k0,os⟩:=s;refine wpAny_bind (m:=slotArgs "__next__" 0 _) (wpAny_of_eq (a:=(Value.ref _,[])) rfl ?_);refine wpAny_bind (m:=field _ 2) (wpAny_field hz rfl (x:=Value.bool false) rfl (wpAny_bind (m:=field _ 3) (wpAny_field hz rfl (x:=Value.ref TI) rfl (wpAny_bind (m:=seqItems? _) (wpAny_seqItems hTI rfl ?_)))));refine wpAny_bind (m:=Builtin.SmallTypes.ownedTupleIsFree _) (wpAny_bind (wpAny_field hz rfl (x:=Value.none) rfl (wpAny_pure ?_)));refine wpAny_bind (wpAny_rule (wpAny_bind (wpAny_field hz rfl (x:=Value.ref TO) rfl (wpAny_bind (wpAny_setField_rec hz (by simp) fun g1 zg sg=>wpAny_bind ?_)))));simp only [List.zipIdx_cons,List.zipIdx_nil,List.forIn_cons,List.forIn_nil];have zg:IsZip g1 z TI TO .ellipsis:=zg;have sg:Heap.SameBut z hp g1:=sg;refine wpAny_bind (wpAny_bind (wpAny_onRaise (wpAny_bind (m:=Builtin.SmallTypes.nextOf (.ref i1)) (n1.step _ _ _ (n1.fra hp g1 h1 fun c hc o=>sg.extBut _ _ (hf1 c hc).1) fun x g2 k1 p1 b2 t2=>wpAny_pure ?_))));have t2:Heap.SameBut i1 g1 g2:=t2;have o2:IsPair g2 TO a b:=t2.extBut _ _ D.TOi1 (sg.extBut _ _ D.TOz hTO);refine wpAny_bind (wpAny_seqItems o2 rfl (wpAny_bind (wpAny_updateSeq_pair o2 fun g3 o3 t3=>wpAny_bind (wpAny_letGo (wpAny_pure ?_)))));have o3:IsPair g3 TO x b:=o3;have t3:Heap.SameBut TO g2 g3:=t3;have to3:∀ c o,c≠z->c≠TO->c≠i1->hp.get? c=some o->g3.get? c=some o:=fun c o e1 e2 e3 q=>t3.extBut _ _ e2 (t2.extBut _ _ e3 (sg.extBut _ _ e1 q))
 refine wpAny_bind (wpAny_bind (wpAny_onRaise (wpAny_bind (m:=Builtin.SmallTypes.nextOf (.ref i2)) (n2.step _ _ _ (n2.fra hp g3 h2 fun c hc o=>to3 c o (hf2 c hc).1 (hf2 c hc).2.1 (hf2 c hc).2.2) fun y g4 k2 p2 b4 t4=>wpAny_pure ?_))));have t4:Heap.SameBut i2 g3 g4:=t4;have o4:IsPair g4 TO x b:=t4.extBut _ _ D.TOi2 o3;refine wpAny_bind (wpAny_seqItems o4 rfl (wpAny_bind (wpAny_updateSeq_pair o4 fun g5 o5 t5=>wpAny_bind (wpAny_letGo (wpAny_pure (wpAny_pure ?_))))));have o5:IsPair g5 TO x y:=o5;have t5:Heap.SameBut TO g4 g5:=t5;have size5:g5.objs.size=hp.objs.size:=t5.1.trans (t4.1.trans (t3.1.trans (t2.1.trans sg.1)));have z5:IsZip g5 z TI TO .ellipsis:=t5.extBut _ _ D.TOz.symm (t4.extBut _ _ D.i2z.symm (t3.extBut _ _ D.TOz.symm (t2.extBut _ _ D.i1z.symm zg)));have zlt:z < g5.objs.size:=Heap.lt_size z5;refine wpAny_bind (wpAny_seqItems o5 rfl (wpAny_bind (wpAny_newTuple (wpAny_bind (m:=Builtin.SmallTypes.ownedTupleHandOut _ _) ?_))));refine wpAny_bind (wpAny_setField_rec (Heap.get?_push_of_some _ z5) (by simp) fun g6 z6 t6=>wpAny_setField_rec z6 (by simp) fun g7 z7 t7=>wpAny_pure ⟨_,rfl,?_⟩);have t6:Heap.SameBut z (g5.push { cls:=.type "tuple",data:=.seq #[x,y] }) g6:=t6;have t7:Heap.SameBut z g6 g7:=t7;have z7:IsZip g7 z TI TO (rawInt g5.objs.size):=z7;have over:∀ c o,c≠z->g5.get? c=some o->g7.get? c=some o:=fun c o e q=>t7.extBut _ _ e (t6.extBut _ _ e (Heap.get?_push_of_some _ q))
 have pair7:IsPair g7 g5.objs.size x y:=t7.extBut _ _ (Nat.ne_of_gt zlt) (t6.extBut _ _ (Nat.ne_of_gt zlt) (Heap.get?_push_size _ rfl));have size7:g7.objs.size=g5.objs.size+1:=t7.1.trans (t6.1.trans (Heap.size_push ..));show Q (.ref g5.objs.size) _;rw [size5] at z7 pair7 size7 ⊢;refine hQ x y g7 k2 p1 p2 z7 (over _ _ D.TOz o5) (n1.frb g2 g7 b2 fun c hc o q=>?_) (n2.frb g4 g7 b4 fun c hc o q=>?_) pair7 size7 fun c o e1 e2 e3 e4 q=>over c o e1 (t5.extBut _ _ e2 (t4.extBut _ _ e4 (to3 c o e1 e2 e3 q)))
 ·obtain ⟨e1,e2,e3⟩:=hf1 c hc;exact over c o e1 (t5.extBut _ _ e2 (t4.extBut _ _ e3 (t3.extBut _ _ e2 q)))
 ·obtain ⟨e1,e2,_⟩:=hf2 c hc;exact over c o e1 (t5.extBut _ _ e2 q)
theorem iU {z TI TO i1 i2:Addr} {f1:List Addr} {Sa:Heap->Prop} {Q:Fin->Shared->Prop} (D:ZAp z TI TO i1 i2)
  (n1:Nd prog w A i1 f1 Sa) (hf1:∀ c ∈ f1,c≠z/\c≠TO/\c≠i2)
  (hz:IsZip s.heap z TI TO .none) (hTI:IsPair s.heap TI (.ref i1) (.ref i2)) (h1:Sa s.heap)
  (hE:∀ h' e tk,(∀ c o,c≠z->c≠TO->c≠i1->c≠i2->s.heap.get? c=some o->h'.get? c=some o)->(∃ o,h'.get? e=some o/\o.cls=.type "StopIteration")->E (.ref e) { s with heap:=h',toks:=tk }):
  wpAny (model prog w) A (Builtin.«zip.__next__» ⟨[.ref z],[]⟩) Q E s:=by
 obtain ⟨hp,gs,dr,k0,os⟩:=s;refine wpAny_bind (m:=slotArgs "__next__" 0 _) (wpAny_of_eq (a:=(Value.ref _,[])) rfl ?_);refine wpAny_bind (m:=field _ 2) (wpAny_field hz rfl (x:=Value.bool false) rfl (wpAny_bind (m:=field _ 3) (wpAny_field hz rfl (x:=Value.ref TI) rfl (wpAny_bind (m:=seqItems? _) (wpAny_seqItems hTI rfl ?_)))));refine wpAny_bind (m:=Builtin.SmallTypes.ownedTupleIsFree _) (wpAny_bind (wpAny_field hz rfl (x:=Value.none) rfl (wpAny_pure ?_)));refine wpAny_bind (wpAny_rule (wpAny_bind (wpAny_field hz rfl (x:=Value.ref TO) rfl (wpAny_bind (wpAny_setField_rec hz (by simp) fun g1 zg sg=>wpAny_bind ?_)))));simp only [List.zipIdx_cons,List.zipIdx_nil,List.forIn_cons,List.forIn_nil];have zg:IsZip g1 z TI TO .ellipsis:=zg;have sg:Heap.SameBut z hp g1:=sg;refine wpAny_bind (wpAny_bind (wpAny_onRaise (wpAny_bind (m:=Builtin.SmallTypes.nextOf (.ref i1)) (n1.step _ _ _ (n1.fra hp g1 h1 fun c hc o=>sg.extBut _ _ (hf1 c hc).1) fun g2 e t2 ⟨oe,qe,ce⟩=>?_))));have t2:Heap.ExtBut i1 g1 g2:=t2;have z2:IsZip g2 z TI TO .ellipsis:=t2 _ _ D.i1z.symm zg;have ne:e≠z:=fun q=>by subst q; rw [z2] at qe; cases qe; simp at ce
 refine wpAny_setField_rec z2 (by simp) fun g3 _ t3=>?_
 have t3:Heap.SameBut z g2 g3:=t3;exact hE g3 e k0 (fun c o e1 _ e3 _ q=>t3.extBut _ _ e1 (t2 _ _ e3 (sg.extBut _ _ e1 q))) ⟨oe,t3.extBut _ _ ne qe,ce⟩
theorem iS {z TI TO i1 i2:Addr} {f1 f2:List Addr} {Sa Sb Sc:Heap->Prop} {P1:Value->Prop} {a b:Value} {Q:Fin->Shared->Prop} (D:ZAp z TI TO i1 i2)
  (n1:Nx prog w A i1 f1 Sa Sb P1) (n2:Nd prog w A i2 f2 Sc) (hf1:∀ c ∈ f1,c≠z/\c≠TO/\c≠i2) (hf2:∀ c ∈ f2,c≠z/\c≠TO/\c≠i1)
  (hz:IsZip s.heap z TI TO .none) (hTI:IsPair s.heap TI (.ref i1) (.ref i2)) (hTO:IsPair s.heap TO a b) (h1:Sa s.heap) (h2:Sc s.heap)
  (hE:∀ h' e tk,(∀ c o,c≠z->c≠TO->c≠i1->c≠i2->s.heap.get? c=some o->h'.get? c=some o)->(∃ o,h'.get? e=some o/\o.cls=.type "StopIteration")->E (.ref e) { s with heap:=h',toks:=tk }):
  wpAny (model prog w) A (Builtin.«zip.__next__» ⟨[.ref z],[]⟩) Q E s:=by
 obtain ⟨hp,gs,dr,k0,os⟩:=s;refine wpAny_bind (m:=slotArgs "__next__" 0 _) (wpAny_of_eq (a:=(Value.ref _,[])) rfl ?_);refine wpAny_bind (m:=field _ 2) (wpAny_field hz rfl (x:=Value.bool false) rfl (wpAny_bind (m:=field _ 3) (wpAny_field hz rfl (x:=Value.ref TI) rfl (wpAny_bind (m:=seqItems? _) (wpAny_seqItems hTI rfl ?_)))));refine wpAny_bind (m:=Builtin.SmallTypes.ownedTupleIsFree _) (wpAny_bind (wpAny_field hz rfl (x:=Value.none) rfl (wpAny_pure ?_)));refine wpAny_bind (wpAny_rule (wpAny_bind (wpAny_field hz rfl (x:=Value.ref TO) rfl (wpAny_bind (wpAny_setField_rec hz (by simp) fun g1 zg sg=>wpAny_bind ?_)))));simp only [List.zipIdx_cons,List.zipIdx_nil,List.forIn_cons,List.forIn_nil];have zg:IsZip g1 z TI TO .ellipsis:=zg;have sg:Heap.SameBut z hp g1:=sg;refine wpAny_bind (wpAny_bind (wpAny_onRaise (wpAny_bind (m:=Builtin.SmallTypes.nextOf (.ref i1)) (n1.step _ _ _ (n1.fra hp g1 h1 fun c hc o=>sg.extBut _ _ (hf1 c hc).1) fun x g2 k1 p1 b2 t2=>wpAny_pure ?_))));have t2:Heap.SameBut i1 g1 g2:=t2;have o2:IsPair g2 TO a b:=t2.extBut _ _ D.TOi1 (sg.extBut _ _ D.TOz hTO);refine wpAny_bind (wpAny_seqItems o2 rfl (wpAny_bind (wpAny_updateSeq_pair o2 fun g3 _ t3=>wpAny_bind (wpAny_letGo (wpAny_pure ?_)))));have t3:Heap.SameBut TO g2 g3:=t3;have to3:∀ c o,c≠z->c≠TO->c≠i1->hp.get? c=some o->g3.get? c=some o:=fun c o e1 e2 e3 q=>t3.extBut _ _ e2 (t2.extBut _ _ e3 (sg.extBut _ _ e1 q))
 refine wpAny_bind (wpAny_bind (wpAny_onRaise (wpAny_bind (m:=Builtin.SmallTypes.nextOf (.ref i2)) (n2.step _ _ _ (n2.fra hp g3 h2 fun c hc o=>to3 c o (hf2 c hc).1 (hf2 c hc).2.1 (hf2 c hc).2.2) fun g4 e t4 ⟨oe,qe,ce⟩=>?_))));have t4:Heap.ExtBut i2 g3 g4:=t4;have z4:IsZip g4 z TI TO .ellipsis:=t4 _ _ D.i2z.symm (t3.extBut _ _ D.TOz.symm (t2.extBut _ _ D.i1z.symm zg));have ne:e≠z:=fun q=>by subst q; rw [z4] at qe; cases qe; simp at ce
 refine wpAny_setField_rec z4 (by simp) fun g5 _ t5=>?_
 have t5:Heap.SameBut z g4 g5:=t5;exact hE g5 e k1 (fun c o e1 e2 e3 e4 q=>t5.extBut _ _ e1 (t4 _ _ e4 (to3 c o e1 e2 e3 q))) ⟨oe,t5.extBut _ _ ne qe,ce⟩
theorem gR {z:Addr} {o:Obj} {Q:Option Value->Shared->Prop} (hz:s.heap.get? z=some o) (hc:o.cls=.type "zip")
  (h:wpAny (model prog w) A.in1 (Builtin.«zip.__next__» ⟨[.ref z],[]⟩) (fun fin s'=>∃ v,fin=.done (.ret v)/\Q (some v) s') (fun _ _=>False) s):wpAny (model prog w) A (pyNext (.ref z)) Q E s:=by
 have hT:s.TypeIs (.ref z) "zip" := ⟨_,hz,hc⟩;unfold pyNext;exact wpAny_bind (wpAny_attempt (wpAny_callSpecial?_slot (name:=Str.ofString "__next__") hT F.slot_zip_next
  (wpAny_call_entry F.slot_zip_next hT F.entry_zip_next (wpAny_mono h (fun fin s' ⟨v,e,q⟩=>⟨v,e,wpAny_pure q⟩) fun _ _ f=>f.elim) (F.args_zip_next_1 _))))
theorem cG {z:Addr} {o:Obj} {Q:Option Value->Shared->Prop} (hz:s.heap.get? z=some o) (hc:o.cls=.type "zip")
  (h:wpAny (model prog w) A.in1 (Builtin.«zip.__next__» ⟨[.ref z],[]⟩) (fun _ _=>False) (fun e s'=>∃ a,e=.ref a/\(∃ o,s'.heap.get? a=some o/\o.cls=.type "StopIteration")/\Q none s') s):wpAny (model prog w) A (pyNext (.ref z)) Q E s:=by
 have hT:s.TypeIs (.ref z) "zip" := ⟨_,hz,hc⟩;unfold pyNext;refine wpAny_bind (wpAny_attempt (wpAny_callSpecial?_slot (name:=Str.ofString "__next__") hT F.slot_zip_next
  (wpAny_call_entry F.slot_zip_next hT F.entry_zip_next (wpAny_mono h (fun _ _ f=>f.elim) fun e s' he=>?_) (F.args_zip_next_1 _))))
 obtain ⟨a,rfl,⟨o,ho,hc⟩,q⟩:=he;refine wpAny_bind (wpAny_isInstance (T := "StopIteration") (b:=true) ⟨o,ho,hc⟩ isSubtype_stop ?_);exact wpAny_pure q
end
inductive Src where
 | str (x:Str) | lst (a:Addr)
noncomputable def SrcGo (K:Frag) (H:Hp):Src->Nat->Prop
 | .str x,i=>i < x.cps.size
 | .lst a,i=>∃ xs v,SqL K H a xs/\xs[i]? = some v
noncomputable def SrcAt (K:Frag) (H:Hp):Src->Nat->V->Prop
 | .str x,i,v=>∃ c,x.cps[i]? = some c/\v=.str ⟨#[c]⟩
 | .lst a,i,v=>∀ xs,SqL K H a xs->xs[i]? = some v
noncomputable def SrcEnd (K:Frag) (H:Hp):Src->Nat->Prop
 | .str x,i=>x.cps.size<=i
 | .lst a,i=>∃ xs,SqL K H a xs/\xs.length<=i
noncomputable def SrcIt (h:Heap):Src->Addr->Nat->Prop
 | .str x,it,i=>∃ t,h.IsStrIter it (strIterType x) x t i
 | .lst a,it,i=>h.IsListIter it a i
noncomputable def SrcOf (K:Frag) (H:Hp):Src->V->Prop
 | .str x,v=>v=.str x
 | .lst a,v=>v=.ref a/\∃ xs,SqL K H a xs
theorem SrcIt.obj {h:Heap} {S:Src} {it:Addr} {i:Nat} (st:SrcIt h S it i):∃ o,h.get? it=some o/\(∀ v,o.data≠.cell v)/\o.cls≠.type "list" /\ o.cls≠.type "zip" /\ o.cls≠.type "tuple" := by
 cases S with
 | str x=>
  obtain ⟨t,o,e,c,d⟩:=st;refine ⟨o,e,(fun v z=>by rw [d] at z; cases z),?_⟩;rw [c];rcases bn x with q | q <;> rw [q] <;> decide
 | lst a=>
  obtain ⟨o,e,c,d⟩:=(show h.IsListIter it a i from st);refine ⟨o,e,(fun v z=>by rw [d] at z; cases z),?_⟩;rw [c];decide
theorem SrcIt.keep {h h':Heap} {S:Src} {it:Addr} {i:Nat} (st:SrcIt h S it i) (k:∀ o,h.get? it=some o->h'.get? it=some o):SrcIt h' S it i:=by
 cases S with
 | str x=>
  obtain ⟨t,o,e,r⟩:=st;exact ⟨t,o,k o e,r⟩
 | lst a=>exact Heap.IsListIter.at (show h.IsListIter it a i from st) k
section
variable {X:Cx} {pins:List (Addr × Obj)} {σ:St} {H:Hp} {s:Shared} {A:Around}
theorem sM (I:Inv X pins σ H s) (S:Src) {it:Addr} {i:Nat} (st:SrcIt s.heap S it i) (go:SrcGo X.K H S i):
  ∃ (f:List Addr) (Sa Sb:Heap->Prop) (P:Value->Prop),Nx X.prog X.w A it f Sa Sb P/\Sa s.heap/\(∀ c ∈ f,c=it\/∃ o,s.heap.get? c=some o/\o.cls=.type "list")/\(∀ h,Sb h->SrcIt h S it (i+1))/\∀ v,P v->∃ x,RelV x v/\SrcAt X.K H S i x:=by
 cases S with
 | str x=>
  obtain ⟨t,st⟩:=st;have hi:i < x.cps.size:=go;refine ⟨[it],fun h=>h.IsStrIter it (strIterType x) x t i,fun h=>h.IsStrIter it (strIterType x) x t (i+1),fun v=>∃ u,v=.str ⟨#[x.cps[i]]⟩ u,⟨?_,?_,?_⟩,st,fun c hc=>.inl (by simpa using hc),fun h q=>⟨t,q⟩,?_⟩
  ·rintro h h' ⟨o,e,r⟩ k;exact ⟨o,k it (by simp) o e,r⟩
  ·rintro h h' ⟨o,e,r⟩ k;exact ⟨o,k it (by simp) o e,r⟩
  ·intro s Q E st hQ;exact ln st (c:=x.cps[i]) (by simp [hi]) fun h' st' sb=>hQ _ h' _ ⟨_,rfl⟩ st' sb
  ·rintro v ⟨u,rfl⟩;exact ⟨.str ⟨#[x.cps[i]]⟩,⟨u,rfl⟩,_,by simp [hi],rfl⟩
 | lst a=>
  obtain ⟨xs,v,hq,hv⟩:=go;obtain ⟨its,rv,pl,hz⟩:=I.list hq;obtain ⟨u,hu,ru⟩:=rv.get hv;have st':s.heap.IsListIter it a i:=st;obtain ⟨o,e,c,n,hd⟩:=id pl.isList;have hne:a≠it:=by
   rintro rfl;obtain ⟨o',e',c',_⟩:=st';rw [e] at e';cases e';rw [c] at c';exact absurd c' (by decide)
  refine ⟨[it,a],fun h=>h.IsListIter it a i/\h.IsList a its.toArray,fun h=>h.IsListIter it a (i+1)/\h.IsList a its.toArray,fun z=>z=u,⟨?_,?_,?_⟩,⟨st',pl.isList⟩,?_,fun h q=>q.1,?_⟩
  ·rintro h h' ⟨s1,s2⟩ k;exact ⟨s1.at fun o e=>k it (by simp) o e,s2.at fun o e=>k a (by simp) o e⟩
  ·rintro h h' ⟨s1,s2⟩ k;exact ⟨s1.at fun o e=>k it (by simp) o e,s2.at fun o e=>k a (by simp) o e⟩
  ·intro s Q E st hQ;exact wpAny_nextOf_list_item st.1 st.2 (x:=u) (by simpa using hu) fun h' st' sb=>hQ _ h' s.toks rfl ⟨st',st.2.extBut sb.extBut hne⟩ sb
  ·intro c' hc;rcases (by simpa using hc:c'=it\/c'=a) with z | z
   ·exact .inl z
   ·subst z;exact .inr ⟨o,e,c⟩
  ·rintro z rfl;exact ⟨v,ru,fun ys hy=>by rw [I.list_inj hy hq]; exact hv⟩
theorem xn (I:Inv X pins σ H s) (hh:A.handled=none) (S:Src) {it:Addr} {i:Nat} (st:SrcIt s.heap S it i) (en:SrcEnd X.K H S i):
  ∃ (f:List Addr) (Sa:Heap->Prop),Nd X.prog X.w A it f Sa/\Sa s.heap/\(∀ c ∈ f,c=it\/∃ o,s.heap.get? c=some o/\o.cls=.type "list"):=by
 cases S with
 | str x=>
  obtain ⟨t,st⟩:=st;have hi:x.cps.size<=i:=en;refine ⟨[it],fun h=>h.IsStrIter it (strIterType x) x t i,⟨?_,?_⟩,st,fun c hc=>.inl (by simpa using hc)⟩
  ·rintro h h' ⟨o,e,r⟩ k;exact ⟨o,k it (by simp) o e,r⟩
  ·intro s Q E st hE;exact mj hh st (by simp [hi]) hE
 | lst a=>
  obtain ⟨xs,hq,hv⟩:=en;obtain ⟨its,rv,pl,hz⟩:=I.list hq;have st':s.heap.IsListIter it a i:=st;obtain ⟨o,e,c,n,hd⟩:=id pl.isList;have hl:=rv.length;refine ⟨[it,a],fun h=>h.IsListIter it a i/\h.IsList a its.toArray,⟨?_,?_⟩,⟨st',pl.isList⟩,?_⟩
  ·rintro h h' ⟨s1,s2⟩ k;exact ⟨s1.at fun o e=>k it (by simp) o e,s2.at fun o e=>k a (by simp) o e⟩
  ·intro s Q E st hE;exact wpAny_nextOf_list_end hh st.1 st.2 (by simp; omega) hE
  ·intro c' hc;rcases (by simpa using hc:c'=it\/c'=a) with z | z
   ·exact .inl z
   ·subst z;exact .inr ⟨o,e,c⟩
theorem Inv.turnedLaid {t':Nat} {its:List Addr} {h':Heap} {a:Addr} {o:HO} (I:Inv X pins σ H s) (k:∀ b ob,b ∉ its->s.heap.get? b=some ob->h'.get? b=some ob) (hf:∀ b ∈ its,FpOk X pins H b) (hp:s.heap.objs.size<=a)
  (new:ObjOk X.prog X.w (upd H a o) h' a o) (ht:0 < t':=by first | assumption | exact Nat.succ_pos _ | (apply Inv.tk; assumption) | omega):Inv X pins σ (upd H a o) { s with heap:=h',toks:=t' }:=by
 have hn:H a=none:=I.hok.fresh hp;have nit:∀ b u,H b=some u->b ∉ its:=fun b u e z=>by
  have q:=(hf b z).1;rw [q] at e;cases e
 have nea:∀ b ob,s.heap.get? b=some ob->b≠a:=fun b ob e=>Nat.ne_of_lt (Nat.lt_of_lt_of_le (Heap.lt_size e) hp)
 refine I.step (g':=s.gens) (d':=s.drawn) (ch:=its) (fun b hb=>?_) (fun b o _ _ hc e _=>k b o hc e) (fun b o _ _ hc e _=>⟨o.slots,k b o hc e⟩) (fun b ob _ e n=>by rw [ao (nea b ob e)]; exact n)
  (fun b o hc e=>⟨o,k b o hc e⟩) (fun _ _ e=>by rw [ao (aQ e hn)]; exact e) (fun _ _ _ e=>by rw [ao (aQ e hn)]; exact e) (fun b ps e=>⟨#[],by rw [ao (aQ e hn),e]; simp⟩) (fun m hm=>?_) (fun b u e=>?_) I.bare
 ·obtain ⟨f0,f1,f2,f3,f4,f5⟩:=hf b hb;exact ⟨f3,f1,f4,f5⟩
 ·obtain ⟨o,es,ep,ho,r⟩:=hm;exact ⟨o,es,ep,k _ o (fun z=>(hf _ z).2.1 rfl) ho,r⟩
 ·by_cases hb:b=a
  ·subst hb;rw [upd_same] at e;cases e;exact new
  ·rw [ao hb] at e;refine (I.hok b u e).stay (fun c v hc q=>k c v ?_ q) (fun c q=>by rw [ao (aQ q hn)]; exact q) fun c xs q=>by rw [ao (aQ q hn)]; exact q
   rcases hc with z | z
   ·rw [z]; exact nit b u e
   ·exact nit c _ z
end
noncomputable def Itz (K:Frag) (S1 S2:Src):It:=⟨fun i H=>SrcGo K H S1 i/\SrcGo K H S2 i,fun i H v H'=>∃ T x y,v=.ref T/\H T=none/\H'=upd H T (.tup [x,y])/\SrcAt K H S1 i x/\SrcAt K H S2 i y,
 fun i H=>SrcEnd K H S1 i\/(SrcGo K H S1 i/\SrcEnd K H S2 i)⟩
def ZipSt (z TI TO i1 i2:Addr) (S1 S2:Src) (i:Nat) (h:Heap):Prop:=∃ a b,IsZip h z TI TO .none/\IsPair h TI (.ref i1) (.ref i2)/\IsPair h TO a b/\SrcIt h S1 i1 i/\SrcIt h S2 i2 i
theorem lW {h:Heap} {f:List Addr} {z TI TO i1 i2:Addr} {a b:Value} {S2:Src} {k:Nat} (hz:IsZip h z TI TO .none) (hTO:IsPair h TO a b) (h2:SrcIt h S2 i2 k) (n1:i1≠z) (n2:i1≠TO) (n3:i1≠i2)
  (m:∀ c ∈ f,c=i1\/∃ o,h.get? c=some o/\o.cls=.type "list"):∀ c ∈ f,c≠z/\c≠TO/\c≠i2:=fun c hc=>by
 rcases m c hc with e | ⟨o,e,c1⟩
 ·subst e;exact ⟨n1,n2,n3⟩
 ·refine ⟨?_,?_,?_⟩
  ·rintro rfl;rw [hz] at e;cases e;exact absurd (show Value.type "zip" = Value.type "list" from c1) (by decide)
  ·rintro rfl;rw [hTO] at e;cases e;exact absurd (show Value.type "tuple" = Value.type "list" from c1) (by decide)
  ·rintro rfl;obtain ⟨o',e',_,q,_⟩:=h2.obj;rw [e] at e';cases e';exact q c1
theorem qW {P:Program} {w:World} {K:Frag} {elts:List Expr} {kk:Nat} {pos:Pos} {z TI TO i1 i2:Addr} (D:ZAp z TI TO i1 i2) (S1 S2:Src):
  Turn P w K (.Tuple elts kk pos) (Itz K S1 S2) [z,TI,TO,i1,i2] z (ZipSt z TI TO i1 i2 S1 S2) where
 mem:=by simp
 obj:=fun i h st b hb=>by
  obtain ⟨a,c,hz,hTI,hTO,h1,h2⟩:=st;simp only [List.mem_cons,List.not_mem_nil,or_false] at hb;rcases hb with rfl | rfl | rfl | rfl | rfl
  ·exact ⟨_,hz,fun v q=>by have q':Data.fields _=Data.cell v:=q; cases q'⟩
  ·exact ⟨_,hTI,fun v q=>by have q':Data.seq _ _=Data.cell v:=q; cases q'⟩
  ·exact ⟨_,hTO,fun v q=>by have q':Data.seq _ _=Data.cell v:=q; cases q'⟩
  ·obtain ⟨o,e,q,_⟩:=h1.obj;exact ⟨o,e,q⟩
  ·obtain ⟨o,e,q,_⟩:=h2.obj;exact ⟨o,e,q⟩
 keep:=fun i h h' st k=>by
  obtain ⟨a,c,hz,hTI,hTO,h1,h2⟩:=st;exact ⟨a,c,k z (by simp) _ hz,k TI (by simp) _ hTI,k TO (by simp) _ hTO,h1.keep fun o e=>k i1 (by simp) o e,h2.keep fun o e=>k i2 (by simp) o e⟩
 item:=by
  intro X hP hw hK hc i pins s σ H E I hf st hg;subst hP hw hK;obtain ⟨a,b,hz,hTI,hTO,h1,h2⟩:=st;obtain ⟨g1,g2⟩:=hg;obtain ⟨f1,Sa,Sb,P1,n1,a1,m1,b1,r1⟩:=sM (A:=X.A.in1) I S1 h1 g1;obtain ⟨f2,Sc,Sd,P2,n2,a2,m2,b2,r2⟩:=sM (A:=X.A.in1) I S2 h2 g2;refine tokQ I.tk (gR hz rfl (im D n1 n2 (lW hz hTO h2 D.i1z D.TOi1.symm D.i12 m1) (lW hz hTO h1 D.i2z D.TOi2.symm D.i12.symm m2) hz hTI hTO a1 a2 fun x y h' tk p1 p2 z1 z2 q1 q2 z3 z4 kp (htk:0 < tk)=>?_));obtain ⟨vx,rx,ax⟩:=r1 x p1;obtain ⟨vy,ry,ay⟩:=r2 y p2;have fresh:H s.heap.objs.size=none:=I.hok.fresh (Nat.le_refl _);have off:∀ {c o},s.heap.get? c=some o->c≠s.heap.objs.size:=fun e=>Nat.ne_of_lt (Heap.lt_size e)
  refine ⟨_,rfl,wpAny_letOwnedTupleGo_zip z1 fun h'' z1' sb=>?_⟩
  replace sb:Heap.SameBut z h' h'':=sb
  have hT:IsPair h'' s.heap.objs.size x y:=sb.extBut _ _ (Ne.symm (off hz)) z3;have I1:Inv X pins σ (upd H s.heap.objs.size (.tup [vx,vy])) { s with heap:=h'',toks:=tk }:=by
   refine I.turnedLaid (its:=[z,TO,i1,i2]) (fun c o hc' e=>?_) (fun c hc'=>hf c ?_) (Nat.le_refl _) ?_
   ·simp only [List.mem_cons,List.not_mem_nil,or_false,not_or] at hc';exact sb.extBut _ _ hc'.1 (kp c o hc'.1 hc'.2.1 hc'.2.2.1 hc'.2.2.2 e)
   ·simp only [List.mem_cons,List.not_mem_nil,or_false] at hc' ⊢;rcases hc' with q | q | q | q
    ·exact .inl q
    ·exact .inr (.inr (.inl q))
    ·exact .inr (.inr (.inr (.inl q)))
    ·exact .inr (.inr (.inr (.inr q)))
   ·exact ⟨by show 2<=sizeLine; decide,[x,y],.cons rx (.cons ry .nil),_,hT,rfl,_,rfl⟩
  refine ⟨.ref s.heap.objs.size,_,I1,rfl,⟨_,vx,vy,rfl,fresh,rfl,ax,ay⟩,⟨x,y,z1',?_,?_,?_,?_⟩,fun c hc'=>?_⟩
  ·exact sb.extBut _ _ D.TIz (kp _ _ D.TIz D.TITO D.TIi1 D.TIi2 hTI)
  ·exact sb.extBut _ _ D.TOz z2
  ·exact (b1 h' q1).keep fun o e=>sb.extBut _ _ D.i1z e
  ·exact (b2 h' q2).keep fun o e=>sb.extBut _ _ D.i2z e
  ·have ne:c≠s.heap.objs.size:=by
    simp only [List.mem_cons,List.not_mem_nil,or_false] at hc';rcases hc' with rfl | rfl | rfl | rfl | rfl
    ·exact off hz
    ·exact off hTI
    ·exact off hTO
    ·obtain ⟨o,e,_⟩:=h1.obj;exact off e
    ·obtain ⟨o,e,_⟩:=h2.obj;exact off e
   rw [ao ne];exact (hf c hc').1
 done:=by
  intro X hP hw hK hc i pins s σ H E I hf st hg;subst hP hw hK;obtain ⟨a,b,hz,hTI,hTO,h1,h2⟩:=st;have hh:X.A.in1.handled=none:=I.ok.hd hc;have fin:∀ (h':Heap) (tk:Nat),0 < tk->(∀ c o,c≠z->c≠TO->c≠i1->c≠i2->s.heap.get? c=some o->h'.get? c=some o)->Inv X pins σ H { s with heap:=h',toks:=tk }:=fun h' tk htk kp=>
   I.turnedL (its:=[z,TO,i1,i2]) (fun c o hc' e=>by
    simp only [List.mem_cons,List.not_mem_nil,or_false,not_or] at hc';exact kp c o hc'.1 hc'.2.1 hc'.2.2.1 hc'.2.2.2 e) (fun c hc'=>hf c (by
    simp only [List.mem_cons,List.not_mem_nil,or_false] at hc' ⊢;rcases hc' with q | q | q | q
    ·exact .inl q
    ·exact .inr (.inr (.inl q))
    ·exact .inr (.inr (.inr (.inl q)))
    ·exact .inr (.inr (.inr (.inr q)))))
  rcases hg with e1 | ⟨g1,e2⟩
  ·obtain ⟨f1,Sa,n1,a1,m1⟩:=xn I hh S1 h1 e1;exact tokQ I.tk (cG hz rfl (iU D n1 (lW hz hTO h2 D.i1z D.TOi1.symm D.i12 m1) hz hTI a1 fun h' e tk kp he=>⟨e,rfl,he,fun htk=>⟨rfl,fin h' tk htk kp⟩⟩))
  ·obtain ⟨f1,Sa,Sb,P1,n1,a1,m1,b1,r1⟩:=sM (A:=X.A.in1) I S1 h1 g1;obtain ⟨f2,Sc,n2,a2,m2⟩:=xn I hh S2 h2 e2;exact tokQ I.tk (cG hz rfl (iS D n1 n2 (lW hz hTO h2 D.i1z D.TOi1.symm D.i12 m1) (lW hz hTO h1 D.i2z D.TOi2.symm D.i12.symm m2) hz hTI hTO a1 a2 fun h' e tk kp he=>⟨e,rfl,he,fun htk=>⟨rfl,fin h' tk htk kp⟩⟩))
 self:=fun _ _ _ _ _ st h=>by
  obtain ⟨a,b,hz,_⟩:=st;exact wpAny_pyIter_zip hz h
noncomputable def srcVal:Src->Tok->Value
 | .str x,t=>.str x t
 | .lst a,_=>.ref a
noncomputable def srcObj:Src->Tok->Obj
 | .str x,t=>{ cls:=.type (strIterType x),data:=.fields #[.str x t,.int 0 0] }
 | .lst a,_=>{ cls:=.type "list_iterator",data:=.fields #[.ref a,.int 0 0] }
noncomputable def srcOk (h:Heap):Src->Prop
 | .str _=>True
 | .lst a=>∃ its,h.IsList a its
theorem srcOk.push {h:Heap} {S:Src} (ok:srcOk h S) (o:Obj):srcOk (h.push o) S:=by
 cases S with
 | str x=>trivial
 | lst a=>
  obtain ⟨its,q⟩:=ok;exact ⟨its,Heap.IsList.push q _⟩
theorem jM (S:Src) (t:Tok):(srcObj S t).isFreed=false:=by cases S <;> rfl
theorem oG {h:Heap} {S:Src} {t:Tok} {it:Addr} (e:h.get? it=some (srcObj S t)):SrcIt h S it 0:=by
 cases S with
 | str x=>exact ⟨t,_,e,rfl,rfl⟩
 | lst a=>exact ⟨_,e,rfl,rfl⟩
section
variable {prog:Program} {w:World} {A:Around} {E:Value->Shared->Prop} {s:Shared}
theorem m5 {S:Src} {t:Tok} {Q:Value->Shared->Prop} (ok:srcOk s.heap S) (hQ:Q (.ref s.heap.objs.size) { s with heap:=s.heap.push (srcObj S t) }):wpAny (model prog w) A (pyIter (srcVal S t)) Q E s:=by
 cases S with
 | str x=>exact wpAny_pyIter_strU hQ
 | lst a=>
  obtain ⟨its,q⟩:=ok;exact wpAny_pyIter_list q hQ
end
noncomputable abbrev zH1 (h:Heap) (S1:Src) (t1:Tok):Heap:=h.push (srcObj S1 t1)
noncomputable abbrev zH2 (h:Heap) (S1 S2:Src) (t1 t2:Tok):Heap:=(zH1 h S1 t1).push (srcObj S2 t2)
noncomputable abbrev zH3 (h:Heap) (S1 S2:Src) (t1 t2:Tok):Heap:=(zH2 h S1 S2 t1 t2).push { cls:=.type "tuple",data:=.seq #[.ref h.objs.size,.ref (zH1 h S1 t1).objs.size] }
noncomputable abbrev zH4 (h:Heap) (S1 S2:Src) (t1 t2:Tok):Heap:=(zH3 h S1 S2 t1 t2).push { cls:=.type "tuple",data:=.seq #[.none,.none] }
noncomputable abbrev zH5 (h:Heap) (S1 S2:Src) (t1 t2:Tok):Heap:=(zH4 h S1 S2 t1 t2).push { cls:=.type "zip",data:=.fields #[.none,.bool false,.bool false,.ref (zH2 h S1 S2 t1 t2).objs.size,.ref (zH3 h S1 S2 t1 t2).objs.size] }
theorem nc (S1 S2:Src) (t1 t2:Tok):
  Meets (Builtin.«zip.__new__» ⟨[.type "zip",srcVal S1 t1,srcVal S2 t2],[]⟩) (fun _ R s=>srcOk s.heap S1/\srcOk s.heap S2 /\
   R (.ok (.ret (.ref (zH4 s.heap S1 S2 t1 t2).objs.size))) { s with heap:=zH5 s.heap S1 S2 t1 t2 }):=
 .of_wp fun prog w A R s h=>by
  obtain ⟨hp,g,d,tk,os⟩:=s; obtain ⟨hl1,hl2,h⟩:=h;have hsub:=sub_zip;have hL1:srcOk (Shared.heap ⟨hp,g,d,tk,os⟩) S1:=hl1;have hL2:srcOk (Shared.heap ⟨hp.push (srcObj S1 t1),g,d,tk,os⟩) S2:=hl2.push _
  wp_walk using m5 hL1,m5 hL2
  exact ⟨_,rfl,h⟩
section
variable {prog:Program} {w:World} {A:Around} {E:Value->Shared->Prop} {s:Shared}
theorem oP {S1 S2:Src} {t1 t2:Tok} {Q:Value->Shared->Prop} (hl1:srcOk s.heap S1) (hl2:srcOk s.heap S2)
  (h:∀ h',ZipSt (s.heap.objs.size+4) (s.heap.objs.size+2) (s.heap.objs.size+3) s.heap.objs.size (s.heap.objs.size+1) S1 S2 0 h'->(∀ c o,s.heap.get? c=some o->h'.get? c=some o)->Q (.ref (s.heap.objs.size+4)) { s with heap:=h' }):
  wpAny (model prog w) A (call (.type "zip") [srcVal S1 t1,srcVal S2 t2]) Q E s:=by
 refine callType_new F.called_zip (by decide) (F.typeCall_zip_2 _ _) (F.newCall_zip_2 _ _) (fun obj=>F.args_object_init_3 obj _ _) F.entry_zip_new
  (nc S1 S2 t1 t2) ⟨hl1,hl2,?_⟩
 have z1:(zH1 s.heap S1 t1).objs.size=s.heap.objs.size+1:=Heap.size_push ..;have z2:(zH2 s.heap S1 S2 t1 t2).objs.size=s.heap.objs.size+2:=by rw [Heap.size_push,z1]
 have z3:(zH3 s.heap S1 S2 t1 t2).objs.size=s.heap.objs.size+3:=by rw [Heap.size_push,z2]
 have z4:(zH4 s.heap S1 S2 t1 t2).objs.size=s.heap.objs.size+4:=by rw [Heap.size_push,z3]
 have g5:(zH5 s.heap S1 S2 t1 t2).get? (zH4 s.heap S1 S2 t1 t2).objs.size=some _:=Heap.get?_push_size _ rfl;have g4:(zH5 s.heap S1 S2 t1 t2).get? (zH3 s.heap S1 S2 t1 t2).objs.size=some _:=Heap.get?_push_of_some _ (Heap.get?_push_size _ rfl);have g3:(zH5 s.heap S1 S2 t1 t2).get? (zH2 s.heap S1 S2 t1 t2).objs.size=some _:=Heap.get?_push_of_some _ (Heap.get?_push_of_some _ (Heap.get?_push_size _ rfl));have g2:(zH5 s.heap S1 S2 t1 t2).get? (zH1 s.heap S1 t1).objs.size=some (srcObj S2 t2):=Heap.get?_push_of_some _ (Heap.get?_push_of_some _ (Heap.get?_push_of_some _ (Heap.get?_push_size _ (jM _ _))));have g1:(zH5 s.heap S1 S2 t1 t2).get? s.heap.objs.size=some (srcObj S1 t1):=Heap.get?_push_of_some _ (Heap.get?_push_of_some _ (Heap.get?_push_of_some _ (Heap.get?_push_of_some _ (Heap.get?_push_size _ (jM _ _)))));show _/\_;rw [z2,z3,z4] at g5;rw [z1,z2] at g3;rw [z3] at g4;rw [z1] at g2;rw [z4];exact ⟨⟨_,g5,rfl⟩,h _ ⟨_,_,g5,g3,g4,oG g1,oG g2⟩ fun c o x=>
  Heap.get?_push_of_some _ (Heap.get?_push_of_some _ (Heap.get?_push_of_some _ (Heap.get?_push_of_some _ (Heap.get?_push_of_some _ x))))⟩
theorem qa (n:Nat):ZAp (n+4) (n+2) (n+3) n (n+1):=by
 constructor <;> exact fun h=>absurd (show (_:Nat)=_ from h) (by omega)
end
noncomputable def iZip (K:Frag) (ta:TA):TI:=fun σ H R=>ta σ H fun vs H1=>∃ S1 S2 v1 v2,vs=[v1,v2]/\SrcOf K H1 S1 v1/\SrcOf K H1 S2 v2/\R (Itz K S1 S2) H1
section
variable {X:Cx}
theorem iF {pins:List (Addr × Obj)} {σ:St} {H:Hp} {s:Shared} {S:Src} {v:V} {u:Value} (I:Inv X pins σ H s) (h:SrcOf X.K H S v) (r:RelV v u):∃ t,u=srcVal S t/\srcOk s.heap S:=by
 cases S with
 | str x=>
  have e:v=.str x:=h;subst e;obtain ⟨t,rfl⟩:=r;exact ⟨t,rfl,trivial⟩
 | lst a=>
  obtain ⟨e,xs,hq⟩:=h;subst e;cases r;obtain ⟨its,rv,pl,hz⟩:=I.list hq;exact ⟨0,rfl,_,pl.isList⟩
theorem qZ:bootBuiltins "zip" = some (.type "zip"):=by decide +kernel
theorem AJ {a b:Expr} {ta:TA} {elts:List Expr} {kk:Nat} {tpos p pos:Pos} (hg:Gl X "zip") (hm:X.mg "zip" = none) (ha:PA X [a,b] ta) (hs:starEach [a,b] X.env=[(false,eval a X.env),(false,eval b X.env)]:=by rfl) (hs2:starEach [b] X.env=[(false,eval b X.env)]:=by rfl):
  PI X (.Tuple elts kk tpos) (.Call (.Name "zip" p) [a,b] [] pos) (iZip X.K ta):=by
 intro pins s σ H R I h;refine Call_ (cR I hg hm qZ (PyProof.Rows.callWith_type1 (thn (ha pos pins s σ H _ I h) fun us s1 ⟨vs,H1,I1,r1,q1⟩=>?_) (by rw [hs,hs2]) (by rw [hs2]; rfl)));obtain ⟨S1,S2,v1,v2,e,o1,o2,q⟩:=q1;subst e;cases r1 with
 | cons r rr=>
  cases rr with
  | cons r' rr=>
   cases rr;obtain ⟨t1,rfl,k1⟩:=iF I1 o1 r;obtain ⟨t2,rfl,k2⟩:=iF I1 o2 r';refine oP k1 k2 fun h' st kp=>?_
   have I2:Inv X pins σ H1 { s1 with heap:=h' }:=I1.kept (t':=s1.toks) kp;have st':=st;obtain ⟨_,_,hz,_⟩:=st';refine wpAny_pyIter_zip hz ?_;refine ⟨_,_,_,Itz X.K S1 S2,H1,rfl,I2,qW (qa _) S1 S2,st,fun c hc=>?_,q⟩;have hc':s1.heap.objs.size<=c:=by
    simp only [List.mem_cons,List.not_mem_nil,or_false] at hc;rcases hc with rfl | rfl | rfl | rfl | rfl <;> omega
   exact I1.fpOk hc' (I1.hok.fresh hc')
end
noncomputable def clOf (cells:List (Str × Addr)):List (Str × NameKind)->List (Str × Addr)->List (Str × Addr)
 | [],cs=>cs
 | (n,k)::r,cs=>clOf cells r (if (k == NameKind.free)=true then (n,(cells.lookup n).getD 0)::cs else cs)
theorem gP {scope:Scope} {env:Env} (h:∀ y ∈ scope.names,y.2=.free->∃ c,env.cells.lookup y.1=some c):closureFor scope env=pure (clOf env.cells scope.names []):=by
 unfold closureFor;have key:∀ (names:List (Str × NameKind)) (cs:List (Str × Addr)),(∀ y ∈ names,y.2=.free->∃ c,env.cells.lookup y.1=some c) ->
   (forIn names cs (fun x r=>match x with
    | (name,kind)=>if (kind == NameKind.free)=true then (do let __do_lift <- cellOf env name; pure (ForInStep.yield ((name,__do_lift)::r))) else pure (ForInStep.yield r)):Sem (List (Str × Addr)))=pure (clOf env.cells names cs):=by
  intro names
  induction names with
  | nil=>intro cs _; rfl
  | cons y r ih=>
   intro cs hy;obtain ⟨n,k⟩:=y;rw [List.forIn_cons];have hr:∀ y ∈ r,y.2=.free->∃ c,env.cells.lookup y.1=some c:=fun y hm=>hy y (List.mem_cons_of_mem _ hm)
   cases hk:(k == NameKind.free) with
   | true=>
    have hk':k=.free:=by simpa using hk
    obtain ⟨c,hc⟩:=hy (n,k) List.mem_cons_self hk';have ec:cellOf env n=pure c:=by unfold cellOf; rw [hc]
    have e1:(clOf env.cells ((n,k)::r) cs)=clOf env.cells r ((n,c)::cs):=by
     show clOf env.cells r (if (k == NameKind.free)=true then (n,(env.cells.lookup n).getD 0)::cs else cs)=_;rw [hk,if_pos rfl,show env.cells.lookup n=some c from hc];rfl
    rw [e1,<- ih _ hr];simp only [ec,hk,if_true,pure_bind]
   | false=>
    have e1:(clOf env.cells ((n,k)::r) cs)=clOf env.cells r cs:=by
     show clOf env.cells r (if (k == NameKind.free)=true then (n,(env.cells.lookup n).getD 0)::cs else cs)=_;rw [hk,if_neg Bool.false_ne_true]
    rw [e1,<- ih _ hr];simp only [hk,Bool.false_eq_true,if_false,pure_bind]
 have q:=key scope.names [] h
 first
  | exact q
  | (simp only [bind_pure]; exact q)
  | (rw [q]; rfl)
theorem mG {cells:List (Str × Addr)} {x:Str} {c:Addr}:∀ (names:List (Str × NameKind)) (cs:List (Str × Addr)),(∀ y ∈ names,y.2=.free->∃ c,cells.lookup y.1=some c)->(∀ x c,cs.lookup x=some c->cells.lookup x=some c) ->
  (clOf cells names cs).lookup x=some c->cells.lookup x=some c
 | [],cs,_,h,e=>h x c e
 | (n,k)::r,cs,hn,h,e=>by
  unfold clOf at e;refine mG r _ (fun y hm=>hn y (List.mem_cons_of_mem _ hm)) (fun x c q=>?_) e;split at q
  ·rename_i hk;have hk':k=.free:=by simpa using hk
   obtain ⟨c',hc⟩:=hn (n,k) List.mem_cons_self hk';rw [List.lookup_cons] at q;cases hx:(x == n) with
   | true=>
    rw [hx] at q;have hx':x=n:=by simpa using hx
    subst hx';rw [hc] at q;simp at q;rw [hc,q]
   | false=>
    rw [hx] at q;exact h x c q
  ·exact h x c q
theorem nh {cells:List (Str × Addr)} {x:Str}:∀ (names:List (Str × NameKind)) (cs:List (Str × Addr)),(cs.lookup x).isSome=true->((clOf cells names cs).lookup x).isSome=true
 | [],cs,h=>h
 | (n,k)::r,cs,h=>by
  unfold clOf;refine nh r _ ?_;split
  ·rw [List.lookup_cons];split
   ·rfl
   ·exact h
  ·exact h
theorem lU {cells:List (Str × Addr)} {x:Str}:∀ (names:List (Str × NameKind)) (cs:List (Str × Addr)),(x,NameKind.free) ∈ names->((clOf cells names cs).lookup x).isSome=true
 | [],_,h=>by cases h
 | (n,k)::r,cs,h=>by
  unfold clOf;rcases List.mem_cons.mp h with e | e
  ·cases e;refine nh r _ ?_;simp
  ·exact lU r _ e
theorem d9 (env:Env) (x:Str):∀ names:List (Str × NameKind),
  (names.map fun (n,k)=>if (k == NameKind.free && env.scope.kind == .function && env.kindOf n == some .cell) then (n,NameKind.cell) else (n,k)).lookup x =
   (names.lookup x).map fun k=>if (k == NameKind.free && env.scope.kind == .function && env.kindOf x == some .cell)=true then .cell else k
 | []=>rfl
 | (n,k)::r=>by
  have ih:=d9 env x r;simp only [List.map_cons];cases hx:(x == n) with
  | true=>
   have hx':x=n:=by simpa using hx
   subst hx';by_cases hc:(k == NameKind.free && env.scope.kind == .function && env.kindOf x == some .cell)=true
   ·rw [if_pos hc,List.lookup_cons,List.lookup_cons,hx];show some NameKind.cell=some (if (k == NameKind.free && env.scope.kind == .function && env.kindOf x == some .cell)=true then NameKind.cell else k);rw [if_pos hc]
   ·rw [if_neg hc,List.lookup_cons,List.lookup_cons,hx];show some k=some (if (k == NameKind.free && env.scope.kind == .function && env.kindOf x == some .cell)=true then NameKind.cell else k);rw [if_neg hc]
  | false=>
   by_cases hc:(k == NameKind.free && env.scope.kind == .function && env.kindOf n == some .cell)=true
   ·rw [if_pos hc];simp only [List.lookup_cons,hx];exact ih
   ·rw [if_neg hc];simp only [List.lookup_cons,hx];exact ih
structure CScope (scope:Scope):Prop where
 kind:scope.kind=.function
 nocell:∀ y ∈ scope.names,y.2≠.cell
 loc:∀ y ∈ scope.names,y.2=.local->scope.names.lookup y.1=some .local
noncomputable def cxC (X:Cx) (scope:Scope) (cl:List (Str × Addr)) (N':List Str) (C:Addr) (s:Shared) (H:Hp) (ex:List Addr):Cx:=
 { X with N:=N',s₀:=s,H₀:=H,env:=compEnvC scope cl C X.env,outer:=X.stack,ex:=ex,fn:=fun _=>false,pn:=[],xe:=fun _ _=>False }
noncomputable def compσ (nt:Nat) (fi:List Nat) (σ:St):St:=List.replicate nt none++fi.map fun j=>(σ[j]?).getD none
structure CNames (X:Cx) (scope:Scope) (nt:Nat) (fi:List Nat) (N':List Str):Prop where
 len:N'.length=nt+fi.length
 cap:∀ k j:Nat,fi[k]? = some j->∃ x,N'[nt+k]? = some x/\X.N[j]? = some x/\scope.names.lookup x=some .free
 fre:∀ y ∈ scope.names,y.2=.free->X.env.scope.names.lookup y.1=some .cell\/X.env.scope.names.lookup y.1=some .free
def GK (nt:Nat) (g:TG):Prop:=∀ x σ H Q,g x σ H Q->g x σ H fun σ' H'=>Q σ' H'/\σ'.length=σ.length/\σ'.drop nt=σ.drop nt
def PIf (X:Cx) (ifs:List Expr) (t:TT):Prop:=
 ∀ (pins:List (Addr × Obj)) (s:Shared) (σ:St) (H:Hp) (Q:Bool->Hp->Prop),Inv X pins σ H s->t σ H Q ->
  wpAny (model X.prog X.w) X.A (forIn ifs true fun c r=>if r=true then do let ok <- isTrue c X.env (eval c X.env); pure (ForInStep.yield ok) else pure (ForInStep.yield r)) (TP X pins σ Q) X.xe s
noncomputable def tYes:TT:=fun _ H Q=>Q true H
theorem aM {X:Cx}:PIf X [] tYes:=fun pins s σ H Q I h=>wpAny_tests_nil ⟨H,I,h⟩
theorem jS {X:Cx} {c:Expr} {t:TT} (h:PT X c t):PIf X [c] t:=fun pins s σ H Q I q=>wpAny_tests_one (h pins s σ H Q I q)
theorem aY {nt i:Nat} (hi:i < nt):GK nt (gName i):=fun x σ H Q h=>by
 refine ⟨h,?_,?_⟩
 ·rw [List.length_set]
 ·rw [List.drop_set_of_lt hi]
theorem dL {K:Frag} {nt i j n:Nat} (hi:i < nt) (hj:j < nt):GK nt (gTup K n (gCons (gName i) (gCons (gName j) gNil))):=fun x σ H Q h=>by
 obtain ⟨a,xs,e,hq,hl,v,r,e1,v',r',e2,e3,q⟩:=h;refine ⟨a,xs,e,hq,hl,v,r,e1,v',r',e2,e3,q,?_,?_⟩
 ·rw [List.length_set,List.length_set]
 ·rw [List.drop_set_of_lt hj,List.drop_set_of_lt hi]
theorem xH {K:Frag} {nt i j k n:Nat} (hi:i < nt) (hj:j < nt) (hk:k < nt):GK nt (gTup K n (gCons (gName i) (gCons (gName j) (gCons (gName k) gNil)))):=fun x σ H Q h=>by
 obtain ⟨a,xs,e,hq,hl,v,r,e1,v',r',e2,v'',r'',e3,e4,q⟩:=h;refine ⟨a,xs,e,hq,hl,v,r,e1,v',r',e2,v'',r'',e3,e4,q,?_,?_⟩
 ·rw [List.length_set,List.length_set,List.length_set]
 ·rw [List.drop_set_of_lt hk,List.drop_set_of_lt hj,List.drop_set_of_lt hi]
section
variable {prog:Program} {w:World} {A:Around} {R:Result->Shared->Prop} {s:Shared}
theorem thnF {α:Type} {t:Sem α} {Q Q':α -> Shared->Prop} {M:Model} {E:Value->Shared->Prop} (h:wpAny M A t Q (fun _ _=>False) s) (hQ:∀ a s,Q a s->Q' a s):wpAny M A t Q' E s:=wpAny_mono h hQ fun _ _ f=>f.elim
theorem jD {elt target iter:Expr} {ifs:List Expr} {scope:Scope} {pos:Pos} {it acc:Value} {env:Env} (I:Nat->Shared->Prop)
  (turn:∀ n s,I n s->wpAny (model prog w) A (pyNext it) (fun r s₁=>match r with
   | none=>R (.ok .next) s₁
   | some v=>wpAny (model prog w) A (letOwnedTupleGo target it v) (fun _ s₂=>wpAny (model prog w) A (assign target env v) (fun _ s₃=>
     wpAny (model prog w) A (forIn ifs true fun c r=>if r=true then do let ok <- isTrue c env (eval c env); pure (ForInStep.yield ok) else pure (ForInStep.yield r)) (fun ok s₄=>
      if ok=true then wpAny (model prog w) A (eval elt env) (fun x s₅=>wpAny (model prog w) A (call (.builtin "list.append") [acc,x]) (fun _ s₆=>∃ m,m < n/\I m s₆) (fun _ _=>False) s₅) (fun _ _=>False) s₄
      else ∃ m,m < n/\I m s₄) (fun _ _=>False) s₃) (fun _ _=>False) s₂) (fun _ _=>False) s₁) (fun _ _=>False) s)
  (n:Nat) (h:I n s):codeAny (model prog w) A (.compLoop (.ListComp elt [⟨target,iter,ifs,0⟩] scope pos) 0 it acc env) R s:=by
 refine codeAny_loop rfl I (fun n s hI=>?_) n h;show wpAny _ A ((compTurn (.ListComp elt [⟨target,iter,ifs,0⟩] scope pos) 0 it acc env).onRaise (fun x=>do noteFrame x env; theTreesLotGoes x)) _ _ s;refine wpAny_noted ?_;rw [compTurn_list];refine wpAny_bind (wpAny_standAt (wpAny_bind (thnF (turn n s hI) fun r s₁ h₁=>?_)));cases r with
 | none=>exact wpAny_pure h₁
 | some v=>
  refine wpAny_bind (thnF h₁ fun _ s₂ h₂=>wpAny_bind (thnF h₂ fun _ s₃ h₃=>wpAny_bind (thnF h₃ fun ok s₄ h₄=>?_)));cases ok with
  | false=>exact wpAny_pure ⟨rfl,h₄⟩
  | true=>exact wpAny_bind (wpAny_bind (thnF h₄ fun x s₅ h₅=>wpAny_bind (thnF h₅ fun _ s₆ h₆=>wpAny_pure (wpAny_pure ⟨rfl,h₆⟩))))
end
noncomputable def tComp (nt:Nat) (fi:List Nat) (wi:TI) (g:TG) (tc:TT) (te:TE):TE:=fun σ H Q=>wi σ H fun J H1=>∀ D,H1 D=none ->
 ∃ W:Nat->Nat->List V->Hp->Prop,(∃ m,W 0 m [] (upd H1 D (.lst [])))/\∀ i m acc H2,W i m acc H2 ->
  (J.stop i H2/\Q (.ref D) H2)\/(J.go i H2/\∀ x H3,J.yld i H2 x H3->g x (compσ nt fi σ) H3 fun σ4 H4=>tc σ4 H4 fun b H5=>if b=true then
   te σ4 H5 fun v H6=>H6 D=some (.lst acc)/\acc.length < sizeLine/\∃ m',m' < m/\W (i+1) m' (acc++[v]) (upd H6 D (.lst (acc++[v]))) else ∃ m',m' < m/\W (i+1) m' acc H5)
theorem compσ_weak {nt:Nat} {fi:List Nat} {σ σ':St} (hl:σ'.length=(compσ nt fi σ).length) (hd:σ'.drop nt=(compσ nt fi σ).drop nt):∀ (i:Nat) v,(compσ nt fi σ)[i]? = some (some v)->σ'[i]? = some (some v):=fun i v e=>by
 by_cases hi:i < nt
 ·unfold compσ at e;rw [List.getElem?_append_left (by simpa using hi),List.getElem?_replicate] at e;split at e <;> cases e
 ·have ei:i=nt+(i - nt):=by omega
  have q:=congrArg (fun l=>l[i - nt]?) hd;simp only [List.getElem?_drop] at q;rw [<- ei] at q;rw [q];exact e
section
variable {X:Cx}
theorem ql {pins:List (Addr × Obj)} {σ:St} {H:Hp} {s:Shared} {scope:Scope} {nt:Nat} {fi:List Nat} {N':List Str} {fp:List Addr} {h₁:Heap} {m:Str->Option Value} {tk:Nat}
  (I:Inv X pins σ H s) (S:CScope scope) (cn:CNames X scope nt fi N') (hf:∀ b ∈ fp,FpOk X pins H b) (ho:∀ b ∈ fp,∃ o,s.heap.get? b=some o)
  (hns:h₁.Ns s.heap.objs.size m) (kp:∀ b o,s.heap.get? b=some o->h₁.get? b=some o) (htk:0 < tk):
  Inv (cxC X scope (clOf X.env.cells scope.names []) N' s.heap.objs.size s H fp) (X.pn++pins) (compσ nt fi σ) H { s with heap:=h₁,toks:=tk }:=by
 have hfr:∀ y ∈ scope.names,y.2=.free->∃ c,X.env.cells.lookup y.1=some c:=fun y hy e=>I.ok.has y.1 (cn.fre y hy e)
 have snd:∀ x c,(clOf X.env.cells scope.names []).lookup x=some c->X.env.cells.lookup x=some c:=fun x c e=>mG scope.names [] hfr (fun _ _ q=>by simp at q) e
 have offstk:∀ b,b≠X.env.locals->b ∉ X.fs->b ∉ frs X.stack:=fun b h1 h2 h3=>by
  rcases List.mem_cons.mp (I.stkSub b h3) with e | e
  ·exact h1 e
  ·exact h2 e
 have lt:∀ {b o},s.heap.get? b=some o->b≠s.heap.objs.size:=fun e=>Nat.ne_of_lt (Heap.lt_size e)
 have kinds:∀ x k,(relabel scope X.env).names.lookup x=some k->(k=.cell\/k=.free)->(x,NameKind.free) ∈ scope.names:=fun x k e hk=>by
  have e':(scope.names.map fun (n,k)=>if (k == NameKind.free && X.env.scope.kind == .function && X.env.kindOf n == some .cell) then (n,NameKind.cell) else (n,k)).lookup x=some k:=e;rw [d9] at e';cases q:scope.names.lookup x with
  | none=>rw [q] at e'; cases e'
  | some k'=>
   have mem:(x,k') ∈ scope.names:=PySem.mem_of_lookup q;rw [q] at e';simp only [Option.map_some,Option.some.injEq] at e';split at e'
   ·rename_i hc;simp only [Bool.and_eq_true,beq_iff_eq] at hc;rw [hc.1.1] at mem;exact mem
   ·subst e';rcases hk with z | z
    ·subst z;exact absurd rfl (S.nocell _ mem)
    ·subst z;exact mem
 refine ⟨⟨I.ok.mod,S.kind,I.ok.glob,I.ok.blt,Nat.le_refl _,fun x y c e1 e2=>I.ok.inj x y c (snd x c e1) (snd y c e2),fun x hx=>?_,fun x c e=>(nomatch e),I.ok.hd,I.ok.frames,.inl rfl,fun b hb=>⟨?_,fun x c e=>(hf b hb).2.2.2.2.1 x c (snd x c e)⟩,I.bs,?_,fun b o e hb=>?_,fun b hb=>offstk b (hf b hb).2.1 (hf b hb).2.2.1,I.stack,I.stkFree⟩,
  rfl,I.bare,Un.kept kp,⟨m,hns,fun i x v e1 e2 e3=>?_⟩,fun x c e=>?_,I.hok.fresh (Nat.le_refl _),fun x c e=>I.freeC x c (snd x c e),fun p hp=>?_,I.hok.kept kp,?_,htk⟩
 ·have hx':(relabel scope X.env).names.lookup x=some .cell\/(relabel scope X.env).names.lookup x=some .free:=hx;have mem:(x,NameKind.free) ∈ scope.names:=by
   rcases hx' with q | q
   ·exact kinds x _ q (.inl rfl)
   ·exact kinds x _ q (.inr rfl)
  exact Option.isSome_iff_exists.mp (lU scope.names [] mem)
 ·obtain ⟨o,e⟩:=ho b hb;exact lt e
 ·exact Nat.le_trans I.ok.bsz I.sz
 ·rcases (hf b hb).2.2.2.1 with q | q
  ·exact I.ok.noex b o e q
  ·exact absurd (Nat.lt_of_lt_of_le (Heap.lt_size e) (Nat.le_trans I.ok.bsz q)) (Nat.lt_irrefl _)
 ·have hi:¬ i < nt:=fun hi=>by
   unfold compσ at e2;rw [List.getElem?_append_left (by simpa using hi),List.getElem?_replicate] at e2;split at e2 <;> cases e2
  have ei:i=nt+(i - nt):=by omega
  have e2':(fi.map fun j=>(σ[j]?).getD none)[i - nt]? = some (some v):=by
   unfold compσ at e2;rw [List.getElem?_append_right (by simpa using Nat.le_of_not_lt hi)] at e2;simpa using e2
  rw [List.getElem?_map] at e2';cases ej:fi[i - nt]? with
  | none=>rw [ej] at e2'; cases e2'
  | some j=>
   rw [ej] at e2';obtain ⟨x',n1,n2,n3⟩:=cn.cap (i - nt) j ej;rw [<- ei] at n1;have e1':N'[i]? = some x:=e1;rw [n1] at e1';cases e1';have ev:σ[j]? = some (some v):=by
    have e2':some ((σ[j]?).getD none)=some (some v):=e2';cases q:σ[j]? with
    | none=>rw [q] at e2'; simp at e2'
    | some w=>rw [q] at e2'; simp at e2'; rw [e2']
   have mem:(x,NameKind.free) ∈ scope.names:=PySem.mem_of_lookup n3;have vis:=cn.fre _ mem rfl;obtain ⟨m0,hn0,hl0⟩:=I.loc;obtain ⟨u,ru,lk⟩:=hl0 j x v n2 ev (.inr vis);refine ⟨u,ru,?_⟩;rcases lk with ⟨q,_⟩ | ⟨q,c,ec,o,hoc,hod⟩
   ·have q':X.env.scope.names.lookup x=some .local:=q;rcases vis with z | z
    ·have z':X.env.scope.names.lookup x=some .cell:=z;rw [q'] at z'; cases z'
    ·have z':X.env.scope.names.lookup x=some .free:=z;rw [q'] at z'; cases z'
   ·obtain ⟨c',ec'⟩:=Option.isSome_iff_exists.mp (lU (cells:=X.env.cells) scope.names [] mem);have ecc:=snd x c' ec';rw [ec] at ecc;cases ecc;refine .inr ⟨?_,c,ec',o,kp c o hoc,hod⟩;show (relabel scope X.env).names.lookup x=some .cell\/(relabel scope X.env).names.lookup x=some .free;have e4:(relabel scope X.env).names.lookup x=(scope.names.lookup x).map fun k=>if (k == NameKind.free && X.env.scope.kind == .function && X.env.kindOf x == some .cell)=true then .cell else k:=d9 X.env x scope.names
    rw [e4,n3];simp only [Option.map_some];split
    ·exact .inl rfl
    ·exact .inr rfl
 ·obtain ⟨v,o,hoc,hod⟩:=I.cell x c (snd x c e);exact ⟨v,o,kp c o hoc,hod⟩
 ·have hp':p ∈ X.pn++pins:=by
   have hp'':p ∈ ([]:List (Addr × Obj))++(X.pn++pins):=hp;simpa using hp''
  obtain ⟨e,n,ne,nf,d⟩:=I.pin p hp';exact ⟨kp _ _ e,n,lt e,offstk _ ne nf,d⟩
 ·show (compσ nt fi σ).length=N'.length;unfold compσ;rw [cn.len,List.length_append,List.length_replicate,List.length_map]
theorem rm {pins:List (Addr × Obj)} {σ σ':St} {H H':Hp} {s s':Shared} {scope:Scope} {cl:List (Str × Addr)} {N':List Str} {fp:List Addr} {C:Addr} {P:List (Addr × Obj)} {h'':Heap}
  (I:Inv X pins σ H s) (hf:∀ b ∈ fp,FpOk X pins H b) (hC:s.heap.objs.size<=C) (J:Inv (cxC X scope cl N' C s H fp) P σ' H' s') (sb:Heap.SameBut C s'.heap h''):Inv X pins σ H' { s' with heap:=h'' }:=by
 have ne:∀ {b o},s.heap.get? b=some o->b≠C:=fun e=>Nat.ne_of_lt (Nat.lt_of_lt_of_le (Heap.lt_size e) hC)
 have u:Un (frs X.stack) fp H H' s.heap s'.heap:=J.base;refine I.call' (s':={ s' with heap:=h'' }) (ch:=fp) J.os ⟨fun b o e n hb hx=>?_,fun b o e n hb hx=>?_,u.free,fun b o e hx=>?_,u.tups,u.frzs,u.tbls⟩ (fun b o e=>?_) J.bare (fun b hb=>?_) J.tk
 ·exact (sb.2 b (ne e)).trans (u.keep b o e n hb hx)
 ·obtain ⟨sl,q⟩:=u.slot b o e n hb hx;exact ⟨sl,(sb.2 b (ne e)).trans q⟩
 ·obtain ⟨o',q⟩:=u.there b o e hx;exact ⟨o',(sb.2 b (ne e)).trans q⟩
 ·have fr:H' C=none:=J.free;refine (J.hok b o e).stay (fun c v hc q=>(sb.2 c ?_).trans q) (fun _ q=>q) fun _ _ q=>q
  rintro rfl;rcases hc with z | z
  ·subst z;rw [fr] at e;cases e
  ·rw [fr] at z;cases z
 ·obtain ⟨f0,f1,f2,f3,f4,f5⟩:=hf b hb;exact ⟨f3,f1,f4,f5⟩
theorem yn {elt tg iter:Expr} {ifs:List Expr} {scope:Scope} {pos:Pos} {wi:TI} {g:TG} {tc:TT} {te:TE} {nt:Nat} {fi:List Nat} {N':List Str} (hcalm:X.calm=true)
  (S:CScope scope) (cn:CNames X scope nt fi N') (gk:GK nt g) (hi:PI X tg iter wi)
  (hg:∀ cl C s H ex,PG (cxC X scope cl N' C s H ex) tg g) (hc:∀ cl C s H ex,PIf (cxC X scope cl N' C s H ex) ifs tc) (he:∀ cl C s H ex,PE (cxC X scope cl N' C s H ex) elt te)
  (hs:∀ x,foldedSetIterable iter X.env x=pure x:=by intro _; rfl):PE X (.ListComp elt [⟨tg,iter,ifs,0⟩] scope pos) (tComp nt fi wi g tc te):=by
 intro pins s σ H Q I h;have hfr:∀ y ∈ scope.names,y.2=.free->∃ c,X.env.cells.lookup y.1=some c:=fun y hy e=>I.ok.has y.1 (cn.fre y hy e)
 rw [eval_ListComp];refine wpAny_comprehension_free (use:=none) rfl hs (gP hfr) S.kind S.loc (thn (hi pins s σ H _ I h) fun v s1 h1=>thn h1 fun itv s2 h2=>?_);obtain ⟨it,fp,tn,J,H2,e,I2,T,st2,f2,hW⟩:=h2;subst e;have fD:H2 s2.heap.objs.size=none:=I2.hok.fresh (Nat.le_refl _);obtain ⟨W,⟨m0,w0⟩,turn⟩:=hW s2.heap.objs.size fD;refine wpAny_newObj_type (wpAny_newFunctionEnv S.nocell (by intro y hy; simp at hy) (fun h₁ hns₁ hsb₁=>?_) S.kind);have I3:Inv X pins σ (upd H2 s2.heap.objs.size (.lst [])) { s2 with heap:=s2.heap.push { cls:=.type "list",dict:=none,data:=.seq ([]:List Value).toArray } }:=I2.lnew (its:=[]) (t':=s2.toks) .nil (Nat.zero_le _);generalize hs3:({ s2 with heap:=s2.heap.push { cls:=.type "list",dict:=none,data:=.seq ([]:List Value).toArray } }:Shared)=s3 at I3 hns₁ hsb₁ ⊢;have hsz:s3.heap.objs.size=s2.heap.objs.size+1:=by rw [<- hs3]; exact Heap.size_push ..
 have ob2:∀ b ∈ fp,∃ o,s3.heap.get? b=some o:=fun b hb=>by
  obtain ⟨o,e,_⟩:=T.obj _ _ st2 b hb;rw [<- hs3];exact ⟨o,Heap.get?_push_of_some _ e⟩
 have f3:∀ b ∈ fp,FpOk X pins (upd H2 s2.heap.objs.size (.lst [])) b:=fun b hb=>by
  obtain ⟨o,e,_⟩:=T.obj _ _ st2 b hb;refine ⟨?_,(f2 b hb).2⟩;rw [ao (Nat.ne_of_lt (Heap.lt_size e))];exact (f2 b hb).1
 have kp:∀ b o,s3.heap.get? b=some o->h₁.get? b=some o:=fun b o e=>hsb₁.extBut b o (Nat.ne_of_lt (Heap.lt_size e)) (Heap.get?_push_of_some _ e)
 have st3:tn 0 h₁:=T.keep _ _ _ st2 fun b _ o e=>kp b o (by rw [<- hs3]; exact Heap.get?_push_of_some _ e)
 have J4:Inv (cxC X scope (clOf X.env.cells scope.names []) N' s3.heap.objs.size s3 (upd H2 s2.heap.objs.size (.lst [])) fp) (X.pn++pins) (compσ nt fi σ) (upd H2 s2.heap.objs.size (.lst [])) { s3 with heap:=h₁,toks:=s3.toks+([]:List (Str × Value)).length }:=
  ql I3 S cn f3 ob2 hns₁ kp I3.tk
 generalize hcl:clOf X.env.cells scope.names []=cl at J4 ⊢;generalize hH3:upd H2 s2.heap.objs.size (.lst [])=H3 at J4 I3 f3 w0;have stat:∀ {H':Hp},(∀ b ∈ fp,H' b=none)->∀ b ∈ fp,FpOk (cxC X scope cl N' s3.heap.objs.size s3 H3 fp) (X.pn++pins) H' b:=fun {H'} hn b hb=>by
  obtain ⟨g0,g1,g2,g3,g4,g5⟩:=f3 b hb;have ok:=J4.ok;refine ⟨hn b hb,(ok.exf b hb).1,ok.exfs b hb,.inl hb,(ok.exf b hb).2,fun p hp=>g5 p ?_⟩;have hp':p ∈ ([]:List (Addr × Obj))++(X.pn++pins):=hp;simpa using hp'
 have loop:∀ s₃:Shared,s₃ = { s3 with heap:=h₁,toks:=s3.toks+([]:List (Str × Value)).length } ->
   codeAny (model X.prog X.w) X.A (.compLoop (.ListComp elt [⟨tg,iter,ifs,0⟩] scope pos) 0 (.ref it) (.ref s2.heap.objs.size) (compEnvC scope cl s3.heap.objs.size X.env))
    (compPost (model X.prog X.w) X.A X.xe none (EP X pins σ Q) (.ref s2.heap.objs.size) s3.heap.objs.size) s₃:=by
  rintro s₃ rfl;refine jD (fun n s'=>∃ i acc H',Inv (cxC X scope cl N' s3.heap.objs.size s3 H3 fp) (X.pn++pins) (compσ nt fi σ) H' s'/\tn i s'.heap/\(∀ b ∈ fp,H' b=none)/\W i n acc H') ?_ m0
   ⟨0,[],H3,J4,st3,fun b hb=>(f3 b hb).1,w0⟩
  rintro n s5 ⟨i,acc,H5,I5,st5,fr5,w5⟩;rcases turn i n acc H5 w5 with ⟨stop,qn⟩ | ⟨go,step⟩
  ·refine thn (T.done (cxC X scope cl N' s3.heap.objs.size s3 H3 fp) rfl rfl rfl hcalm i (X.pn++pins) s5 (compσ nt fi σ) H5 (fun _ _=>False) I5 (stat fr5) st5 stop) fun r s6 ⟨hr,I6⟩=>?_
   subst hr;obtain ⟨m6,hn6,_⟩:=I6.loc;exact ⟨m6,hn6,fun h' sb=>⟨.ref s2.heap.objs.size,H5,rm I3 f3 (Nat.le_refl _) I6 sb,rfl,qn⟩⟩
  ·refine thn (T.item (cxC X scope cl N' s3.heap.objs.size s3 H3 fp) rfl rfl rfl hcalm i (X.pn++pins) s5 (compσ nt fi σ) H5 (fun _ _=>False) I5 (stat fr5) st5 go) fun r s6 ⟨u,hr,h6⟩=>?_
   subst hr;refine thn h6 fun _ s7 ⟨x,H7,I7,r7,y7,st7,fr7⟩=>?_
   have I7':=I7.pinned (stat fr7) (T.obj _ _ st7);refine thn (hg _ _ _ _ _ _ s7 (compσ nt fi σ) H7 x u _ I7' r7 (gk _ _ _ _ (step x H7 y7))) fun _ s8 ⟨σ8,H8,I8,q8,l8,d8⟩=>?_
   refine thn (hc _ _ _ _ _ _ s8 σ8 H8 _ I8 q8) fun b s9 ⟨H9,I9,q9⟩=>?_
   have again:∀ {s':Shared} {H':Hp} {m':Nat} {acc':List V},Inv (cxC X scope cl N' s3.heap.objs.size s3 H3 fp) ((X.pn++pins)++pinsAt fp s7.heap) σ8 H' s'->m' < n->W (i+1) m' acc' H' ->
     ∃ m,m < n/\∃ i acc H',Inv (cxC X scope cl N' s3.heap.objs.size s3 H3 fp) (X.pn++pins) (compσ nt fi σ) H' s'/\tn i s'.heap/\(∀ b ∈ fp,H' b=none)/\W i m acc H':=fun {s' H' m' acc'} I' hm w'=>by
    refine ⟨m',hm,i+1,acc',H',I'.unpinned.weak l8.symm (compσ_weak l8 d8),T.keep _ _ _ st7 fun b hb o e=>(I'.pin (b,o) (List.mem_append_right _ (List.mem_append_right _ (cZ hb e)))).1,fun b hb=>?_,w'⟩;obtain ⟨o,e,d⟩:=T.obj _ _ st7 b hb;exact (I'.pin (b,o) (List.mem_append_right _ (List.mem_append_right _ (cZ hb e)))).2.1
   cases b with
   | false=>
    rw [if_neg Bool.false_ne_true] at q9 ⊢;obtain ⟨m',hm,w'⟩:=q9;exact again I9 hm w'
   | true=>
    rw [if_pos rfl] at q9 ⊢;refine thn (he _ _ _ _ _ _ s9 σ8 H9 _ I9 q9) fun uv s10 ⟨v10,H10,I10,r10,hD,hlt,m',hm,w'⟩=>?_
    refine thn (kB (X:=cxC X scope cl N' s3.heap.objs.size s3 H3 fp) _ s10 σ8 H10 (.ref s2.heap.objs.size) [v10] (.ref s2.heap.objs.size) [uv] (fun _ H'=>H'=upd H10 s2.heap.objs.size (.lst (acc++[v10]))) I10 rfl (.cons r10 .nil) ⟨_,acc,v10,rfl,rfl,hD,hlt,rfl⟩) fun _ s11 ⟨_,H11,I11,_,e11⟩=>?_
    subst e11;exact again I11 hm w'
 exact codeAny_compStart_list (loop _ rfl) (T.self _ 0 _ _ _ st3 (loop _ rfl))
end
noncomputable abbrev st (l:List Nat):Str:=⟨l.toArray⟩
theorem ar (l:List Nat):(st l).cps.toList=l:=rfl
theorem Av (l m:List Nat):st l++st m=st (l++m):=by
 show Str.append (st l) (st m)=_;simp [Str.append]
theorem AE {l m:List Nat}:st l=st m ↔ l=m:=by simp
theorem r8 {ys:List Str}:∀ {us:List Value},Vals (ys.map V.str) us->StrsAre us ys:=by
 induction ys with
 | nil=>intro us r; cases r; exact .nil
 | cons y r ih=>
  intro us h;cases h with
  | cons r1 r2=>
   obtain ⟨t,rfl⟩:=r1;exact .cons y t (ih r2)
theorem nL (l:List Nat):Txt.join ⟨#[]⟩ (l.map fun k=>(⟨#[k]⟩:Str))=st l:=by
 have h:=join_plain_closes ⟨#[]⟩ (l.map fun k=>(⟨#[k]⟩:Str));rw [eq_of_beq h];exact join_ones l
section
variable {X:Cx}
noncomputable def rJoin (K:Frag):V->List V->Hp->VK->Prop:=fun x vs H Q=>∃ sep l ys,x=.str sep/\vs=[.ref l]/\SqL K H l (ys.map V.str)/\(ys.map (·.length)).sum+ys.length*sep.length<=16777216/\Q (.str (Txt.join sep ys)) H
theorem xT:MtR X "str.join" (rJoin X.K):=by
 intro pins s σ H x vs v us Q I rx rv h;obtain ⟨sep,l,ys,rfl,rfl,hq,hz,q⟩:=h;obtain ⟨t,rfl⟩:=rx;obtain ⟨u,rfl,ru⟩:=rv.one;cases ru;obtain ⟨its,r,pl,_⟩:=I.list hq;exact tokQ I.tk (join_list pl.isList (r8 r) hz fun t' k (htk:0 < k)=>⟨.str _,H,I.tok _,⟨_,rfl⟩,q⟩)
theorem xk (l:List Nat):((l.map fun k=>(⟨#[k]⟩:Str)).map (·.length)).sum=l.length:=by
 induction l with
 | nil=>rfl
 | cons a r ih=>
  rw [List.map_cons,List.map_cons,List.sum_cons,ih,List.length_cons];show 1+r.length=r.length+1;omega
noncomputable def rJoin1 (K:Frag):V->List V->Hp->VK->Prop:=fun x vs H Q=>∃ l cs,x=.str (Str.ofString "")/\vs=[.ref l]/\SqL K H l (cs.map fun k=>V.str ⟨#[k]⟩)/\cs.length<=10000/\Q (.str (st cs)) H
theorem jH:Str.ofString "" = ⟨#[]⟩:=by decide +kernel
theorem wP:MtR X "str.join" (rJoin1 X.K):=by
 intro pins s σ H x vs v us Q I rx rv h;obtain ⟨l,cs,rfl,rfl,hq,hz,q⟩:=h;refine xT pins s σ H _ _ v us Q I rx rv ⟨_,l,cs.map fun k=>⟨#[k]⟩,rfl,rfl,?_,?_,?_⟩
 ·rw [List.map_map];exact hq
 ·rw [xk,List.length_map,jH];show cs.length+cs.length*0<=16777216;omega
 ·rw [jH,nL];exact q
noncomputable def rSlS:V->Option Int->Option Int->Hp->VK->Prop:=fun x lo hi H Q=>∃ z,x=.str z/\z.length<=sizeLine/\Q (.str (Txt.slice z lo hi)) H
theorem o8:SlR X rSlS:=by
 intro pins s σ H x v vl vu lo hi sl Q I rx hs pl pu h;obtain ⟨z,rfl,hz,q⟩:=h;obtain ⟨t,rfl⟩:=rx;have fin:∀ t' k,0 < k->EP X pins σ Q (.str (Txt.slice z lo hi) t') { s with toks:=k }:=fun t' k htk=>⟨.str _,H,I.tok _,⟨_,rfl⟩,q⟩
 refine ⟨"str",_,F.slot_str_getitem.lookup,typeIs_str _ _ _,tokQ I.tk ?_⟩;obtain ⟨o,e1,e2,e3⟩:=id hs;cases pl with
 | none=>
  cases pu with
  | none=>exact wpAny_getItem_str_slice (l:=none) (u:=none) (st:=none) ⟨o,e1,e2,e3⟩ rfl (post_val_or_str ⟨Nat.le_trans (Txt.slice_le z _ _) hz,fin⟩)
  | int j tj=>exact wpAny_getItem_str_slice (l:=none) (u:=some (j,tj)) (st:=none) ⟨o,e1,e2,e3⟩ rfl (post_val_or_str ⟨Nat.le_trans (Txt.slice_le z _ _) hz,fin⟩)
 | int i ti=>
  cases pu with
  | none=>exact wpAny_getItem_str_slice (l:=some (i,ti)) (u:=none) (st:=none) ⟨o,e1,e2,e3⟩ rfl (post_val_or_str ⟨Nat.le_trans (Txt.slice_le z _ _) hz,fin⟩)
  | int j tj=>exact wpAny_getItem_str_slice (l:=some (i,ti)) (u:=some (j,tj)) (st:=none) ⟨o,e1,e2,e3⟩ rfl (post_val_or_str ⟨Nat.le_trans (Txt.slice_le z _ _) hz,fin⟩)
theorem md (l:List Nat) (k:Nat) (h:k<=l.length):Txt.slice (st l) none (some (k:Int))=st (l.take k):=by
 have q:=slice_closes_to (x:=st l) (j:=(k:Int)) ⟨by omega,by simpa using h⟩;rw [eq_of_beq q];simp
theorem rJ (l:List Nat) (k:Nat) (h:k<=l.length):Txt.slice (st l) (some (k:Int)) none=st (l.drop k):=by
 have q:=slice_from_eq (x:=st l) (i:=(k:Int)) (b:=(l.length:Int)) (by omega) (by simpa [Str.length] using h) (by simp [Str.length]);rw [q];simp only [ar,Int.toNat_natCast];rw [List.take_of_length_le (by rw [List.length_drop]; omega)]
theorem sV:OpR X (binaryOp .Mult) (fun x y H Q=>∃ z n,x=.str z/\y=.int n/\MulOk z n/\Q (.str (Txt.mul z n)) H):=by
 intro pins s σ H x y v u Q I rx ry h;obtain ⟨z,n,rfl,rfl,hok,q⟩:=h;obtain ⟨t,rfl⟩:=rx;obtain ⟨t',rfl⟩:=ry;exact tokQ I.tk (SB.mul hok fun t' k (htk:0 < k)=>⟨.str _,H,I.tok _,⟨_,rfl⟩,q⟩)
theorem mul1 (k n:Nat):Txt.mul ⟨#[k]⟩ (n:Int)=st (List.replicate n k):=by
 have q:=mul_one_list k (n:Int);rw [Int.toNat_natCast] at q;have e:∀ x:Str,x=⟨x.cps.toList.toArray⟩:=fun x=>by simp
 rw [e (Txt.mul ⟨#[k]⟩ (n:Int)),q]
theorem qY:CallR X (.builtin "isinstance") (fun xs H Q=>∃ x n t b,xs=[x,.ty n]/\TyOf X.K H x t/\PySem.W.kitOne X.K t (.type n)=some b/\Q (.bl b) H):=by
 intro pins s σ H xs us Q I r h;obtain ⟨x,n,t,b,rfl,ty,e,q⟩:=h;obtain ⟨u,w',rfl,r1,r2⟩:=vals2 r;cases r2;exact tokQ I.tk (uP I r1 ty e fun tk (htk:0 < tk)=>⟨.bl b,H,I.tok _,rfl,q⟩)
theorem uC (hu:X.A.units < cLine):OpR X (compareOp .Eq) (fun x y H Q=>∃ a b xs,x=.ref a/\y=.ref b/\SqL X.K H a xs/\SqL X.K H b []/\Q (.bl (decide (xs=[]))) H):=by
 intro pins s σ H x y v u Q I rx ry h;obtain ⟨a,b,xs,rfl,rfl,ha,hb,q⟩:=h;cases rx;cases ry;obtain ⟨its,r1,p1,_⟩:=I.list ha;obtain ⟨its2,r2,p2,_⟩:=I.list hb;cases r2;cases r1 with
 | nil=>exact SeqAt.eq_listAt (e:=fun _=>true) p1.isList p2.isList rfl hu (fun j h1 _=>absurd h1 (by simp)) ⟨.bl true,H,I,rfl,q⟩
 | cons rx rr=>exact SeqAt.eq_list_lengthsAt p1.isList p2.isList (by simp) hu ⟨.bl false,H,I,rfl,by simpa using q⟩
theorem pA:CallR X (.type "int") (fun xs H Q=>∃ z n,xs=[.str z]/\PySem.intText? z=some n/\z.length<=640/\Q (.int n) H):=by
 intro pins s σ H xs us Q I r h;obtain ⟨z,n,rfl,e,hz,q⟩:=h;obtain ⟨u,rfl,t,rfl⟩:=vals1 r;exact PySem.W.KIN.call_text e hz ⟨.int n,H,I.tok _,⟨_,rfl⟩,q⟩
end
def Fn (K:Frag) (mg:Str->Option Value) (x:Str) (st:Stmt):Prop:=∃ f fd,Fun K x x st f fd/\mg x=some (.ref f)
def Callee (P:Program) (w:World) (K:Frag) (mg:Str->Option Value) (base:Heap) (k:Nat) (x:Str) (ps:List Str) (sp:Sp):Prop:=
 ∃ f fd,FnOk P w K mg base CX0 k f fd ps sp/\Binds K fd ps []/\keepIn K (.ref f)=true/\mg x=some (.ref f)
theorem Fn.cal {P:Program} {w:World} {K:Frag} {mg:Str->Option Value} {base:Heap} {x:Str} {st:Stmt} {N ps:List Str} {k:Nat} {sp:Sp} (F:Fn K mg x st) (S:FnScope N ps (defScope st)) (len:∀ vs H Q E,sp vs H Q E->vs.length=ps.length)
  (hb:∀ (kV doc pm:Value) (an:Option Addr) (cdv ct:Value) (us:List Value),us.length=ps.length->bindArgs (fnOf x x (defArgs st) (defBody st) (defScope st) .none kV doc pm an cdv ct) ⟨us,[]⟩=pure (ps.zip us))
  (hbody:∀ (f:Addr) (cdv:Value) (A:Around) (outer:List Env) (s:Shared) (H:Hp) (vs:List V) (Q:VK) (E:XK),Room k (A.deeper (envOfC x (defScope st) s.heap.objs.size f cdv))->sp vs H Q E ->
   ∃ t,PSs (cxOf CX0 P w K mg base N x (defScope st) f cdv A outer s H E).nox (defBody st) t/\t { nx:=fun _ H'=>Q .non H',rt:=Q } (start N vs) H):Callee P w K mg base (k+1) x ps sp:=by
 obtain ⟨f,fd,F,m⟩:=F;exact ⟨f,fd,F.ok S len (hbody f),F.binds hb,F.kp,m⟩
section
variable {X:Cx} {k:Nat} {x:Str} {ps:List Str} {sp:Sp} {p pos:Pos} {e:Expr} {es:List Expr} {t:TA}
theorem ak (C:Callee X.prog X.w X.K X.mg X.base k x ps sp) (hr:Room k X.A) (hg:Gl X x) (ha:PA X (e::es) t)
  (he:starEach (e::es) X.env=(false,eval e X.env)::starEach es X.env:=by rfl) (hpl:(backTo pos (starEach es X.env)).any (·.1)=false:=by rfl) (hd:(x == ("__debug__" : Str))=false:=by decide):PE X (.Call (.Name x p) (e::es) [] pos) (tCall sp [] E0 t):=by
 obtain ⟨f,fd,F,b,kp,m⟩:=C;exact xY F hr hg m kp b .nil pass0 ha (hdb:=hd) (he:=he) (hpl:=hpl)
end
noncomputable def tJoin (t u:TS):TS:=fun D σ H=>∃ J:St->Hp->Prop,t { D with nx:=J } σ H/\∀ σ' H',J σ' H'->u D σ' H'
theorem cT {X:Cx} {st:Stmt} {rest:List Stmt} {t u:TS} (h1:PS X st t) (h2:PSs X rest u):PSs X (st::rest) (tJoin t u):=by
 intro pins s σ H D I h;obtain ⟨J,hj,hr⟩:=h;refine wpAny_execs_cons (thn (h1 pins s σ H { D with nx:=J } I hj) fun f s1 q=>?_);cases f with
 | next=>
  obtain ⟨σ',H',I',q⟩:=q;exact h2 pins s1 σ' H' D I' (hr σ' H' q)
 | ret v=>exact q
 | brk=>exact q
 | cont=>exact q
theorem ae {H:Hp} {p:Addr} (h:H p=none) (o:HO):Same H (upd H p o):=fun b u q=>by rw [ao (aQ q h)]; exact q
theorem aH {H H':Hp} {p:Addr} {o:HO} (s:Same H H') (h:H p=none):Same H (upd H' p o):=fun b u q=>by rw [ao (aQ q h)]; exact s b u q
theorem sizeBig {n:Nat} (h:n<=100000):n < sizeLine:=Nat.lt_of_le_of_lt h (by decide)
def RowL (l:List Nat):Prop:=∀ c ∈ l,c=48\/c=49\/c=45
section
variable {X:Cx}
theorem PE.imp {e:Expr} {t t':TE} (h:PE X e t) (k:∀ σ H Q,t' σ H Q->t σ H Q):PE X e t':=fun pins s σ H Q I q=>h pins s σ H Q I (k σ H Q q)
theorem PT.imp {e:Expr} {t t':TT} (h:PT X e t) (k:∀ σ H Q,t' σ H Q->t σ H Q):PT X e t':=fun pins s σ H Q I q=>h pins s σ H Q I (k σ H Q q)
theorem PI.imp {tg e:Expr} {t t':TI} (h:PI X tg e t) (k:∀ σ H Q,t' σ H Q->t σ H Q):PI X tg e t':=fun pins s σ H Q I q=>h pins s σ H Q I (k σ H Q q)
theorem OpR.imp {f:Value->Value->Sem Value} {r r':R2} (h:OpR X f r) (k:∀ x y H Q,r' x y H Q->r x y H Q):OpR X f r':=fun pins s σ H x y v u Q I rx ry q=>h pins s σ H x y v u Q I rx ry (k x y H Q q)
theorem IxR.imp {r r':R2} (h:IxR X r) (k:∀ x y H Q,r' x y H Q->r x y H Q):IxR X r':=fun a b pins s σ H x y v u Q I rx ry q=>h a b pins s σ H x y v u Q I rx ry (k x y H Q q)
theorem SlR.imp {r r':V->Option Int->Option Int->Hp->VK->Prop} (h:SlR X r) (k:∀ x a b H Q,r' x a b H Q->r x a b H Q):SlR X r':=fun pins s σ H x v vl vu lo hi sl Q I rx hs pl pu q=>h pins s σ H x v vl vu lo hi sl Q I rx hs pl pu (k x lo hi H Q q)
noncomputable def cVar (i:Nat):TE:=fun σ H Q=>match σ[i]? with | some (some v)=>Q v H | _=>False
theorem qv (i:Nat) {x:Str} {pos:Pos} (hN:X.N[i]? = some x:=by rfl) (hv:Vis X.env.scope x:=by first | exact Or.inl rfl | exact Or.inr (Or.inl rfl) | exact Or.inr (Or.inr rfl)) (hd:(x == ("__debug__" : Str))=false:=by decide)
  (hcd:(x == ("__classdict__" : Str))=false:=by decide):PE X (.Name x pos) (cVar i):=(wA hN hv hd hcd).imp fun σ H Q q=>by
 unfold cVar at q;split at q
 ·exact ⟨_,by assumption,q⟩
 ·exact q.elim
theorem qs (l:List Nat) {x:Str} {j pos} (h:x=st l:=by decide +kernel):PE X (.Constant (.str x) j pos) (tC (.str (st l))):=by
 rw [<- h];exact wG
theorem aF (a:Str):st a.cps.toList=a:=by simp
noncomputable def kAdd:R2:=fun x y H Q=>match x,y with
 | .int i,.int j=>Q (.int (i+j)) H
 | .str a,.str b=>a.cps.toList.length+b.cps.toList.length<=100000/\Q (.str (st (a.cps.toList++b.cps.toList))) H
 | .ref l,.ref b=>∃ xs zs,H l=some (.lst xs)/\H b=some (.lst zs)/\xs.length+zs.length<=sizeLine/\∀ p,H p=none->Q (.ref p) (upd H p (.lst (xs++zs)))
 | _,_=>False
theorem aj:OpR X (binaryOp .Add) kAdd:=by
 intro pins s σ H x y v u Q I rx ry q;unfold kAdd at q;split at q
 ·exact Al pins s σ H _ _ v u Q I rx ry ⟨_,_,rfl,rfl,q⟩
 ·obtain ⟨h,q⟩:=q;refine sf pins s σ H _ _ v u Q I rx ry ⟨_,_,rfl,rfl,?_,?_⟩
  ·have:(100000:Nat)<=sizeLine:=by decide
   simp only [Array.length_toList] at h;simp only [Str.length];omega
  ·rename_i a b;have e:a++b=st (a.cps.toList++b.cps.toList):=by
    rw [<- Av,aF,aF]
   rw [e];exact q
 ·obtain ⟨xs,zs,h1,h2,h3,q⟩:=q;exact Aj pins s σ H _ _ v u Q I rx ry ⟨_,_,_,_,rfl,rfl,h1,h2,h3,q⟩
 ·exact q.elim
noncomputable def kI (C:Int->Int->Prop) (g:Int->Int->V):R2:=fun x y H Q=>match x,y with
 | .int i,.int j=>C i j/\Q (g i j) H
 | _,_=>False
noncomputable def kI0 (g:Int->Int->V):R2:=fun x y H Q=>match x,y with
 | .int i,.int j=>Q (g i j) H
 | _,_=>False
theorem wT {C:Int->Int->Prop} {g:Int->Int->V}:∀ x y H Q,kI C g x y H Q->rI C g x y H Q:=fun x y H Q q=>by
 unfold kI at q;split at q
 ·exact ⟨_,_,rfl,rfl,q.1,q.2⟩
 ·exact q.elim
theorem lS {g:Int->Int->V}:∀ x y H Q,kI0 g x y H Q->rI0 g x y H Q:=fun x y H Q q=>by
 unfold kI0 at q;split at q
 ·exact ⟨_,_,rfl,rfl,q⟩
 ·exact q.elim
noncomputable abbrev kSub:R2:=kI0 fun i j=>.int (i - j)
noncomputable abbrev kMod:R2:=kI (fun _ j=>0 < j) fun i j=>.int (i % j)
noncomputable abbrev kFdiv:R2:=kI CDiv fun i j=>.int (i / j)
theorem eZ:OpR X (binaryOp .Sub) kSub:=zD.imp lS
theorem b9:OpR X (binaryOp .Mod) kMod:=zI.imp wT
theorem ip:OpR X (binaryOp .FloorDiv) kFdiv:=y6.imp wT
noncomputable def kMul:R2:=fun x y H Q=>match x,y with
 | .int i,.int j=>CMul i j/\Q (.int (i*j)) H
 | .str a,.int n=>∃ c,a.cps.toList=[c]/\0<=n/\n<=10000/\Q (.str (st (List.replicate n.toNat c))) H
 | .ref l,.int k=>∃ xs,H l=some (.lst xs)/\0<=k/\k<=10000/\xs.length=1/\∀ p,H p=none->Q (.ref p) (upd H p (.lst (List.replicate k.toNat xs).flatten))
 | _,_=>False
theorem vh (k n:Nat) (hn:n<=10000):MulOk ⟨#[k]⟩ (n:Int):=by
 have hl:(⟨#[k]⟩:Str).length=1:=rfl;refine ⟨?_,fun _ _=>?_,fun _ _=>?_⟩
 ·rw [decide_eq_false (by omega),decide_eq_false (by omega)];rfl
 ·rw [hl];intro z;have:(2 ^ 63 - 1) / (n:Int) < 1:=by omega
  have h2:(n:Int)<=10000:=by omega
  have h1:¬ (n:Int) < 1:=by assumption
  have h3:1<=(2 ^ 63 - 1) / (n:Int):=by
   rw [Int.le_ediv_iff_mul_le (by omega)];omega
  omega
 ·rw [hl];unfold PySem.Builtin.Str.tooLong sizeLine;exact decide_eq_false (by rw [Int.toNat_natCast]; have:(2:Nat) ^ 24=16777216:=(by decide); omega)
theorem bp:OpR X (binaryOp .Mult) kMul:=by
 intro pins s σ H x y v u Q I rx ry q;unfold kMul at q;split at q
 ·exact zy pins s σ H _ _ v u Q I rx ry ⟨_,_,rfl,rfl,q.1,q.2⟩
 ·obtain ⟨c,e,h0,h1,q⟩:=q;rename_i a n;obtain ⟨k,rfl⟩:∃ k:Nat,n=k:=⟨n.toNat,by omega⟩;have ea:a=⟨#[c]⟩:=by rw [<- aF a,e]
  subst ea;refine sV pins s σ H _ _ v u Q I rx ry ⟨_,_,rfl,rfl,vh c k (by omega),?_⟩;rw [mul1];exact q
 ·obtain ⟨xs,h1,h2,h3,h4,q⟩:=q;refine wb pins s σ H _ _ v u Q I rx ry ⟨_,_,_,rfl,rfl,h1,by omega,by omega,?_,q⟩;have:(10000:Nat)<=sizeLine:=by decide
  rw [h4];omega
 ·exact q.elim
noncomputable def kEq (neg:Bool):R2:=fun x y H Q=>match x,y with
 | .int i,.int j=>Q (.bl (neg ^^ decide (i=j))) H
 | .str a,.str b=>Q (.bl (neg ^^ decide (a.cps.toList=b.cps.toList))) H
 | .bl a,.bl b=>Q (.bl (neg ^^ decide (a=b))) H
 | .non,.non=>Q (.bl (neg ^^ true)) H
 | .non,.int _=>Q (.bl (neg ^^ false)) H
 | .int _,.non=>Q (.bl (neg ^^ false)) H
 | .non,.str _=>Q (.bl (neg ^^ false)) H
 | .str _,.non=>Q (.bl (neg ^^ false)) H
 | _,_=>False
theorem qU (a b:Str):decide (V.str a=V.str b)=decide (a.cps.toList=b.cps.toList):=by
 by_cases h:a.cps.toList=b.cps.toList
 ·have:a=b:=by rw [<- aF a,h,aF]
  subst this;simp
 ·rw [decide_eq_false h,decide_eq_false (fun z=>h (by cases z; rfl))]
theorem AV:∀ x y H Q,kEq false x y H Q->rEq x y H Q:=fun x y H Q q=>by
 unfold kEq at q;split at q <;> first
  | exact q.elim
  | (refine ⟨rfl,?_⟩; first | (rw [qU]; simpa using q) | simpa using q)
theorem Ap:∀ x y H Q,kEq true x y H Q->rNe x y H Q:=fun x y H Q q=>by
 unfold kEq at q;split at q <;> first
  | exact q.elim
  | (refine ⟨rfl,?_⟩; first | (rw [qU]; simpa using q) | simpa using q)
theorem ba:OpR X (compareOp .Eq) (kEq false):=AZ.imp AV
theorem cw:OpR X (compareOp .NotEq) (kEq true):=Bg.imp Ap
noncomputable abbrev kLt:R2:=kI0 fun i j=>.bl (decide (i < j))
noncomputable abbrev kLe:R2:=kI0 fun i j=>.bl (decide (i<=j))
noncomputable abbrev kGt:R2:=kI0 fun i j=>.bl (decide (j < i))
theorem xi:OpR X (compareOp .Lt) kLt:=Bb.imp lS
theorem AT:OpR X (compareOp .LtE) kLe:=AW.imp lS
theorem js:OpR X (compareOp .Gt) kGt:=A0.imp lS
noncomputable def kIs (neg:Bool):R2:=fun x y H Q=>match y with
 | .non=>Q (.bl (neg ^^ decide (x=.non))) H
 | _=>False
theorem sR:OpR X (compareOp .Is) (kIs false):=zu.imp fun x y H Q q=>by
 unfold kIs at q;split at q
 ·exact ⟨rfl,by simpa using q⟩
 ·exact q.elim
theorem uU:OpR X (compareOp .IsNot) (kIs true):=yc.imp fun x y H Q q=>by
 unfold kIs at q;split at q
 ·exact ⟨rfl,by simpa using q⟩
 ·exact q.elim
noncomputable def kIn (K:Frag) (neg:Bool):R2:=fun x y H Q=>match x,y with
 | .str a,.str b=>∃ c,a.cps.toList=[c]/\Q (.bl (neg ^^ decide (c ∈ b.cps.toList))) H
 | x,.ref p=>∃ xs,(SqL K H p xs\/SqT K H p xs)/\flatV x=true/\xs.all flatV=true/\Q (.bl (neg ^^ inV x xs)) H
 | _,_=>False
theorem AQ:OpR X (compareOp .In) (kIn X.K false):=by
 intro pins s σ H x y v u Q I rx ry q;unfold kIn at q;split at q
 ·obtain ⟨c,e,q⟩:=q;rename_i a b;have ea:a=⟨#[c]⟩:=by rw [<- aF a,e]
  subst ea;refine uA pins s σ H _ _ v u Q I rx ry ⟨_,_,rfl,rfl,?_⟩;rw [StrLaws.found_one];simpa using q
 ·obtain ⟨xs,h1,h2,h3,q⟩:=q;exact vz pins s σ H _ _ v u Q I rx ry ⟨_,_,rfl,h1,h2,h3,by simpa using q⟩
 ·exact q.elim
theorem uZ:OpR X (compareOp .NotIn) (kIn X.K true):=by
 intro pins s σ H x y v u Q I rx ry q;unfold kIn at q;split at q
 ·obtain ⟨c,e,q⟩:=q;rename_i a b;have ea:a=⟨#[c]⟩:=by rw [<- aF a,e]
  subst ea;refine p8 pins s σ H _ _ v u Q I rx ry ⟨_,_,rfl,rfl,?_⟩;rw [StrLaws.found_one];simpa using q
 ·obtain ⟨xs,h1,h2,h3,q⟩:=q;exact pb pins s σ H _ _ v u Q I rx ry ⟨_,_,rfl,h1,h2,h3,by simpa using q⟩
 ·exact q.elim
noncomputable def kIx (K:Frag):R2:=fun x y H Q=>match x,y with
 | .str z,.int i=>z.cps.toList.length<=100000/\∃ c,atI z.cps.toList i=some c/\Q (.str (st [c])) H
 | .ref p,.int i=>∃ xs v,(SqL K H p xs\/SqT K H p xs)/\atI xs i=some v/\Q v H
 | _,_=>False
theorem big5:(100000:Nat)<=sizeLine:=by decide
theorem strlen (z:Str):z.length=z.cps.toList.length:=by simp [Str.length]
theorem Bl:IxR X (kIx X.K):=AC.imp fun x y H Q q=>by
 unfold kIx at q;split at q
 ·obtain ⟨h,c,e,q⟩:=q;exact .inr (.inr ⟨_,_,c,rfl,rfl,by rw [strlen]; exact Nat.le_trans h big5,e,q⟩)
 ·obtain ⟨xs,v,h | h,e,q⟩:=q
  ·exact .inl ⟨_,_,_,_,rfl,rfl,h,e,q⟩
  ·exact .inr (.inl ⟨_,_,_,_,rfl,rfl,h,e,q⟩)
 ·exact q.elim
noncomputable def kLen (K:Frag):List V->Hp->VK->Prop:=fun xs H Q=>match xs with
 | [.str z]=>z.cps.toList.length<=100000/\Q (.int z.cps.toList.length) H
 | [.ref p]=>∃ ys,(SqL K H p ys\/SqT K H p ys)/\Q (.int ys.length) H
 | _=>False
theorem uz:CallR X (.builtin "len") (kLen X.K):=by
 intro pins s σ H xs us Q I r q;unfold kLen at q;split at q
 ·obtain ⟨h,q⟩:=q;refine pJ pins s σ H _ us Q I r ⟨_,rfl,by rw [strlen]; exact Nat.le_trans h big5,?_⟩;rw [strlen];exact q
 ·obtain ⟨ys,h,q⟩:=q;exact pI pins s σ H _ us Q I r ⟨_,_,rfl,h,q⟩
 ·exact q.elim
noncomputable def up (t:TE):TE:=fun σ H Q=>∃ Q0:VK,t σ H Q0/\∀ v H',Q0 v H'->Q v H'
noncomputable def up2 (r:R2):R2:=fun x y H Q=>∃ Q0:VK,r x y H Q0/\∀ v H',Q0 v H'->Q v H'
theorem EP.imp {pins:List (Addr × Obj)} {σ:St} {Q Q':VK} {u:Value} {s:Shared} (h:EP X pins σ Q u s) (k:∀ v H',Q v H'->Q' v H'):EP X pins σ Q' u s:=by
 obtain ⟨v,H',I,r,q⟩:=h;exact ⟨v,H',I,r,k v H' q⟩
theorem PE.mono {e:Expr} {t:TE} (h:PE X e t):PE X e (up t):=fun pins s σ H Q I ⟨Q0,q,k⟩=>thn (h pins s σ H Q0 I q) fun u s' z=>z.imp k
theorem OpR.mono {f:Value->Value->Sem Value} {r:R2} (h:OpR X f r):OpR X f (up2 r):=fun pins s σ H x y v u Q I rx ry ⟨Q0,q,k⟩=>thn (h pins s σ H x y v u Q0 I rx ry q) fun u s' z=>z.imp k
noncomputable def blK (Q:Bool->Hp->Prop):VK:=fun x H'=>match x with | .bl k=>Q k H' | _=>False
theorem o6 {Q:Bool->Hp->Prop} {x:V} {H':Hp} (h:blK Q x H'):∃ k,x=.bl k/\Q k H':=by
 unfold blK at h;split at h
 ·exact ⟨_,rfl,h⟩
 ·exact h.elim
noncomputable def cTest (t:TE):TT:=fun σ H Q=>t σ H (blK Q)
theorem bx {e:Expr} {t:TE} (h:PE X e t) (he:∀ whole,isTrue e X.env whole=(do let v <- whole; standAt e.pos; holding [v] (truthy v)):=by intro _; rfl):PT X e (cTest t):=
 (Aw h.mono he).imp fun σ H Q q=>⟨_,q,fun v H' z=>o6 z⟩
variable {a b c:Expr} {ta tb tc:TE} {pos:Pos} {rest:List Expr}
theorem aw {op:CmpOp} {r:R2} (ho:OpR X (compareOp op) r) (ha:PE X a ta) (hb:PE X b tb) (hm:behindInMarks op b=false:=by first | exact nomark _ | rfl):PT X (.Compare a [op] [b] pos) (cTest (tOp r ta tb)):=
 (yb ho.mono ha.mono hb.mono hm).imp fun σ H Q q=>⟨_,q,fun x H1 z=>⟨_,z,fun y H2 z2=>⟨_,z2,fun v H' z3=>o6 z3⟩⟩⟩
theorem dY {op:CmpOp} {r:R2} (ho:OpR X (compareOp op) r) (ha:PE X a ta) (hb:PE X b tb) (hm:behindInMarks op b=false:=by first | exact nomark _ | rfl):PE X (.Compare a [op] [b] pos) (tOp r ta tb):=yP ho ha hb hm
noncomputable def cAndV (ta tb:TE):TE:=fun σ H Q=>ta σ H (blK fun c H1=>if c=true then tb σ H1 Q else Q (.bl false) H1)
noncomputable def cOrV (ta tb:TE):TE:=fun σ H Q=>ta σ H (blK fun c H1=>if c=true then Q (.bl true) H1 else tb σ H1 Q)
theorem gY (ha:PE X a ta) (hb:PE X (.BoolOp .And (b::rest) pos) tb):PE X (.BoolOp .And (a::b::rest) pos) (cAndV ta tb):=(zv ha.mono hb).imp fun σ H Q q=>⟨_,q,fun v H' z=>o6 z⟩
theorem A6 (ha:PE X a ta) (hb:PE X (.BoolOp .Or (b::rest) pos) tb):PE X (.BoolOp .Or (a::b::rest) pos) (cOrV ta tb):=(A5 ha.mono hb).imp fun σ H Q q=>⟨_,q,fun v H' z=>o6 z⟩
variable {o e:Expr} {to te:TE} {apos cpos:Pos}
noncomputable def cApp (to te:TE):TE:=fun σ H Q=>to σ H fun x H1=>match x with
 | .ref l=>(∃ xs,H1 l=some (.lst xs))/\te σ H1 fun y H2=>∃ xs,H2 l=some (.lst xs)/\xs.length < sizeLine/\Q .non (upd H2 l (.lst (xs++[y])))
 | _=>False
theorem cC (ho:PE X o to) (he:PE X e te) (hbase:attributeBase o "append" X.env (eval o X.env)=eval o X.env:=by rfl)
  (hfew:((backTo cpos (starEach [e] X.env)).all (fun x=>!x.1) && (backToKw cpos (keywordEach [] X.env)).all (fun x=>x.1.isSome)
   && decide ([e].length+([]:List Keyword).length+(if ([]:List Keyword).isEmpty then 0 else 1) < 30))=true:=by rfl)
  (hline:(apos.endLine == cpos.line)=true:=by rfl) (hs:starEach [e] X.env=(false,eval e X.env)::starEach [] X.env:=by rfl) (hplain:(backTo cpos (starEach [] X.env)).any (·.1)=false:=by rfl):
  PE X (.Call (.Attribute o "append" apos) [e] [] cpos) (cApp to te):=
 (rf PySem.F.plainAttrs_list PySem.F.slot_list_append PySem.F.type_list_append kB ho.mono (aa he.mono ab hs) hbase hfew hline hs hplain).imp fun σ H Q q=>⟨_,q,fun x H1 z=>by
  split at z
  ·rename_i l;obtain ⟨⟨xs,h⟩,z⟩:=z;refine ⟨.inl ⟨rfl,_,SqL.of h⟩,_,z,fun y H2 z2=>?_⟩;obtain ⟨xs2,h2,h3,z3⟩:=z2;exact ⟨l,xs2,y,rfl,rfl,h2,h3,z3⟩
  ·exact z.elim⟩
noncomputable def cJoin1 (K:Frag) (te:TE):TE:=fun σ H Q=>te σ H fun x H1=>match x with
 | .ref l=>∃ cs:List Nat,SqL K H1 l (cs.map fun k=>V.str (st [k]))/\cs.length<=10000/\Q (.str (st cs)) H1
 | _=>False
theorem wm {j:Nat} {p1:Pos} (he:PE X e te) (hfew:((backTo cpos (starEach [e] X.env)).all (fun x=>!x.1) && (backToKw cpos (keywordEach [] X.env)).all (fun x=>x.1.isSome)
   && decide ([e].length+([]:List Keyword).length+(if ([]:List Keyword).isEmpty then 0 else 1) < 30))=true:=by rfl)
  (hline:(apos.endLine == cpos.line)=true:=by rfl) (hs:starEach [e] X.env=(false,eval e X.env)::starEach [] X.env:=by rfl) (hplain:(backTo cpos (starEach [] X.env)).any (·.1)=false:=by rfl)
  (hbase:attributeBase (.Constant (.str (Str.ofString "")) j p1) "join" X.env (eval (.Constant (.str (Str.ofString "")) j p1) X.env)=eval (.Constant (.str (Str.ofString "")) j p1) X.env:=by rfl):
  PE X (.Call (.Attribute (.Constant (.str (Str.ofString "")) j p1) "join" apos) [e] [] cpos) (cJoin1 X.K te):=
 (rf PySem.F.plainAttrs_str PySem.F.slot_str_join PySem.F.type_str_join wP wG (aa he.mono ab hs) hbase hfew hline hs hplain).imp fun σ H Q q=>⟨rfl,_,q,fun x H1 z=>by
  split at z
  ·obtain ⟨cs,h,h2,z⟩:=z;exact ⟨_,cs,rfl,rfl,h,h2,z⟩
  ·exact z.elim⟩
end
section
variable {X:Cx} {tg a b e:Expr} {te ta tb:TE} {pos p:Pos}
noncomputable def cIter (K:Frag) (te:TE):TI:=fun σ H R=>te σ H fun x H1=>match x with
 | .str z=>R (Its z) H1
 | .ref a=>((∃ xs,SqL K H1 a xs)/\R (Itl K a) H1)\/((∃ xs,SqT K H1 a xs)/\R (Itt K a) H1)
 | _=>False
theorem x6 (he:PE X e te):PI X tg e (cIter X.K te):=by
 intro pins s σ H R I h;refine thn (he pins s σ H _ I h) fun v s1 ⟨y,H1,I1,r1,q1⟩=>?_
 dsimp only at q1;split at q1
 ·rename_i x;obtain ⟨t,rfl⟩:=r1;refine wpAny_pyIter_strU ?_;refine ⟨s1.heap.objs.size,[s1.heap.objs.size],_,Its x,H1,rfl,I1.kept (t':=s1.toks) fun b o e=>Heap.get?_push_of_some _ e,vW x t _,⟨_,Heap.get?_push_size _ rfl,rfl,rfl⟩,fun b hb=>?_,q1⟩;have e:b=s1.heap.objs.size:=by simpa using hb
  subst e;exact I1.fpOk (Nat.le_refl _) (I1.hok.fresh (Nat.le_refl _))
 ·rename_i l;cases r1;rcases q1 with ⟨⟨xs,hq⟩,q⟩ | ⟨⟨xs,hq⟩,q⟩
  ·obtain ⟨its,rv,p,hz⟩:=I1.list hq;refine wpAny_pyIter_list p.isList ?_;refine ⟨s1.heap.objs.size,[s1.heap.objs.size],_,_,H1,rfl,I1.kept (t':=s1.toks) fun b o e=>Heap.get?_push_of_some _ e,vd l _,⟨_,Heap.get?_push_size _ rfl,rfl,rfl⟩,fun b hb=>?_,q⟩;have e:b=s1.heap.objs.size:=by simpa using hb
   subst e;exact I1.fpOk (Nat.le_refl _) (I1.hok.fresh (Nat.le_refl _))
  ·obtain ⟨its,rv,p,hz⟩:=I1.tuple hq;refine wpAny_pyIter_tuple (show s1.heap.IsTuple l its.toArray from p) ?_;refine ⟨s1.heap.objs.size,[s1.heap.objs.size],_,_,H1,rfl,I1.kept (t':=s1.toks) fun b o e=>Heap.get?_push_of_some _ e,sY l _,⟨_,Heap.get?_push_size _ rfl,rfl,rfl⟩,fun b hb=>?_,q⟩;have e:b=s1.heap.objs.size:=by simpa using hb
   subst e;exact I1.fpOk (Nat.le_refl _) (I1.hok.fresh (Nat.le_refl _))
 ·exact q1.elim
noncomputable def cRng1 (te:TE):TI:=fun σ H R=>te σ H fun x H1=>match x with
 | .int j=>-1000000<=j/\j<=1000000/\R (Itr 0 j.toNat) H1
 | _=>False
theorem bo (hg:Gl X "range") (hm:X.mg "range" = none) (ha:PE X a ta) (hs:starEach [a] X.env=[(false,eval a X.env)]:=by rfl):PI X tg (.Call (.Name "range" p) [a] [] pos) (cRng1 ta):=
 (vL hg hm (aa ha.mono ab hs) hs).imp fun σ H R q=>⟨_,q,fun x H1 z=>by
  split at z
  ·exact ⟨_,rfl,by omega,by omega,z.2.2⟩
  ·exact z.elim⟩
def srcK (K:Frag) (H:Hp) (v:V) (R:Src->Prop):Prop:=match v with
 | .str x=>R (.str x)
 | .ref a=>(∃ xs,SqL K H a xs)/\R (.lst a)
 | _=>False
theorem lK {K:Frag} {H:Hp} {v:V} {R:Src->Prop} (h:srcK K H v R):∃ S,SrcOf K H S v/\R S:=by
 unfold srcK at h;split at h
 ·exact ⟨.str _,rfl,h⟩
 ·exact ⟨.lst _,⟨rfl,h.1⟩,h.2⟩
 ·exact h.elim
noncomputable def cZip (K:Frag) (ta tb:TE):TI:=fun σ H R=>ta σ H fun x H1=>tb σ H1 fun y H2=>srcK K H2 x fun S1=>srcK K H2 y fun S2=>R (Itz K S1 S2) H2
theorem zQ {elts:List Expr} {kk:Nat} {tpos:Pos} (hg:Gl X "zip") (hm:X.mg "zip" = none) (ha:PE X a ta) (hb:PE X b tb) (hs:starEach [a,b] X.env=[(false,eval a X.env),(false,eval b X.env)]:=by rfl) (hs2:starEach [b] X.env=[(false,eval b X.env)]:=by rfl):
  PI X (.Tuple elts kk tpos) (.Call (.Name "zip" p) [a,b] [] pos) (cZip X.K ta tb):=
 (AJ hg hm (aa ha.mono (aa hb.mono ab hs2) (by rw [hs,hs2])) hs hs2).imp fun σ H R q=>⟨_,q,fun x H1 z=>⟨_,z,fun y H2 z=>by
  obtain ⟨S1,o1,z⟩:=lK z;obtain ⟨S2,o2,z⟩:=lK z;exact ⟨S1,S2,x,y,rfl,o1,o2,z⟩⟩⟩
end
def loopW (J:It) (g:TG) (tb:TS) (D:Ends) (σ:St) (H:Hp):Prop:=∃ W:Nat->Nat->St->Hp->Prop,(∃ m,W 0 m σ H)/\∀ i m σ H,W i m σ H ->
 (J.stop i H/\D.nx σ H)\/(J.go i H/\∃ N:St->Hp->Prop,(∀ σ' H',N σ' H'->∃ m',m' < m/\W (i+1) m' σ' H')/\∀ x H',J.yld i H x H'->g x σ H' fun σ2 H2=>tb { D with nx:=N,ct:=N,bk:=D.nx } σ2 H2)
noncomputable def cFor (wi:TI) (g:TG) (tb:TS):TS:=fun D σ H=>wi σ H fun J H1=>loopW J g tb D σ H1
theorem bf {X:Cx} {tg iter:Expr} {body:List Stmt} {wi:TI} {g:TG} {tb:TS} {pos:Pos} (hp:PassesOwn (model X.prog X.w) X.A X.env X.xe) (hc:X.calm=true) (hi:PI X tg iter wi) (hg:PG X tg g) (hb:PSs X body tb)
  (hs:∀ x,foldedSetIterable iter X.env x=pure x:=by intro _; rfl):PS X (.For tg iter body [] pos) (cFor wi g tb):=Am hp hc hi hg hb hs
section
variable {K:Frag} {g:TG} {tb:TS} {D:Ends} {σ:St} {H:Hp}
noncomputable abbrev Ends.turn (D:Ends) (N:St->Hp->Prop):Ends:={ D with nx:=N,ct:=N,bk:=D.nx }
theorem vZ {l:List Nat} (Pv:Nat->St->Hp->Prop) (h0:Pv 0 σ H) (hs:∀ i c σ H,l[i]? = some c->Pv i σ H->g (.str (st [c])) σ H fun σ2 H2=>tb (D.turn (Pv (i+1))) σ2 H2) (hd:∀ σ H,Pv l.length σ H->D.nx σ H):
  loopW (Its (st l)) g tb D σ H:=
 si (n:=l.length) Pv h0 (fun i σ H hi _=>by show i < (st l).cps.size; simpa using hi) (fun σ H _=>by show (st l).cps.size<=l.length; simp)
  (fun i σ H x H' hi p y=>by
   obtain ⟨rfl,c,hc,rfl⟩:=y;exact hs i c σ _ (by simpa using hc) p) hd
theorem bN {p:Addr} {xs:List V} (Pv:Nat->St->Hp->Prop) (h0:Pv 0 σ H) (hl:∀ i σ H,i<=xs.length->Pv i σ H->SqL K H p xs)
  (hs:∀ i x σ H,xs[i]? = some x->Pv i σ H->g x σ H fun σ2 H2=>tb (D.turn (Pv (i+1))) σ2 H2) (hd:∀ σ H,Pv xs.length σ H->D.nx σ H):loopW (Itl K p) g tb D σ H:=wZ Pv h0 hl hs hd
theorem dX {α:Type} (item:α -> V) (xs:List α) {p:Addr} (Pv:Nat->St->Hp->Prop) (h0:Pv 0 σ H) (hl:∀ i σ H,i<=xs.length->Pv i σ H->SqL K H p (xs.map item))
  (hs:∀ i x σ H,xs[i]? = some x->Pv i σ H->g (item x) σ H fun σ2 H2=>tb (D.turn (Pv (i+1))) σ2 H2) (hd:∀ σ H,Pv xs.length σ H->D.nx σ H):loopW (Itl K p) g tb D σ H:=
 bN (xs:=xs.map item) Pv h0 (fun i σ H hi=>hl i σ H (by simpa using hi)) (fun i x σ H hx p=>by
  rw [List.getElem?_map] at hx;obtain ⟨y,hy,rfl⟩:=Option.map_eq_some_iff.mp hx;exact hs i y σ H hy p) (fun σ H p=>hd σ H (by simpa using p))
theorem bT {lo:Int} {n:Nat} (Pv:Nat->St->Hp->Prop) (h0:Pv 0 σ H) (hs:∀ i σ H,i < n->Pv i σ H->g (.int (lo+i)) σ H fun σ2 H2=>tb (D.turn (Pv (i+1))) σ2 H2) (hd:∀ σ H,Pv n σ H->D.nx σ H):
  loopW (Itr lo n) g tb D σ H:=ux Pv h0 hs hd
noncomputable def SrcVals (K:Frag) (H:Hp):Src->List V->Prop
 | .str x,xs=>xs=x.cps.toList.map fun c=>V.str (st [c])
 | .lst a,xs=>SqL K H a xs
theorem SrcVals.go {S:Src} {xs:List V} {i:Nat} (h:SrcVals K H S xs) (hi:i < xs.length):SrcGo K H S i:=by
 cases S with
 | str x=>
  have e:xs=x.cps.toList.map fun c=>V.str (st [c]):=h
  subst e;show i < x.cps.size;simpa using hi
 | lst a=>exact ⟨xs,xs[i],h,by simp [hi]⟩
theorem SrcVals.stop {S:Src} {xs:List V} {i:Nat} (h:SrcVals K H S xs) (hi:xs.length<=i):SrcEnd K H S i:=by
 cases S with
 | str x=>
  have e:xs=x.cps.toList.map fun c=>V.str (st [c]):=h
  subst e;show x.cps.size<=i;simpa using hi
 | lst a=>exact ⟨xs,h,hi⟩
theorem SrcVals.at {S:Src} {xs:List V} {i:Nat} {v:V} (h:SrcVals K H S xs) (q:SrcAt K H S i v):xs[i]? = some v:=by
 cases S with
 | str x=>
  have e:xs=x.cps.toList.map fun c=>V.str (st [c]):=h
  subst e;obtain ⟨c,hc,rfl⟩:=q;simp [hc]
 | lst a=>exact q xs h
theorem SqT.upd_same {p:Addr} {xs:List V}:SqT K (upd H p (.tup xs)) p xs:=SqT.of L2.upd_same
theorem mv {S1 S2:Src} {xs ys:List V} {j k:Nat} (Pv:Nat->St->Hp->Prop) (h0:Pv 0 σ H) (hl:∀ i σ H,Pv i σ H->SrcVals K H S1 xs/\SrcVals K H S2 ys)
  (hs:∀ i x y σ H T,xs[i]? = some x->ys[i]? = some y->Pv i σ H->H T=none->tb (D.turn (Pv (i+1))) ((σ.set j (some x)).set k (some y)) (upd H T (.tup [x,y]))) (hd:∀ σ H,Pv (min xs.length ys.length) σ H->D.nx σ H):
  loopW (Itz K S1 S2) (gTup K 2 (gCons (gName j) (gCons (gName k) gNil))) tb D σ H:=
 si (n:=min xs.length ys.length) Pv h0 (fun i σ H hi p=>by
   obtain ⟨q1,q2⟩:=hl i σ H p;exact ⟨q1.go (by omega),q2.go (by omega)⟩)
  (fun σ H p=>by
   obtain ⟨q1,q2⟩:=hl _ σ H p;by_cases h:xs.length<=ys.length
   ·exact .inl (q1.stop (by omega))
   ·exact .inr ⟨q1.go (by omega),q2.stop (by omega)⟩)
  (fun i σ H v H' hi p y=>by
   obtain ⟨T,x,y,rfl,hT,rfl,s1,s2⟩:=y;obtain ⟨q1,q2⟩:=hl i σ H p;exact ⟨T,[x,y],rfl,SqT.upd_same,rfl,x,[y],rfl,y,[],rfl,rfl,hs i x y σ H T (q1.at s1) (q2.at s2) p hT⟩) hd
end
def compW (J:It) (g:TG) (tc:TT) (te:TE) (σc:St) (D:Addr) (Q:VK) (H:Hp):Prop:=
 ∃ W:Nat->Nat->List V->Hp->Prop,(∃ m,W 0 m [] (upd H D (.lst [])))/\∀ i m acc H2,W i m acc H2 ->
  (J.stop i H2/\Q (.ref D) H2)\/(J.go i H2/\∀ x H3,J.yld i H2 x H3->g x σc H3 fun σ4 H4=>tc σ4 H4 fun b H5=>if b=true then
   te σ4 H5 fun v H6=>H6 D=some (.lst acc)/\acc.length < sizeLine/\∃ m',m' < m/\W (i+1) m' (acc++[v]) (upd H6 D (.lst (acc++[v]))) else ∃ m',m' < m/\W (i+1) m' acc H5)
noncomputable def cComp (nt:Nat) (fi:List Nat) (wi:TI) (g:TG) (tc:TT) (te:TE):TE:=fun σ H Q=>wi σ H fun J H1=>∀ D,H1 D=none->compW J g tc te (compσ nt fi σ) D Q H1
theorem aX {X:Cx} {elt tg iter:Expr} {ifs:List Expr} {scope:Scope} {pos:Pos} {wi:TI} {g:TG} {tc:TT} {te:TE} {nt:Nat} {fi:List Nat} {N':List Str} (hcalm:X.calm=true)
  (S:CScope scope) (cn:CNames X scope nt fi N') (gk:GK nt g) (hi:PI X tg iter wi)
  (hg:∀ cl C s H ex,PG (cxC X scope cl N' C s H ex) tg g) (hc:∀ cl C s H ex,PIf (cxC X scope cl N' C s H ex) ifs tc) (he:∀ cl C s H ex,PE (cxC X scope cl N' C s H ex) elt te)
  (hs:∀ x,foldedSetIterable iter X.env x=pure x:=by intro _; rfl):PE X (.ListComp elt [⟨tg,iter,ifs,0⟩] scope pos) (cComp nt fi wi g tc te):=yn hcalm S cn gk hi hg hc he hs
section
variable {K:Frag} {J:It} {g:TG} {tc:TT} {te:TE} {σc:St} {D:Addr} {Q:VK} {H:Hp}
theorem dF {α:Type} (f:Nat->List α) (n:Nat):(List.range (n+1)).flatMap f=(List.range n).flatMap f++f n:=by
 rw [List.range_succ,List.flatMap_append];simp
theorem m3 {α:Type} (f:Nat->List α) (hf:∀ i,(f i).length<=1) (n:Nat):((List.range n).flatMap f).length<=n:=by
 induction n with
 | zero=>simp
 | succ n ih=>
  rw [dF,List.length_append];have:=hf n;omega
theorem lM {n:Nat} (f:Nat->List V) (hfree:H D=none) (hn:n<=100000) (hf:∀ i,(f i).length<=1) (hy:∀ i H x H',J.yld i H x H'->Same H H')
  (hgo:∀ i H',i < n->Same H H'->J.go i H') (hst:∀ H',Same H H'->J.stop n H')
  (hs:∀ i H1 x H2 (out:VK) (non:Hp->Prop),i < n->Same H H1->J.yld i H1 x H2->(∀ v H6,f i=[v]->Same H2 H6->out v H6)->(∀ H5,f i=[]->Same H2 H5->non H5) ->
   g x σc H2 fun σ4 H4=>tc σ4 H4 fun b H5=>if b=true then te σ4 H5 out else non H5)
  (hq:∀ H',Same H H'->H' D=some (.lst ((List.range n).flatMap f))->Q (.ref D) H'):compW J g tc te σc D Q H:=by
 refine ⟨fun i m acc H2=>m=n - i/\i<=n/\acc=(List.range i).flatMap f/\Same H H2/\H2 D=some (.lst acc),⟨n,by simp,Nat.zero_le _,by simp,ae hfree _,upd_same⟩,?_⟩;rintro i m acc H2 ⟨rfl,hi,rfl,sm,hD⟩;by_cases hlt:i < n
 ·refine .inr ⟨hgo i H2 hlt sm,fun x H3 y=>?_⟩;have s23:=hy i H2 x H3 y;refine hs i H2 x H3 _ _ hlt sm y (fun v H6 e s6=>?_) fun H5 e s5=>?_
  ·refine ⟨s6 _ _ (s23 _ _ hD),Nat.lt_of_le_of_lt (m3 f hf i) (sizeBig (by omega)),n - (i+1),by omega,rfl,hlt,?_,?_,upd_same⟩
   ·rw [dF,e]
   ·exact aH (sm.trans (s23.trans s6)) hfree
  ·refine ⟨n - (i+1),by omega,rfl,hlt,?_,sm.trans (s23.trans s5),s5 _ _ (s23 _ _ hD)⟩;rw [dF,e,List.append_nil]
 ·have e:i=n:=by omega
  subst e;exact .inl ⟨hst H2 sm,hq H2 sm hD⟩
noncomputable def atH {α β:Type} (xs:List α) (h:α -> List β) (i:Nat):List β:=((xs[i]?).map h).getD []
theorem lX {α β:Type} {xs:List α} {h:α -> List β} {i:Nat} {x:α} (e:xs[i]? = some x):atH xs h i=h x:=by simp [atH,e]
theorem ph {α β:Type} {xs:List α} {h:α -> List β} (hf:∀ x,(h x).length<=1) (i:Nat):(atH xs h i).length<=1:=by
 unfold atH;cases xs[i]? with
 | none=>simp
 | some x=>simpa using hf x
theorem pH {α β:Type} (xs:List α) (h:α -> List β):(List.range xs.length).flatMap (atH xs h)=xs.flatMap h:=by
 induction xs with
 | nil=>rfl
 | cons a xs ih=>
  rw [List.length_cons,List.range_succ_eq_map,List.flatMap_cons,List.flatMap_map,List.flatMap_cons,<- ih];rfl
section
variable {α:Type} (item:α -> V) (xs:List α) (h:α -> List V)
theorem aW {p:Addr} (hfree:H D=none) (hl:SqL K H p (xs.map item)) (hn:xs.length<=100000) (hf:∀ x,(h x).length<=1)
  (hs:∀ x H1 (out:VK) (non:Hp->Prop),x ∈ xs->Same H H1->(∀ v H6,h x=[v]->Same H1 H6->out v H6)->(∀ H5,h x=[]->Same H1 H5->non H5) ->
   g (item x) σc H1 fun σ4 H4=>tc σ4 H4 fun b H5=>if b=true then te σ4 H5 out else non H5)
  (hq:∀ H',Same H H'->H' D=some (.lst (xs.flatMap h))->Q (.ref D) H'):compW (Itl K p) g tc te σc D Q H:=by
 refine lM (n:=xs.length) (atH xs h) hfree hn (ph hf) (fun i H x H' y=>?_) (fun i H' hi s=>?_) (fun H' s=>?_) (fun i H1 x H2 out non hi s y ho hnn=>?_) fun H' s q=>?_
 ·rw [y.1];exact Same.refl _
 ·exact ⟨_,item xs[i],s.seq hl,by simp [hi]⟩
 ·exact ⟨_,s.seq hl,by simp⟩
 ·obtain ⟨rfl,y⟩:=y;have e:=y _ (s.seq hl);rw [List.getElem?_map,List.getElem?_eq_getElem hi] at e;have e2:item xs[i]=x:=Option.some.inj e;subst e2;simp only [lX (List.getElem?_eq_getElem hi)] at ho hnn;exact hs xs[i] _ out non (List.getElem_mem hi) s ho hnn
 ·rw [pH] at q;exact hq H' s q
theorem vP {l:List Nat} {h:Nat->List V} (hfree:H D=none) (hn:l.length<=100000) (hf:∀ x,(h x).length<=1)
  (hs:∀ c H1 (out:VK) (non:Hp->Prop),c ∈ l->Same H H1->(∀ v H6,h c=[v]->Same H1 H6->out v H6)->(∀ H5,h c=[]->Same H1 H5->non H5) ->
   g (.str (st [c])) σc H1 fun σ4 H4=>tc σ4 H4 fun b H5=>if b=true then te σ4 H5 out else non H5)
  (hq:∀ H',Same H H'->H' D=some (.lst (l.flatMap h))->Q (.ref D) H'):compW (Its (st l)) g tc te σc D Q H:=by
 refine lM (n:=l.length) (atH l h) hfree hn (ph hf) (fun i H x H' y=>?_) (fun i H' hi s=>?_) (fun H' s=>?_) (fun i H1 x H2 out non hi s y ho hnn=>?_) fun H' s q=>?_
 ·rw [y.1];exact Same.refl _
 ·show i < (st l).cps.size;simpa using hi
 ·show (st l).cps.size<=l.length;simp
 ·obtain ⟨rfl,c,hc,rfl⟩:=y;have e:l[i]? = some c:=by simpa using hc
  simp only [lX e] at ho hnn;exact hs c _ out non (List.mem_of_getElem? e) s ho hnn
 ·rw [pH] at q;exact hq H' s q
theorem jr {lo:Int} {n:Nat} {h:Nat->List V} (hfree:H D=none) (hn:n<=100000) (hf:∀ x,(h x).length<=1)
  (hs:∀ i H1 (out:VK) (non:Hp->Prop),i < n->Same H H1->(∀ v H6,h i=[v]->Same H1 H6->out v H6)->(∀ H5,h i=[]->Same H1 H5->non H5) ->
   g (.int (lo+i)) σc H1 fun σ4 H4=>tc σ4 H4 fun b H5=>if b=true then te σ4 H5 out else non H5)
  (hq:∀ H',Same H H'->H' D=some (.lst ((List.range n).flatMap h))->Q (.ref D) H'):compW (Itr lo n) g tc te σc D Q H:=by
 refine lM (n:=n) h hfree hn hf (fun i H x H' y=>?_) (fun i H' hi s=>hi) (fun H' s=>Nat.le_refl _) (fun i H1 x H2 out non hi s y ho hnn=>?_) hq
 ·rw [y.1];exact Same.refl _
 ·obtain ⟨rfl,rfl⟩:=y;exact hs i _ out non hi s ho hnn
theorem v6 {S1 S2:Src} {us ws:List V} {j k:Nat} {h:V->V->List V} (hfree:H D=none) (h1:∀ H',Same H H'->SrcVals K H' S1 us) (h2:∀ H',Same H H'->SrcVals K H' S2 ws) (hn:us.length<=100000) (hf:∀ x y,(h x y).length<=1)
  (hs:∀ x y H1 (out:VK) (non:Hp->Prop),(x,y) ∈ us.zip ws->Same H H1->(∀ v H6,h x y=[v]->Same H1 H6->out v H6)->(∀ H5,h x y=[]->Same H1 H5->non H5) ->
   tc ((σc.set j (some x)).set k (some y)) H1 fun b H5=>if b=true then te ((σc.set j (some x)).set k (some y)) H5 out else non H5)
  (hq:∀ H',Same H H'->H' D=some (.lst ((us.zip ws).flatMap fun p=>h p.1 p.2))->Q (.ref D) H'):compW (Itz K S1 S2) (gTup K 2 (gCons (gName j) (gCons (gName k) gNil))) tc te σc D Q H:=by
 refine lM (n:=(us.zip ws).length) (atH (us.zip ws) fun p=>h p.1 p.2) hfree (by rw [List.length_zip]; omega) (ph fun p=>hf p.1 p.2) (fun i H x H' y=>?_) (fun i H' hi s=>?_) (fun H' s=>?_) (fun i H1 x H2 out non hi s y ho hnn=>?_) fun H' s q=>?_
 ·obtain ⟨T,x,y,_,hT,rfl,_⟩:=y;exact ae hT _
 ·rw [List.length_zip] at hi;exact ⟨(h1 H' s).go (by omega),(h2 H' s).go (by omega)⟩
 ·rw [List.length_zip];by_cases h:us.length<=ws.length
  ·exact .inl ((h1 H' s).stop (by omega))
  ·exact .inr ⟨(h1 H' s).go (by omega),(h2 H' s).stop (by omega)⟩
 ·obtain ⟨T,x,y,rfl,hT,rfl,s1,s2⟩:=y;have q1:=(h1 _ s).at s1;have q2:=(h2 _ s).at s2;have e:(us.zip ws)[i]? = some (x,y):=by
   rw [List.getElem?_zip_eq_some];exact ⟨q1,q2⟩
  simp only [lX e] at ho hnn;exact ⟨T,[x,y],rfl,SqT.upd_same,rfl,x,[y],rfl,y,[],rfl,rfl,hs x y _ out non (List.mem_of_getElem? e) (s.trans (ae hT _)) ho hnn⟩
 ·rw [pH (us.zip ws) fun p=>h p.1 p.2] at q;exact hq H' s q
end
end
noncomputable def cnOk (N:List Str) (sc scope:Scope) (nt:Nat) (fi:List Nat) (N':List Str):Bool:=
 N'.length == nt+fi.length && ((List.range fi.length).all fun k=>match fi[k]? with
  | some j=>match N'[nt+k]?,N[j]? with
   | some x,some y=>x == y && scope.names.lookup x == some NameKind.free
   | _,_=>false
  | none=>false) && scope.names.all fun y=>y.2 != NameKind.free || (sc.names.lookup y.1 == some NameKind.cell || sc.names.lookup y.1 == some NameKind.free)
theorem cnames {X:Cx} {N:List Str} {sc scope:Scope} {nt:Nat} {fi:List Nat} {N':List Str} (hN:X.N=N) (hsc:X.env.scope=sc) (h:cnOk N sc scope nt fi N'=true):CNames X scope nt fi N':=by
 unfold cnOk at h;simp only [Bool.and_eq_true,List.all_eq_true,List.mem_range,beq_iff_eq] at h;obtain ⟨⟨h1,h2⟩,h3⟩:=h;refine ⟨h1,fun k j e=>?_,fun y hy e=>?_⟩
 ·have hk:k < fi.length:=(List.getElem?_eq_some_iff.mp e).1;have q:=h2 k hk;rw [e] at q;dsimp only at q;split at q
  ·rename_i x y e1 e2;simp only [Bool.and_eq_true,beq_iff_eq] at q;obtain ⟨rfl,q⟩:=q;exact ⟨_,e1,by rw [hN]; exact e2,q⟩
  ·cases q
 ·have q:=h3 y hy;rw [e] at q;rw [hsc];simpa using q
theorem cscope {scope:Scope} (hk:scope.kind=.function) (h:(scope.names.all fun y=>y.2 != NameKind.cell && (y.2 != NameKind.local || scope.names.lookup y.1 == some NameKind.local))=true):CScope scope:=by
 simp only [List.all_eq_true,Bool.and_eq_true] at h;refine ⟨hk,fun y hy e=>?_,fun y hy e=>?_⟩
 ·have:=(h y hy).1;rw [e] at this;exact absurd this (by decide)
 ·have:=(h y hy).2;rw [e] at this;simpa using this
theorem aL:bootBuiltins "len" = some (.builtin "len"):=by decide +kernel
theorem sh:bootBuiltins "sum" = some (.builtin "sum"):=by decide +kernel
theorem Ad:bootBuiltins "any" = some (.builtin "any"):=by decide +kernel
theorem pR:bootBuiltins "min" = some (.builtin "min"):=by decide +kernel
theorem n4:bootBuiltins "sorted" = some (.builtin "sorted"):=by decide +kernel
theorem nG:bootBuiltins "isinstance" = some (.builtin "isinstance"):=by decide +kernel
theorem mB:bootBuiltins "str" = some (.type "str"):=by decide +kernel
theorem mt:bootBuiltins "int" = some (.type "int"):=by decide +kernel
theorem lN:bootBuiltins "bool" = some (.type "bool"):=by decide +kernel
theorem jy:bootBuiltins "list" = some (.type "list"):=by decide +kernel
theorem fO:bootBuiltins "tuple" = some (.type "tuple"):=by decide +kernel
theorem zA:bootBuiltins "set" = some (.type "set"):=by decide +kernel
inductive Ty where
 | bool | int | str | list | tuple
noncomputable def Ty.nm:Ty->String
 | .bool => "bool" | .int => "int" | .str => "str" | .list => "list" | .tuple => "tuple"
noncomputable def Ty.isBl:Ty->Bool
 | .bool=>true | .int=>true | _=>false
noncomputable def Ty.isInt:Ty->Bool
 | .int=>true | _=>false
noncomputable def Ty.isStr:Ty->Bool
 | .str=>true | _=>false
noncomputable def Ty.isLst:Ty->Bool
 | .list=>true | _=>false
noncomputable def Ty.isTup:Ty->Bool
 | .tuple=>true | _=>false
section
variable {K:Frag}
theorem yt (n:Ty):PySem.W.kitOne K (.type "NoneType") (.type n.nm)=some false:=by cases n <;> with_unfolding_all rfl
theorem zX (n:Ty):PySem.W.kitOne K (.type "bool") (.type n.nm)=some n.isBl:=by cases n <;> with_unfolding_all rfl
theorem y4 (n:Ty):PySem.W.kitOne K (.type "int") (.type n.nm)=some n.isInt:=by cases n <;> with_unfolding_all rfl
theorem xP (n:Ty):PySem.W.kitOne K (.type "str") (.type n.nm)=some n.isStr:=by cases n <;> with_unfolding_all rfl
theorem yO (n:Ty):PySem.W.kitOne K (.type "list") (.type n.nm)=some n.isLst:=by cases n <;> with_unfolding_all rfl
theorem yu (n:Ty):PySem.W.kitOne K (.type "tuple") (.type n.nm)=some n.isTup:=by cases n <;> with_unfolding_all rfl
end
section
variable {X:Cx} {a b e:Expr} {ta tb te:TE} {pos p p2:Pos}
theorem Bf {x:Str} {n:String} (hg:Gl X x) (hm:X.mg x=none) (hv:bootBuiltins x=some (.type n)) (hn:x ≠ "__name__" := by decide) (hd:(x == ("__debug__" : Str))=false:=by decide):PE X (.Name x pos) (tC (.ty n)):=yk (v:=.ty n) hg hm hv rfl hn hd
noncomputable def cIsI (n:Ty) (ta:TE):TE:=fun σ H Q=>ta σ H fun x H1=>match x with
 | .non=>Q (.bl false) H1
 | .bl _=>Q (.bl n.isBl) H1
 | .int _=>Q (.bl n.isInt) H1
 | .str _=>Q (.bl n.isStr) H1
 | .ref p=>((∃ xs,H1 p=some (.lst xs))/\Q (.bl n.isLst) H1)\/((∃ xs,H1 p=some (.tup xs))/\Q (.bl n.isTup) H1)
 | _=>False
theorem aR {x:Str} (n:Ty) (hg:Gl X "isinstance") (hm:X.mg "isinstance" = none) (ha:PE X a ta) (hg2:Gl X x) (hm2:X.mg x=none) (hv2:bootBuiltins x=some (.type n.nm)) (hn2:x ≠ "__name__" := by decide) (hd2:(x == ("__debug__" : Str))=false:=by decide)
  (hs:starEach [a,.Name x p2] X.env=(false,eval a X.env)::starEach [.Name x p2] X.env:=by rfl) (hpl:(backTo pos (starEach [.Name x p2] X.env)).any (·.1)=false:=by rfl):PE X (.Call (.Name "isinstance" p) [a,.Name x p2] [] pos) (cIsI n ta):=
 (au qY hg hm nG (aa ha.mono (aa (Bf hg2 hm2 hv2 hn2 hd2) ab) hs) (he:=hs) (hpl:=hpl)).imp fun σ H Q q=>⟨_,q,fun v H1 z=>by
  show ∃ x n t b,[v,V.ty _]=[x,.ty n]/\TyOf X.K H1 x t/\PySem.W.kitOne X.K t (.type n)=some b/\Q (.bl b) H1;split at z
  ·exact ⟨_,_,_,_,rfl,.non,yt n,z⟩
  ·exact ⟨_,_,_,_,rfl,.bl _,zX n,z⟩
  ·exact ⟨_,_,_,_,rfl,.int _,y4 n,z⟩
  ·exact ⟨_,_,_,_,rfl,.str _,xP n,z⟩
  ·rcases z with ⟨⟨xs,h⟩,z⟩ | ⟨⟨xs,h⟩,z⟩
   ·exact ⟨_,_,_,_,rfl,.lst h,yO n,z⟩
   ·exact ⟨_,_,_,_,rfl,.tup h,yu n,z⟩
  ·exact z.elim⟩
noncomputable def kInt:List V->Hp->VK->Prop:=fun xs H Q=>match xs with
 | [.int i]=>Q (.int i) H
 | [.bl k]=>Q (.int (if k then 1 else 0)) H
 | [.str z]=>∃ c:Nat,z.cps.toList=[c]/\48<=c/\c<=57/\Q (.int ((c - 48:Nat):Int)) H
 | _=>False
theorem rd (c:Nat) (h0:48<=c) (h1:c<=57):PySem.intText? ⟨#[c]⟩=some ((c - 48:Nat):Int):=by
 obtain ⟨d,rfl⟩:∃ d,c=48+d:=⟨c - 48,by omega⟩;have h:d < 10:=by omega
 have hd:d=0\/d=1\/d=2\/d=3\/d=4\/d=5\/d=6\/d=7\/d=8\/d=9:=by omega
 rcases hd with rfl | rfl | rfl | rfl | rfl | rfl | rfl | rfl | rfl | rfl <;> decide +kernel
theorem oJ:CallR X (.type "int") kInt:=by
 intro pins s σ H xs us Q I r q;unfold kInt at q;split at q
 ·exact oB pins s σ H _ us Q I r (.inl ⟨_,rfl,q⟩)
 ·exact oB pins s σ H _ us Q I r (.inr ⟨_,rfl,q⟩)
 ·obtain ⟨c,e,h0,h1,q⟩:=q;rename_i z;have ea:z=⟨#[c]⟩:=by rw [<- aF z,e]
  subst ea;exact pA pins s σ H _ us Q I r ⟨_,_,rfl,rd c h0 h1,(by decide:1<=640),q⟩
 ·exact q.elim
noncomputable def kSl (K:Frag):V->Option Int->Option Int->Hp->VK->Prop:=fun x lo hi H Q=>match x with
 | .str z=>match lo,hi with
  | none,some j=>z.cps.toList.length<=100000/\0<=j/\j<=z.cps.toList.length/\Q (.str (st (z.cps.toList.take j.toNat))) H
  | some i,none=>z.cps.toList.length<=100000/\0<=i/\i<=z.cps.toList.length/\Q (.str (st (z.cps.toList.drop i.toNat))) H
  | _,_=>False
 | .ref a=>∃ xs,SqL K H a xs/\∀ p,H p=none->Q (.ref p) (upd H p (.lst (cutV xs lo hi)))
 | _=>False
theorem Bk:SlR X (kSl X.K):=by
 refine (SlR.or o8 xL).imp fun x lo hi H Q q=>?_
 unfold kSl at q;split at q
 ·rename_i z;split at q
  ·obtain ⟨h,h0,h1,q⟩:=q;rename_i j;obtain ⟨k,rfl⟩:∃ k:Nat,j=k:=⟨j.toNat,by omega⟩;refine .inl ⟨z,rfl,by rw [strlen]; exact Nat.le_trans h big5,?_⟩;have e:=md z.cps.toList k (by omega);rw [aF] at e;rw [e];simpa using q
  ·obtain ⟨h,h0,h1,q⟩:=q;rename_i j;obtain ⟨k,rfl⟩:∃ k:Nat,j=k:=⟨j.toNat,by omega⟩;refine .inl ⟨z,rfl,by rw [strlen]; exact Nat.le_trans h big5,?_⟩;have e:=rJ z.cps.toList k (by omega);rw [aF] at e;rw [e];simpa using q
  ·exact q.elim
 ·obtain ⟨xs,h,q⟩:=q;exact .inr ⟨_,_,rfl,h,q⟩
 ·exact q.elim
noncomputable def kEqNil (K:Frag):R2:=fun x y H Q=>match x,y with
 | .ref a,.ref b=>∃ xs,SqL K H a xs/\SqL K H b []/\Q (.bl (decide (xs=[]))) H
 | _,_=>False
theorem AK (hu:X.A.units < cLine):OpR X (compareOp .Eq) (kEqNil X.K):=(uC hu).imp fun x y H Q q=>by
 unfold kEqNil at q;split at q
 ·obtain ⟨xs,h1,h2,q⟩:=q;exact ⟨_,_,_,rfl,rfl,h1,h2,q⟩
 ·exact q.elim
theorem hu1 {k:Nat} {A:Around} (hr:Room k A):A.units < cLine:=hr.units0
noncomputable def cNeg (ta:TE):TE:=fun σ H Q=>ta σ H fun x H1=>match x with
 | .int i=>Q (.int (-i)) H1
 | _=>False
theorem rG (ha:PE X a ta):PE X (.UnaryOp .USub a pos) (cNeg ta):=(Ba zY ha.mono).imp fun σ H Q q=>⟨_,q,fun v H1 z=>by
 split at z
 ·exact ⟨_,rfl,z⟩
 ·exact z.elim⟩
end
section
variable {X:Cx} {a b e:Expr} {ta tb te:TE} {pos p apos cpos:Pos}
theorem ixE (K:Frag) (h:X.K=K):IxR X (kIx K):=by subst h; exact Bl
theorem slE (K:Frag) (h:X.K=K):SlR X (kSl K):=by subst h; exact Bk
theorem lenE (K:Frag) (h:X.K=K):CallR X (.builtin "len") (kLen K):=by subst h; exact uz
theorem inE (K:Frag) (h:X.K=K):OpR X (compareOp .In) (kIn K false):=by subst h; exact AQ
theorem notinE (K:Frag) (h:X.K=K):OpR X (compareOp .NotIn) (kIn K true):=by subst h; exact uZ
theorem eqNilE (K:Frag) (h:X.K=K) (hu:X.A.units < cLine):OpR X (compareOp .Eq) (kEqNil K):=by subst h; exact AK hu
theorem joinE (K:Frag) (h:X.K=K) {j:Nat} {p1:Pos} (he:PE X e te) (hfew:((backTo cpos (starEach [e] X.env)).all (fun x=>!x.1) && (backToKw cpos (keywordEach [] X.env)).all (fun x=>x.1.isSome)
   && decide ([e].length+([]:List Keyword).length+(if ([]:List Keyword).isEmpty then 0 else 1) < 30))=true:=by rfl)
  (hline:(apos.endLine == cpos.line)=true:=by rfl) (hs:starEach [e] X.env=(false,eval e X.env)::starEach [] X.env:=by rfl) (hplain:(backTo cpos (starEach [] X.env)).any (·.1)=false:=by rfl)
  (hbase:attributeBase (.Constant (.str (Str.ofString "")) j p1) "join" X.env (eval (.Constant (.str (Str.ofString "")) j p1) X.env)=eval (.Constant (.str (Str.ofString "")) j p1) X.env:=by rfl):
  PE X (.Call (.Attribute (.Constant (.str (Str.ofString "")) j p1) "join" apos) [e] [] cpos) (cJoin1 K te):=by subst h; exact wm he hfew hline hs hplain hbase
theorem iterE (K:Frag) (h:X.K=K) {tg:Expr} (he:PE X e te):PI X tg e (cIter K te):=by subst h; exact x6 he
theorem zipE (K:Frag) (h:X.K=K) {elts:List Expr} {kk:Nat} {tpos:Pos} (hg:Gl X "zip") (hm:X.mg "zip" = none) (ha:PE X a ta) (hb:PE X b tb) (hs:starEach [a,b] X.env=[(false,eval a X.env),(false,eval b X.env)]:=by rfl) (hs2:starEach [b] X.env=[(false,eval b X.env)]:=by rfl):
  PI X (.Tuple elts kk tpos) (.Call (.Name "zip" p) [a,b] [] pos) (cZip K ta tb):=by subst h; exact zQ hg hm ha hb hs hs2
theorem tupE (K:Frag) (h:X.K=K) {es:List Expr} {k:Nat} {t:TGs} {n:Nat} (hc:X.calm=true) (hp:PGs X es t) (hn:(assignEach es X.env).length=n:=by rfl) (hst:(assignEach es X.env).findIdx? (·.1)=none:=by rfl):PG X (.Tuple es k pos) (gTup K n t):=by subst h; exact wW hc hp hn hst
end
section
variable {t u:TS} {te ta tb:TE} {tc:TT} {D:Ends} {σ:St} {H:Hp} {Q:VK} {R:Bool->Hp->Prop} {i:Nat} {v:V}
theorem Ae:cVar i σ H Q=(match σ[i]? with | some (some v)=>Q v H | _=>False):=rfl
theorem Bj:tC v σ H Q=Q v H:=rfl
theorem AX {r:R2}:tOp r ta tb σ H Q=ta σ H fun x H1=>tb σ H1 fun y H2=>r x y H2 Q:=rfl
theorem ya {a b:Int}:kAdd (.int a) (.int b) H Q=Q (.int (a+b)) H:=rfl
theorem zb {a b:List Nat}:kAdd (.str (st a)) (.str (st b)) H Q=(a.length+b.length<=100000/\Q (.str (st (a++b))) H):=rfl
theorem yl {a b:Addr}:kAdd (.ref a) (.ref b) H Q=∃ xs zs,H a=some (.lst xs)/\H b=some (.lst zs)/\xs.length+zs.length<=sizeLine/\∀ p,H p=none->Q (.ref p) (upd H p (.lst (xs++zs))):=rfl
theorem Bi {C:Int->Int->Prop} {g:Int->Int->V} {a b:Int}:kI C g (.int a) (.int b) H Q=(C a b/\Q (g a b) H):=rfl
theorem A3 {g:Int->Int->V} {a b:Int}:kI0 g (.int a) (.int b) H Q=Q (g a b) H:=rfl
theorem yT {a b:Int}:kMul (.int a) (.int b) H Q=(CMul a b/\Q (.int (a*b)) H):=rfl
theorem yA {c:Nat} {n:Int}:kMul (.str (st [c])) (.int n) H Q=(0<=n/\n<=10000/\Q (.str (st (List.replicate n.toNat c))) H):=by
 show (∃ d,[c]=[d]/\0<=n/\n<=10000/\Q (.str (st (List.replicate n.toNat d))) H)=_;refine propext ⟨?_,fun h=>⟨c,rfl,h⟩⟩;rintro ⟨d,e,h⟩;cases e;exact h
theorem v5 {n:Bool} {a b:Int}:kEq n (.int a) (.int b) H Q=Q (.bl (n ^^ decide (a=b))) H:=rfl
theorem wY {n:Bool} {a b:List Nat}:kEq n (.str (st a)) (.str (st b)) H Q=Q (.bl (n ^^ decide (a=b))) H:=rfl
theorem Ag {n:Bool} {a b:Bool}:kEq n (.bl a) (.bl b) H Q=Q (.bl (n ^^ decide (a=b))) H:=rfl
theorem zk {n:Bool} {b:Str}:kEq n .non (.str b) H Q=Q (.bl (n ^^ false)) H:=rfl
theorem yH {n:Bool} {b:Str}:kEq n (.str b) .non H Q=Q (.bl (n ^^ false)) H:=rfl
theorem yW {n:Bool}:kEq n .non .non H Q=Q (.bl (n ^^ true)) H:=rfl
theorem A4 {n:Bool} {x:V}:kIs n x .non H Q=Q (.bl (n ^^ decide (x=.non))) H:=rfl
theorem AG {K:Frag} {n:Bool} {c:Nat} {b:List Nat}:kIn K n (.str (st [c])) (.str (st b)) H Q=Q (.bl (n ^^ decide (c ∈ b))) H:=by
 show (∃ d,[c]=[d]/\Q (.bl (n ^^ decide (d ∈ b))) H)=_;refine propext ⟨?_,fun h=>⟨c,rfl,h⟩⟩;rintro ⟨d,e,h⟩;cases e;exact h
theorem Au {K:Frag} {n:Bool} {x:V} {p:Addr}:kIn K n x (.ref p) H Q=∃ xs,(SqL K H p xs\/SqT K H p xs)/\flatV x=true/\xs.all flatV=true/\Q (.bl (n ^^ inV x xs)) H:=by
 cases x <;> rfl
theorem Az {K:Frag} {l:List Nat} {j:Int}:kIx K (.str (st l)) (.int j) H Q=(l.length<=100000/\∃ c,atI l j=some c/\Q (.str (st [c])) H):=rfl
theorem AA {K:Frag} {p:Addr} {j:Int}:kIx K (.ref p) (.int j) H Q=∃ xs v,(SqL K H p xs\/SqT K H p xs)/\atI xs j=some v/\Q v H:=rfl
theorem y0 {K:Frag} {l:List Nat}:kLen K [.str (st l)] H Q=(l.length<=100000/\Q (.int l.length) H):=rfl
theorem yf {K:Frag} {p:Addr}:kLen K [.ref p] H Q=∃ ys,(SqL K H p ys\/SqT K H p ys)/\Q (.int ys.length) H:=rfl
theorem yQ {a:Int}:kInt [.int a] H Q=Q (.int a) H:=rfl
theorem xS {a:Bool}:kInt [.bl a] H Q=Q (.int (if a then 1 else 0)) H:=rfl
theorem yr {c:Nat}:kInt [.str (st [c])] H Q=(48<=c/\c<=57/\Q (.int ((c - 48:Nat):Int)) H):=by
 show (∃ d:Nat,[c]=[d]/\48<=d/\d<=57/\Q (.int ((d - 48:Nat):Int)) H)=_;refine propext ⟨?_,fun h=>⟨c,rfl,h⟩⟩;rintro ⟨d,e,h⟩;cases e;exact h
theorem yZ {K:Frag} {l:List Nat} {j:Int}:kSl K (.str (st l)) none (some j) H Q=(l.length<=100000/\0<=j/\j<=l.length/\Q (.str (st (l.take j.toNat))) H):=rfl
theorem vm {K:Frag} {l:List Nat} {j:Int}:kSl K (.str (st l)) (some j) none H Q=(l.length<=100000/\0<=j/\j<=l.length/\Q (.str (st (l.drop j.toNat))) H):=rfl
theorem Ab {K:Frag} {p:Addr} {lo hi:Option Int}:kSl K (.ref p) lo hi H Q=∃ xs,SqL K H p xs/\∀ q,H q=none->Q (.ref q) (upd H q (.lst (cutV xs lo hi))):=rfl
theorem A8 {r:V->Option Int->Option Int->Hp->VK->Prop} {tl th:TO}:tSl r te tl th σ H Q=te σ H fun x H1=>tl σ H1 fun l H2=>th σ H2 fun u H3=>r x l u H3 Q:=rfl
theorem uK {Q:Option Int->Hp->Prop}:tNoPart σ H Q=Q none H:=rfl
noncomputable def cPart (t:TE):TO:=fun σ H Q=>t σ H fun x H1=>match x with | .int i=>Q (some i) H1 | _=>False
theorem ym {Q:Option Int->Hp->Prop}:cPart te σ H Q=te σ H fun x H1=>match x with | .int i=>Q (some i) H1 | _=>False:=rfl
theorem AS:cNeg ta σ H Q=ta σ H fun x H1=>match x with | .int i=>Q (.int (-i)) H1 | _=>False:=rfl
theorem wU {K:Frag} {a b:Addr}:kEqNil K (.ref a) (.ref b) H Q=∃ xs,SqL K H a xs/\SqL K H b []/\Q (.bl (decide (xs=[]))) H:=rfl
theorem AR {n:Ty}:cIsI n ta σ H Q=ta σ H fun x H1=>match x with
 | .non=>Q (.bl false) H1
 | .bl _=>Q (.bl n.isBl) H1
 | .int _=>Q (.bl n.isInt) H1
 | .str _=>Q (.bl n.isStr) H1
 | .ref p=>((∃ xs,H1 p=some (.lst xs))/\Q (.bl n.isLst) H1)\/((∃ xs,H1 p=some (.tup xs))/\Q (.bl n.isTup) H1)
 | _=>False:=rfl
theorem yX:cTest te σ H R=te σ H (blK R):=rfl
theorem Bh {b:Bool}:blK R (.bl b) H=R b H:=rfl
theorem yK:cAndV ta tb σ H Q=ta σ H (blK fun c H1=>if c=true then tb σ H1 Q else Q (.bl false) H1):=rfl
theorem zR:cOrV ta tb σ H Q=ta σ H (blK fun c H1=>if c=true then Q (.bl true) H1 else tb σ H1 Q):=rfl
theorem AH {t u:TT}:tAnd t u σ H R=t σ H fun c H1=>if c=true then u σ H1 R else R false H1:=rfl
theorem A9 {t u:TT}:tOr t u σ H R=t σ H fun c H1=>if c=true then R true H1 else u σ H1 R:=rfl
theorem Ax {t:TT}:tNot t σ H R=t σ H fun c H1=>R (!c) H1:=rfl
theorem AM:tYes σ H R=R true H:=rfl
theorem A7:tIf tc ta tb σ H Q=tc σ H fun c H1=>if c=true then ta σ H1 Q else tb σ H1 Q:=rfl
theorem Af:cApp ta te σ H Q=ta σ H fun x H1=>match x with
 | .ref l=>(∃ xs,H1 l=some (.lst xs))/\te σ H1 fun y H2=>∃ xs,H2 l=some (.lst xs)/\xs.length < sizeLine/\Q .non (upd H2 l (.lst (xs++[y])))
 | _=>False:=rfl
theorem xc {K:Frag}:cJoin1 K te σ H Q=te σ H fun x H1=>match x with
 | .ref l=>∃ cs:List Nat,SqL K H1 l (cs.map fun k=>V.str (st [k]))/\cs.length<=10000/\Q (.str (st cs)) H1
 | _=>False:=rfl
theorem AU {R:List V->Hp->Prop}:tNil σ H R=R [] H:=rfl
theorem zh {t:TA} {R:List V->Hp->Prop}:tCons ta t σ H R=ta σ H fun x H1=>t σ H1 fun xs H2=>R (x::xs) H2:=rfl
theorem xX {sp:Sp} {E:XK} {t:TA}:tCall sp [] E t σ H Q=t σ H fun vs H1=>sp vs H1 Q E:=by
 unfold tCall;simp only [List.append_nil]
theorem A2 {r:List V->Hp->VK->Prop} {t:TA}:tCB r t σ H Q=t σ H fun vs H1=>r vs H1 Q:=rfl
theorem zC {t:TA}:tLst t σ H Q=t σ H fun xs H1=>xs.length<=sizeLine/\∀ p,H1 p=none->Q (.ref p) (upd H1 p (.lst xs)):=rfl
theorem Ah {t:TA}:tTup t σ H Q=t σ H fun xs H1=>xs.length<=sizeLine/\∀ p,H1 p=none->Q (.ref p) (upd H1 p (.tup xs)):=rfl
theorem yL:tNext D σ H=D.nx σ H:=rfl
theorem zx:tSeq t u D σ H=t { D with nx:=u D } σ H:=rfl
theorem yj:tDrop te D σ H=te σ H fun _ H1=>D.nx σ H1:=rfl
theorem At:tRet te D σ H=te σ H D.rt:=rfl
theorem xI:tRetN D σ H=D.rt .non H:=rfl
theorem AF:tIfS tc t u D σ H=tc σ H fun b H1=>if b=true then t D σ H1 else u D σ H1:=rfl
theorem zF {g:TG}:tAsg te g D σ H=te σ H fun x H1=>g x σ H1 D.nx:=rfl
theorem yq {R:St->Hp->Prop}:gName i v σ H R=R (σ.set i (some v)) H:=rfl
theorem yD:tJoin t u D σ H=∃ J:St->Hp->Prop,t { D with nx:=J } σ H/\∀ σ' H',J σ' H'->u D σ' H':=rfl
theorem zP {wi:TI} {g:TG}:cFor wi g t D σ H=wi σ H fun J H1=>loopW J g t D σ H1:=rfl
theorem xZ {K:Frag} {R:It->Hp->Prop}:cIter K te σ H R=te σ H fun x H1=>match x with
 | .str z=>R (Its z) H1
 | .ref a=>((∃ xs,SqL K H1 a xs)/\R (Itl K a) H1)\/((∃ xs,SqT K H1 a xs)/\R (Itt K a) H1)
 | _=>False:=rfl
theorem zi {R:It->Hp->Prop}:cRng1 te σ H R=te σ H fun x H1=>match x with
 | .int j=>-1000000<=j/\j<=1000000/\R (Itr 0 j.toNat) H1
 | _=>False:=rfl
theorem AB {K:Frag} {R:It->Hp->Prop}:cZip K ta tb σ H R=ta σ H fun x H1=>tb σ H1 fun y H2=>srcK K H2 x fun S1=>srcK K H2 y fun S2=>R (Itz K S1 S2) H2:=rfl
theorem x4 {K:Frag} {z:Str} {R:Src->Prop}:srcK K H (.str z) R=R (.str z):=rfl
theorem yI {K:Frag} {p:Addr} {R:Src->Prop}:srcK K H (.ref p) R=((∃ xs,SqL K H p xs)/\R (.lst p)):=rfl
theorem xD {nt:Nat} {fi:List Nat} {wi:TI} {g:TG}:cComp nt fi wi g tc te σ H Q=wi σ H fun J H1=>∀ D,H1 D=none->compW J g tc te (compσ nt fi σ) D Q H1:=rfl
end
theorem Bd {CX:CXT} {P:Program} {w:World} {K:Frag} {mg:Str->Option Value} {base:Heap} {N:List Str} {qual:Str} {scope:Scope} {f:Addr} {cd:Value} {A:Around} {outer:List Env} {s:Shared} {H:Hp} {E:XK}:(cxOf CX P w K mg base N qual scope f cd A outer s H E).K=K:=rfl
theorem zL {X:Cx} {scope:Scope} {cl:List (Str × Addr)} {N':List Str} {C:Addr} {s:Shared} {H:Hp} {ex:List Addr}:(cxC X scope cl N' C s H ex).K=X.K:=rfl
theorem Be {a b:Nat}:(([a]:List Nat)=[b])=(a=b):=by simp
theorem bF {X:Cx} {e:Expr} {te:TE} (h:PE X e te):PO X (some e) (cPart te):=fun pins s σ H Q I q=>yC h.mono pins s σ H Q I ⟨_,q,fun v H1 z=>by
 split at z
 ·exact ⟨_,rfl,z⟩
 ·exact z.elim⟩
end L2
namespace Mir
open PySem L2
noncomputable def cell (ns:List Int) (k:Nat):Int:=(ns[k]?).getD 0
noncomputable def num (c:Int):Nat->Int
 | 0=>c % 2147483647+1
 | i+1=>(num c i*48271+7*(i:Int)*(i:Int)+3) % 2147483647
noncomputable def stream (c:Int) (n:Nat):List Int:=(List.range n).map fun i=>num c (i+1) / 16
noncomputable def bit (m:Int):Nat:=if m % 2=0 then 48 else 49
noncomputable def rowSign (l e:Int):Nat:=if e % l > 0 then 45 else bit (e / 64)
noncomputable def row (c:Int) (w:Nat) (l:Int):List Nat:=(stream c w).map (rowSign l)
def IsRow (r:List Nat):Prop:=∀ c ∈ r,c=48\/c=49\/c=45
def IsLet (r:List Nat):Prop:=∀ c ∈ r,c=48\/c=49
noncomputable def within (one other:List Nat):Bool:=(one.zip other).all fun p=>p.2 == 45 || p.2 == p.1
end Mir
namespace L2
open PySem PySem.Spec PyProof.Rows
section
variable {prog:Program} {w:World} {A:Around} {E:Value->Shared->Prop} {s:Shared}
theorem IsList.extBut' {h h':Heap} {a l:Addr} {items:Array Value} (hl:h.IsList l items) (he:Heap.ExtBut a h h') (hne:l≠a):h'.IsList l items:=by
 obtain ⟨o,ho,r⟩:=hl;exact ⟨o,he l o hne ho,r⟩
theorem qT {it t:Addr} {items:Array Value} (apart:t≠it):∀ (mid front back:List Value) (s:Shared) (Q:List Value->Shared->Prop),items.toList=front++(mid++back)->s.heap.IsListIter it t front.length->s.heap.IsList t items ->
  (∀ g:Heap,g.IsListIter it t (front.length+mid.length)->Heap.SameBut it s.heap g->Q mid { s with heap:=g })->wpAny (model prog w) A (draw (.ref it) mid.length) Q E s
 | [],front,_,s,Q,_,at0,_,k=>wpAny_pure (k s.heap at0 (Heap.SameBut.refl ..))
 | x::mid,front,back,s,Q,e,at0,il,k=>by
  have here:items[front.length]? = some x:=by
   rw [<- Array.getElem?_toList,e,List.getElem?_append_right (Nat.le_refl _),Nat.sub_self];rfl
  refine wpAny_bind (m:=pyNext (.ref it)) (wpAny_pyNext_list_item at0 il here fun g1 at1 t1=>?_);refine wpAny_bind (wpAny_holding (qT apart mid (front++[x]) back _ _ (by rw [e]; simp) (by rw [List.length_append]; exact at1) (IsList.extBut' il t1.extBut apart) fun g2 at2 t2=>wpAny_pure (k g2 ?_ (t1.trans t2))));have sum:(front++[x]).length+mid.length=front.length+(x::mid).length:=by
   simp only [List.length_append,List.length_cons,List.length_nil];omega
  rw [sum] at at2;exact at2
theorem ky {t:Addr} {items:Array Value} {Q:List Value->Shared->Prop} (hh:A.handled=none) (ht:s.heap.IsList t items)
  (k:∀ g,Heap.ExtBut s.heap.objs.size s.heap g->Q items.toList { s with heap:=g }):wpAny (model prog w) A (unpackItems (.ref t) items.size none) Q E s:=by
 have below:t≠s.heap.objs.size:=Nat.ne_of_lt (let ⟨_,q,_⟩:=ht; Heap.lt_size q);have still:(s.heap.push { cls:=.type "list_iterator",data:=.fields #[.ref t,.int 0 0] }).IsList t items:=let ⟨o,q,r⟩:=ht; ⟨o,Heap.get?_push_of_some _ q,r⟩
 unfold unpackItems notIterableAtAll;refine wpAny_bind (wpAny_bind (wpAny_specialOf ht.typeIs slot_list_iter.lookup (wpAny_pure ?_)));rw [if_neg (by decide)];refine wpAny_bind (wpAny_holding (wpAny_pyIter_list ht ?_));have whole:=qT (prog:=prog) (w:=w) (A:=A) (E:=E) (items:=items) below items.toList [] [] { s with heap:=s.heap.push { cls:=.type "list_iterator",data:=.fields #[.ref t,.int 0 0] } };rw [Array.length_toList] at whole;refine wpAny_bind (wpAny_holding (whole _ (by simp) ⟨_,Heap.get?_push_size _ rfl,rfl,rfl⟩ still fun g1 at1 t1=>?_));rw [if_neg (by simp)];refine wpAny_bind (wpAny_holding (wpAny_pyNext_list_end hh at1 (IsList.extBut' still t1.extBut below) (by simp) fun g2 t2=>?_));rw [if_neg (by simp)];exact wpAny_pure (k g2 fun b o nb q=>t2 b o nb (t1.extBut b o nb (Heap.get?_push_of_some _ q)))
theorem jE {env:Env} {elts:List Expr} {x1} {pos:Pos} {t:Addr} {items:Array Value} {Q:Unit->Shared->Prop} (hh:A.handled=none) (ht:s.heap.IsList t items)
  (hn:(assignEach elts env).length=items.size) (hstar:(assignEach elts env).findIdx? (·.1)=none)
  (h:∀ h',Heap.ExtBut s.heap.objs.size s.heap h'->wpAny (model prog w) A (assignInOrder ((assignEach elts env).map (·.2)) items.toList) Q E { s with heap:=h' }):
  wpAny (model prog w) A (assign (.Tuple elts x1 pos) env (.ref t)) Q E s:=by
 rw [assign_Tuple];refine wpAny_bind (wpAny_standAt ?_);unfold unpack;rw [hn,hstar];exact wpAny_bind (wpAny_holding (ky hh ht h))
end
section
variable {X:Cx} {pos:Pos}
noncomputable def gSeq (K:Frag) (n:Nat) (t:TGs):TG:=fun v σ H Q=>match v with
 | .ref a=>∃ xs,(SqL K H a xs\/SqT K H a xs)/\xs.length=n/\t xs σ H Q
 | _=>False
theorem seqE (K:Frag) (hK:X.K=K) {es:List Expr} {k:Nat} {t:TGs} {n:Nat} (hc:X.calm=true) (h:PGs X es t)
  (hn:(assignEach es X.env).length=n:=by rfl) (hst:(assignEach es X.env).findIdx? (·.1)=none:=by rfl):PG X (.Tuple es k pos) (gSeq K n t):=by
 subst hK;intro pins s σ H v u Q I r hw;unfold gSeq at hw;split at hw
 ·rename_i a;obtain ⟨xs,hq,hl,hw⟩:=hw;rcases hq with hq | hq
  ·cases r;obtain ⟨its,rv,ht,hz⟩:=I.list hq;refine jE (I.ok.hd hc) ht.isList (by simp [hn,<- hl,rv.length]) hst fun h' hx=>?_
   have I1:Inv X pins σ H { s with heap:=h' }:=I.kept (t':=s.toks) fun b o e=>hx b o (Nat.ne_of_lt (Heap.lt_size e)) e
   exact h pins _ σ H xs _ Q I1 (by simpa using rv) hw
  ·exact wW hc h hn hst pins s σ H _ u Q I r ⟨_,xs,rfl,hq,hl,hw⟩
 ·exact hw.elim
end
section
variable {t:TG} {u:TGs} {σ:St} {H:Hp} {Q:St->Hp->Prop} {v:V} {r:List V} {K:Frag} {n:Nat} {p:Addr}
theorem xM:gCons t u (v::r) σ H Q=t v σ H fun σ' H'=>u r σ' H' Q:=by
 refine propext ⟨?_,fun h=>⟨v,r,rfl,h⟩⟩;rintro ⟨v',r',e,h⟩;cases e;exact h
theorem Ay:gNil [] σ H Q=Q σ H:=propext ⟨fun h=>h.2,fun h=>⟨rfl,h⟩⟩
theorem zJ:gSeq K n u (.ref p) σ H Q=∃ xs,(SqL K H p xs\/SqT K H p xs)/\xs.length=n/\u xs σ H Q:=rfl
end
noncomputable def rep (c d:Nat) (l:List Nat):List Nat:=l.map fun k=>if k=c then d else k
section
variable {X:Cx} {o e:Expr} {to te:TE} {apos cpos p1 p2:Pos} {j1 j2:Nat}
end
section
variable {X:Cx} {a:Expr} {ta:TE} {p pos:Pos}
theorem pL:bootBuiltins "enumerate" = some (.type "enumerate"):=by decide +kernel
end
section
variable {X:Cx}
noncomputable def kSum (K:Frag):List V->Hp->VK->Prop:=fun xs H Q=>match xs with
 | [.ref p]=>∃ ns:List Int,SqL K H p (ns.map V.int)/\Q (.int ns.sum) H
 | _=>False
theorem kr (K:Frag) (hK:X.K=K) (hc:X.calm=true):CallR X (.builtin "sum") (kSum K):=by
 subst hK;intro pins s σ H xs us Q I r q;unfold kSum at q;split at q
 ·obtain ⟨ns,hq,q⟩:=q;obtain ⟨u,rfl,ru⟩:=vals1 r;cases ru;obtain ⟨its,rv,pl,_⟩:=I.list hq;have hi:=m8 rv;obtain ⟨xs,e⟩:=hi.allInts.items;have hn:=hi.numsOf;refine tokQ I.tk (sum_intListG (I.ok.hd hc) (xs:=xs) (by rw [<- e]; exact pl.isList) fun h' tk t' kp (htk:0 < tk)=>?_);have e2:preSum (numAt xs) xs.size=ns.sum:=by
   rw [preSum_eq,List.take_of_length_le (by simp),<- nums_intItems,<- e];show (numsOf its).sum=ns.sum;rw [hn]
  rw [e2];exact ⟨.int ns.sum,H,I.kept kp,⟨_,rfl⟩,q⟩
 ·exact q.elim
theorem zE {K:Frag} {p:Addr} {H:Hp} {Q:VK}:kSum K [.ref p] H Q=∃ ns:List Int,SqL K H p (ns.map V.int)/\Q (.int ns.sum) H:=rfl
end
theorem sC (t:SetTable) (es:Array (Int × Value)) (h:Int) (x:Value):(layNew t es h x).2.1.led=t.led/\(t.plain=false->(layNew t es h x).2.1.plain=false):=by
 unfold layNew;split
 ·rename_i slot wd e;show ((t.put slot).1.orStandIn _).led=_/\(_->((t.put slot).1.orStandIn _).plain=false);unfold SetTable.orStandIn;split
  ·exact ⟨rfl,fun q=>q⟩
  ·exact ⟨rfl,fun _=>rfl⟩
 ·exact ⟨rfl,fun _=>rfl⟩
theorem v9 {mask finger moves:Nat} {led plain:Bool} {hs:Array Int} {r:SetTable × Array Nat} (h:SetTable.laid mask finger moves led plain hs=some r):r.1.led=led/\r.1.plain=plain:=by
 unfold SetTable.laid at h;cases q:SetTable.layClean mask hs with
 | none=>rw [q] at h; cases h
 | some ow=>
  rw [q] at h;cases h;exact ⟨rfl,rfl⟩
theorem oN (t:SetTable) (es:Array (Int × Value)) (n:Nat):(relayAll t es n).2.1.led=t.led/\(t.plain=false->(relayAll t es n).2.1.plain=false):=by
 unfold relayAll;split
 ·rename_i t' order e;have q:=v9 e;dsimp only;split
  ·exact ⟨q.1,fun z=>q.2.trans z⟩
  ·exact ⟨rfl,fun _=>rfl⟩
 ·exact ⟨rfl,fun _=>rfl⟩
section
variable {prog:Program} {w:World} {A:Around} {E:Value->Shared->Prop} {s:Shared}
noncomputable def addT (ss:List Str) (x:Str):List Str:=if x ∈ ss then ss else ss++[x]
theorem lO {a:Addr} {es es':Array (Int × Value)} {ep:Nat} {t t':SetTable} (ho:s.heap.get? a=some { cls:=.type "set",dict:=none,data:=.set es ep t,slots:=#[] }):
  (s.heap.update a (Obj.putSet es' t')).get? a=some { cls:=.type "set",dict:=none,data:=.set es' (ep+1) t',slots:=#[] }:=
 Heap.get?_update_self (Obj.putSet es' t') ho rfl
end
noncomputable def dd (l:List Str):List Str:=l.foldl addT []
section
variable {prog:Program} {w:World} {A:Around} {R:Result->Shared->Prop} {I:Addr} {fp wr:List Addr} {G:Array GenState->Array GenState->Prop} {n:Nat} {P:Nat->Value->Prop} {St:Nat->Shared->Prop}
end
noncomputable abbrev ledW (w:World):Bool:=!w.params.followText "set-order"
noncomputable abbrev setObj0 (w:World):Obj:={ cls:=.type "set",dict:=none,data:=.set #[] 0 (.fresh 0 0 (ledW w)) }
section
variable {prog:Program} {w:World} {A:Around} {E:Value->Shared->Prop} {s:Shared}
theorem uG (a:Value) {Q:Value->Shared->Prop} (h:Q (.ref s.heap.objs.size) { s with heap:=s.heap.push (setObj0 w) }):
  codeAny (model prog w) A (.call (.builtin "set.__new__") ⟨[.type "set",a],[]⟩) (wants Q E) s:=by
 refine codeAny_of_tree ?_;show wpAny _ A.in1 (checkBuiltinCall "set.__new__" ⟨[.type "set",a],[]⟩>>=fun _=>again (.builtin "set.__new__" ⟨[.type "set",a],[]⟩)) _ _ s;refine wpAny_bind (wpAny_of_eq (PySem.F.newCall_set_1 a) (wpAny_pure ⟨plainId_quiet PySem.F.plain_set_new _,codeAny_builtin PySem.F.entry_set_new ?_⟩));rw [Around.under_plainId PySem.F.plain_set_new _];unfold Builtin.«set.__new__» Builtin.Frozenset.newClass;have sb:=sub_set_self;obtain ⟨hp,g,d,tk,os⟩:=s;dsimp only
 wp_walk
 refine wpAny_askSetting (wpAny_pure ?_);dsimp only;simp only [newObj];exact wpAny_bind (wpAny_alloc (wpAny_pure (wpAny_pure h)))
theorem nN {v:Value} {Q:Value->Shared->Prop}
  (h:∀ A₁:Around,A₁.handled=A.handled->codeAny (model prog w) A₁ (.call (.builtin "set.__new__") ⟨[.type "set",v],[]⟩)
   (wants (fun made s₁=>(∃ b,made=.ref b)/\s₁.TypeIs made "set" /\ ∀ A₂:Around,A₂.handled=A.handled->codeAny (model prog w) A₂ (.call (.builtin "set.__init__") ⟨[made,v],[]⟩) (wants (fun r s₂=>r=.none/\Q made s₂) E) s₁) E) s):
  wpAny (model prog w) A (call (.type "set") [v]) Q E s:=by
 have C:=PySem.F.called_set;obtain ⟨_,_,hmro⟩:=C.mro;have k1:=C.made;have k2:=C.sub;have k3:=C.notType;have k4:=C.canCreate;have k5:=PySem.F.typeCall_set_1 v;apply wpAny_call;apply codeAny_of_tree;change wpAny _ _ (callAny (.type "set") _) _ _ _;apply wpAny_pure;refine ⟨Code.quiet_builtin _ (by decide +kernel),?_⟩;apply codeAny_builtin PySem.F.entry_type_call;rw [Around.under_plain (weight_type_call_type "set" [v] []) rfl]
 repeat (any_goals (first | assumption | wp_step))
 refine codeAny_mono (h A.in1 rfl) ?_;intro r₁ s₁ g₁
 match r₁,g₁ with
 | .error _,g₁=>exact g₁
 | .ok (.ret made),⟨⟨b,eb⟩,hT,g⟩=>
  subst eb;have k6:=C.init.lookup;have k7:=C.init.bind (.ref b)
  repeat (any_goals (first | assumption | wp_step))
  refine codeAny_mono (g A.in1 rfl) ?_;intro r₂ s₂ g₂
  match r₂,g₂ with
  | .error _,g₂=>exact g₂
  | .ok (.ret _),⟨e,q⟩=>
   subst e
   repeat (any_goals (first | assumption | wp_step))
end
theorem bI:Slot "set_iterator" "__next__" "set_iterator.__next__":=
 .of (owner := "set_iterator") (n := "__next__") (by rw [typeLookup_type,builtinLookup_eq_fast]; kernel_rfl) (by decide +kernel) (by decide +kernel) (by decide +kernel) (by first | exact .inl (by decide +kernel) | exact .inr (by decide +kernel)) (by rw [isSubtype_type]; kernel_rfl)
theorem kd:entryFor table "set_iterator.__next__" = some Builtin.«set_iterator.__next__»:=entryFor_of_tree (by kernel_rfl)
theorem ly (a:Value):argsOk "set_iterator.__next__" ⟨[a],[]⟩:=by unfold argsOk; kernel_rfl
theorem gN:Slot "set_iterator" "__iter__" "set_iterator.__iter__":=
 .of (owner := "set_iterator") (n := "__iter__") (by rw [typeLookup_type,builtinLookup_eq_fast]; kernel_rfl) (by decide +kernel) (by decide +kernel) (by decide +kernel) (by first | exact .inl (by decide +kernel) | exact .inr (by decide +kernel)) (by rw [isSubtype_type]; kernel_rfl)
theorem mr:entryFor table "set.__iter__" = some Builtin.«frozenset.__iter__»:=
 entryFor_alias (id' := "frozenset.__iter__") (by kernel_rfl) rfl (by decide +kernel) (by kernel_rfl)
theorem i6 {α:Type}:∀ {l:List α} {i:Nat} (hi:i < l.length),(l[i]::l.eraseIdx i).Perm l
 | _::_,0,_=>List.Perm.refl _
 | x::l,i+1,hi=>by
  have:=i6 (l:=l) (i:=i) (Nat.lt_of_succ_lt_succ hi);simp only [List.getElem_cons_succ,List.eraseIdx_cons_succ];exact (List.Perm.swap x _ _).trans (List.Perm.cons x this)
section
variable {M:Model} {A:Around} {E:Value->Shared->Prop}
theorem sX {src:Source} {n:Nat} {s:Shared} {Q:Nat->Shared->Prop} (hn:n≠0) (h:∀ i d,i < n->Q i { s with drawn:=d }):wpAny M A (choose src n) Q E s:=fun Γ p _=>by
 unfold choose;rw [Sem.wp_choose];exact ⟨hn,h _ _ (Nat.mod_lt _ (Nat.pos_of_ne_zero hn))⟩
theorem rT {α:Type}:∀ (n:Nat) (xs:List α) (s:Shared) (Q:List α -> Shared->Prop),xs.length=n->(∀ ys d,ys.Perm xs->Q ys { s with drawn:=d })->wpAny M A (drawOrder n xs) Q E s:=by
 intro n
 induction n with
 | zero=>
  intro xs s Q hl h;rw [List.length_eq_zero_iff] at hl;subst hl;exact wpAny_pure (h [] s.drawn (List.Perm.refl _))
 | succ n ih=>
  intro xs s Q hl h;obtain ⟨x,xs,rfl⟩:=List.exists_cons_of_length_eq_add_one hl;unfold drawOrder;refine wpAny_bind (sX (by simp) fun i d hi=>?_);have hg:(x::xs)[i]? = some (x::xs)[i]:=List.getElem?_eq_getElem hi;rw [hg];refine wpAny_bind (ih _ _ _ ?_ fun ys d' hp=>wpAny_pure (h _ d' ?_))
  ·rw [List.length_eraseIdx_of_lt hi];simpa using hl
  ·exact (List.Perm.cons _ hp).trans (i6 hi)
end
theorem tT {α:Type} (f:Nat->Nat):∀ (n k:Nat) (l:List α) (out:Array α),l.length=n->(pickOrder.go f n k l out).toList.Perm (out.toList++l)
 | 0,_,[],out,_=>by simp [pickOrder.go]
 | n+1,k,x::l,out,hl=>by
  unfold pickOrder.go;have hi:f k % (x::l).length < (x::l).length:=Nat.mod_lt _ (by simp);rw [List.getElem?_eq_getElem hi];refine (tT f n (k+1) _ _ ?_).trans ?_
  ·rw [List.length_eraseIdx_of_lt hi];simpa using hl
  ·rw [Array.toList_push,List.append_assoc];exact List.Perm.append_left _ (i6 hi)
theorem km {α:Type} (f:Nat->Nat) (xs:Array α):(pickOrder f xs).toList.Perm xs.toList:=by
 unfold pickOrder;exact (tT f xs.size 0 xs.toList #[] (by simp)).trans (by simp)
section
variable {prog:Program} {w:World} {A:Around} {E:Value->Shared->Prop} {s:Shared}
theorem i4 {α:Type} {Q:α -> Shared->Prop} (hh:A.handled=none)
  (h:∀ h' e,(∀ b o,s.heap.get? b=some o->h'.get? b=some o)->(∃ o,h'.get? e=some o/\o.cls=.type "StopIteration")->E (.ref e) { s with heap:=h' }):
  wpAny (model prog w) A (newExc (.type "StopIteration") []>>=fun e=>(raiseNew e:Sem α)) Q E s:=by
 refine wpAny_bind ?_;simp only [newExc,newTuple];refine wpAny_bind (wpAny_newObj_type ?_ (by size_fits));refine wpAny_bind (m:=firstArgMember _ _) (wpAny_of_eq (a:=Value.none) (by first | rfl | (simp only [firstArgMember]; rfl)) ?_);refine wpAny_newObj_type ?_ (by size_fits);simp only [raiseNew];refine wpAny_bind (wpAny_handled ?_);rw [hh];exact wpAny_bind (wpAny_pure (wpAny_throw (h _ _ (fun b o e=>Heap.get?_push_of_some _ (Heap.get?_push_of_some _ e)) ⟨_,Heap.get?_push_size _ rfl,rfl⟩)))
noncomputable abbrev itObj (first:Value) (i:Nat) (a:Addr) (n ep:Nat):Obj:={ cls:=.type "set_iterator",dict:=none,data:=.fields #[first,.int i 0,.ref a,.int n 0,.int ep 0],slots:=#[] }
noncomputable abbrev setObj (es:Array (Int × Value)) (ep:Nat) (t:SetTable):Obj:={ cls:=.type "set",dict:=none,data:=.set es ep t,slots:=#[] }
theorem gy {it:Addr} {o:Obj} {Q:Option Value->Shared->Prop} (hz:s.heap.get? it=some o) (hc:o.cls=.type "set_iterator")
  (h:wpAny (model prog w) A.in1 (Builtin.«set_iterator.__next__» ⟨[.ref it],[]⟩) (fun fin s'=>∃ v,fin=.done (.ret v)/\Q (some v) s')
   (fun e s'=>∃ a,e=.ref a/\(∃ o,s'.heap.get? a=some o/\o.cls=.type "StopIteration")/\Q none s') s):wpAny (model prog w) A (pyNext (.ref it)) Q E s:=by
 have hT:s.TypeIs (.ref it) "set_iterator" := ⟨_,hz,hc⟩;unfold pyNext;refine wpAny_bind (wpAny_attempt (wpAny_callSpecial?_slot (name:=Str.ofString "__next__") hT bI
  (wpAny_call_entry bI hT kd (wpAny_mono h (fun fin s' ⟨v,e,q⟩=>⟨v,e,wpAny_pure q⟩) fun e s' he=>?_) (ly _))))
 obtain ⟨a,rfl,⟨o,ho,hc⟩,q⟩:=he;exact wpAny_bind (wpAny_isInstance (T := "StopIteration") (b:=true) ⟨o,ho,hc⟩ isSubtype_stop (wpAny_pure q))
end
section
variable {prog:Program} {w:World} {A:Around} {E:Value->Shared->Prop} {s:Shared} {it a:Addr} {es:Array (Int × Value)} {n ep i:Nat} {t:SetTable}
theorem iP {slot nx:Nat} {x:Value} {Q:Option Value->Shared->Prop} (hit:s.heap.get? it=some (itObj (.int slot 0) i a n ep)) (ha:s.heap.get? a=some (setObj es ep t)) (hf:t.fits es.size=true) (hz:es.size=n)
  (hn:∀ (E':Value->Shared->Prop) (Q':Option (Value × Nat)->Shared->Prop),Q' (some (x,nx)) s->wpAny (model prog w) A.in1 (setNext a slot i ep) Q' E' s)
  (hQ:∀ h',h'.get? it=some (itObj (.int nx 0) (i+1) a n ep)->Heap.SameBut it s.heap h'->Q (some x) { s with heap:=h' }):wpAny (model prog w) A (pyNext (.ref it)) Q E s:=by
 refine gy hit rfl ?_;unfold Builtin.«set_iterator.__next__» slotArgs;simp -iota only [List.isEmpty_nil,Bool.not_true,Bool.false_eq_true,↓reduceIte,bind_assoc,List.length_nil,bne_self_eq_false];refine wpAny_bind (wpAny_pure ?_);dsimp only;refine wpAny_bind (wpAny_fieldsOf hit rfl ?_);dsimp only;refine wpAny_bind (wpAny_setEntries_of ha rfl hf ?_);rw [show ((es.size:Int) != (n:Int))=false by simp [hz]];simp -iota only [Bool.false_eq_true,↓reduceIte];refine wpAny_bind (hn _ _ ?_);dsimp only;refine wpAny_bind (wpAny_setField_rec hit (by simp) fun h1 g1 s1=>?_);refine wpAny_bind (wpAny_setField_rec (s:={ s with heap:=h1 }) g1 (by simp) fun h2 g2 s2=>?_);refine wpAny_pure ⟨x,rfl,hQ h2 ?_ (s1.trans s2)⟩;rw [g2];simp [rawInt]
theorem jL {slot:Nat} {Q:Option Value->Shared->Prop} (hh:A.handled=none) (hit:s.heap.get? it=some (itObj (.int slot 0) i a n ep)) (ha:s.heap.get? a=some (setObj es ep t)) (hf:t.fits es.size=true) (hz:es.size=n)
  (hn:∀ (E':Value->Shared->Prop) (Q':Option (Value × Nat)->Shared->Prop),Q' none s->wpAny (model prog w) A.in1 (setNext a slot i ep) Q' E' s)
  (hQ:∀ h',Heap.ExtBut it s.heap h'->Q none { s with heap:=h' }):wpAny (model prog w) A (pyNext (.ref it)) Q E s:=by
 refine gy hit rfl ?_;unfold Builtin.«set_iterator.__next__» slotArgs;simp -iota only [List.isEmpty_nil,Bool.not_true,Bool.false_eq_true,↓reduceIte,bind_assoc,List.length_nil,bne_self_eq_false];refine wpAny_bind (wpAny_pure ?_);dsimp only;refine wpAny_bind (wpAny_fieldsOf hit rfl ?_);dsimp only;refine wpAny_bind (wpAny_setEntries_of ha rfl hf ?_);rw [show ((es.size:Int) != (n:Int))=false by simp [hz]];simp -iota only [Bool.false_eq_true,↓reduceIte];refine wpAny_bind (hn _ _ ?_);dsimp only;refine wpAny_bind (wpAny_setField_rec hit (by simp) fun h1 g1 s1=>?_);exact i4 (A:=A.in1) (s:={ s with heap:=h1 }) hh fun h2 e k c=>⟨e,rfl,c,hQ h2 fun b o nb q=>k b o (s1.extBut b o nb q)⟩
theorem nZ {T:Addr} {ps:Array Value} {p:Nat} {x:Value} {Q:Option Value->Shared->Prop} (hit:s.heap.get? it=some (itObj (.ref T) i a n ep)) (ha:s.heap.get? a=some (setObj es ep t)) (hf:t.fits es.size=true) (hz:es.size=n)
  (hT:s.heap.get? T=some (seqObj "tuple" ps 0)) (hp:ps[i]? = some (.int p 0)) (hx:es[p]?.map (·.2)=some x)
  (hQ:∀ h',h'.get? it=some (itObj (.ref T) (i+1) a n ep)->Heap.SameBut it s.heap h'->Q (some x) { s with heap:=h' }):wpAny (model prog w) A (pyNext (.ref it)) Q E s:=by
 refine gy hit rfl ?_;unfold Builtin.«set_iterator.__next__» slotArgs;simp -iota only [List.isEmpty_nil,Bool.not_true,Bool.false_eq_true,↓reduceIte,bind_assoc,List.length_nil,bne_self_eq_false];refine wpAny_bind (wpAny_pure ?_);dsimp only;refine wpAny_bind (wpAny_fieldsOf hit rfl ?_);dsimp only;refine wpAny_bind (wpAny_setEntries_of ha rfl hf ?_);rw [show ((es.size:Int) != (n:Int))=false by simp [hz]];simp -iota only [Bool.false_eq_true,↓reduceIte];refine wpAny_bind (wpAny_seqItems hT rfl ?_);dsimp only;rw [Int.toNat_natCast,hp];dsimp only;refine wpAny_bind ?_;unfold setNextDrawn;refine wpAny_bind (wpAny_setState_of ha rfl hf ?_);dsimp only;rw [Int.toNat_natCast,Int.toNat_natCast];simp only [bne_self_eq_false,Bool.false_eq_true,↓reduceIte];cases he:es[p]? with
 | none=>rw [he] at hx; cases hx
 | some e=>
  rw [he] at hx;obtain ⟨h0,y⟩:=e;cases hx;refine wpAny_pure ?_;refine wpAny_bind (wpAny_setField_rec hit (by simp) fun h1 g1 s1=>?_);refine wpAny_pure ⟨y,rfl,hQ h1 ?_ s1⟩;rw [g1];simp [rawInt]
theorem pD {T:Addr} {ps:Array Value} {Q:Option Value->Shared->Prop} (hh:A.handled=none) (hit:s.heap.get? it=some (itObj (.ref T) i a n ep)) (ha:s.heap.get? a=some (setObj es ep t)) (hf:t.fits es.size=true) (hz:es.size=n)
  (hT:s.heap.get? T=some (seqObj "tuple" ps 0)) (hp:ps[i]? = none)
  (hQ:∀ h',Heap.ExtBut it s.heap h'->Q none { s with heap:=h' }):wpAny (model prog w) A (pyNext (.ref it)) Q E s:=by
 refine gy hit rfl ?_;unfold Builtin.«set_iterator.__next__» slotArgs;simp -iota only [List.isEmpty_nil,Bool.not_true,Bool.false_eq_true,↓reduceIte,bind_assoc,List.length_nil,bne_self_eq_false];refine wpAny_bind (wpAny_pure ?_);dsimp only;refine wpAny_bind (wpAny_fieldsOf hit rfl ?_);dsimp only;refine wpAny_bind (wpAny_setEntries_of ha rfl hf ?_);rw [show ((es.size:Int) != (n:Int))=false by simp [hz]];simp -iota only [Bool.false_eq_true,↓reduceIte];refine wpAny_bind (wpAny_seqItems hT rfl ?_);dsimp only;rw [Int.toNat_natCast,hp];dsimp only;refine wpAny_bind (wpAny_setField_rec hit (by simp) fun h1 g1 s1=>?_);refine wpAny_bind (wpAny_setField_rec (s:={ s with heap:=h1 }) g1 (by simp) fun h2 g2 s2=>?_);exact i4 (A:=A.in1) (s:={ s with heap:=h2 }) hh fun h3 e k c=>⟨e,rfl,c,hQ h3 fun b o nb q=>k b o (s2.extBut b o nb (s1.extBut b o nb q))⟩
end
section
variable {prog:Program} {w:World} {A:Around} {E:Value->Shared->Prop} {s:Shared} {it a:Addr} {es:Array (Int × Value)} {n ep i:Nat} {t:SetTable}
theorem lR {Q:Bool->Shared->Prop} (h:Q (w.params.followText "set-order") s):wpAny (model prog w) A setsByText Q E s:=by
 unfold setsByText;exact wpAny_bind (wpAny_askSetting (wpAny_pure h))
theorem jB {slot:Nat} {Q:Option (Value × Nat)->Shared->Prop} (hb:w.params.followText "set-order" = true) (ha:s.heap.get? a=some (setObj es ep t)) (hf:t.fits es.size=true)
  (h:Q (((pickOrder (w.params.setOrder a ep) es)[i]?).map fun e=>(e.2,slot)) s):wpAny (model prog w) A (setNext a slot i ep) Q E s:=by
 unfold setNext;refine wpAny_bind (wpAny_setState_of ha rfl hf ?_);dsimp only;refine wpAny_bind (lR ?_);rw [hb,if_pos rfl];simp only [bne_self_eq_false,Bool.false_eq_true,↓reduceIte];unfold setWalk;refine wpAny_bind (wpAny_bind (wpAny_setState_of ha rfl hf ?_));dsimp only;refine wpAny_bind (lR ?_);rw [hb,if_pos rfl];refine wpAny_bind (wpAny_askSetting ?_);exact wpAny_pure (wpAny_pure h)
theorem kG:entryFor table "set_iterator.__iter__" = some Builtin.«dict_keyiterator.__iter__»:=
 entryFor_alias (id' := "dict_keyiterator.__iter__") (by kernel_rfl) rfl (by decide +kernel) (by kernel_rfl)
theorem lG (a:Value):argsOk "set_iterator.__iter__" ⟨[a],[]⟩:=by unfold argsOk; kernel_rfl
theorem jt {Q:Value->Shared->Prop} (hT:s.TypeIs (.ref it) "set_iterator") (h:Q (.ref it) s):wpAny (model prog w) A (pyIter (.ref it)) Q E s:=by
 refine wpAny_pyIter_slot hT gN (wpAny_call_entry gN hT kG ?_ (lG _));show wpAny _ _ (ret (.ref it)) _ _ s;exact wpAny_pure ⟨_,rfl, "set_iterator",_,hT,bI.lookup,h⟩
theorem rX (hh:A.handled=none) (hne:a≠it) (hb:w.params.followText "set-order" = true) (hf:t.fits es.size=true) (hz:es.size=n):
  Walks prog w A it [it,a] [it] n (fun i v=>((pickOrder (w.params.setOrder a ep) es)[i]?).map (·.2)=some v) (fun i h=>h.get? it=some (itObj (.int 0 0) i a n ep)/\h.get? a=some (setObj es ep t)) where
 sub:=fun b hb=>by simp at hb; simp [hb]
 frame:=fun _ _ _ st k=>⟨k it (by simp) _ st.1,k a (by simp) _ st.2⟩
 item:=fun i s Q E hi st hQ=>by
  have hs:(pickOrder (w.params.setOrder a ep) es).size=n:=by
   have:=(km (w.params.setOrder a ep) es).length_eq;simpa [hz] using this
  have hg:(pickOrder (w.params.setOrder a ep) es)[i]? = some ((pickOrder (w.params.setOrder a ep) es)[i]'(by omega)):=Array.getElem?_eq_getElem _;refine iP (slot:=0) (nx:=0) (x:=((pickOrder (w.params.setOrder a ep) es)[i]'(by omega)).2) st.1 st.2 hf hz (fun E' Q' q=>jB hb st.2 hf (by rw [hg]; exact q)) fun h' g sb=>?_
  exact hQ _ h' s.toks (by rw [hg]; rfl) ⟨g,sb.extBut _ _ hne st.2⟩ fun b o hb e=>sb.extBut b o (fun z=>hb (by simp [z])) e
 done:=fun s Q E st hQ=>by
  have hs:(pickOrder (w.params.setOrder a ep) es).size=n:=by
   have:=(km (w.params.setOrder a ep) es).length_eq;simpa [hz] using this
  have hg:(pickOrder (w.params.setOrder a ep) es)[n]? = none:=Array.getElem?_eq_none (by omega);exact jL (slot:=0) hh st.1 st.2 hf hz (fun E' Q' q=>jB hb st.2 hf (by rw [hg]; exact q)) fun h' k=>hQ h' s.toks fun b o hb e=>k b o (fun z=>hb (by simp [z])) e
 self:=fun i s Q E st hQ=>jt ⟨_,st.1,rfl⟩ hQ
end
section
variable {prog:Program} {w:World} {A:Around} {E:Value->Shared->Prop} {s:Shared} {it a:Addr} {es:Array (Int × Value)} {n ep i:Nat} {t:SetTable}
theorem vw (hf:t.fits n=true):t.place.size=n:=by
 unfold SetTable.fits at hf;simp only [Bool.and_eq_true,beq_iff_eq] at hf;exact hf.1
noncomputable def atPlaces (es:Array (Int × Value)) (ys:List Nat):List Value:=ys.map fun p=>((es[p]?).map (·.2)).getD .none
theorem rB {T:Addr} {ys:List Nat} (hh:A.handled=none) (hne:a≠it) (hT:T≠it) (hf:t.fits es.size=true) (hz:es.size=n) (hp:ys.Perm (List.range n)):
  Walks prog w A it [it,a,T] [it] n (fun i v=>(atPlaces es ys)[i]? = some v) (fun i h=>h.get? it=some (itObj (.ref T) i a n ep)/\h.get? a=some (setObj es ep t)/\h.get? T=some (seqObj "tuple" (ys.map fun (k:Nat)=>rawInt k).toArray 0)) where
 sub:=fun b hb=>by simp at hb; simp [hb]
 frame:=fun _ _ _ st k=>⟨k it (by simp) _ st.1,k a (by simp) _ st.2.1,k T (by simp) _ st.2.2⟩
 item:=fun i s Q E hi st hQ=>by
  have hlen:ys.length=n:=by have:=hp.length_eq; simpa using this
  have hi':i < ys.length:=by omega
  have hlt:ys[i] < es.size:=by
   have:=hp.mem_iff.mp (List.getElem_mem hi');rw [hz];simpa using this
  have hx:es[ys[i]]?.map (·.2)=some (es[ys[i]].2):=by rw [Array.getElem?_eq_getElem hlt]; rfl
  refine nZ (p:=ys[i]) (x:=es[ys[i]].2) st.1 st.2.1 hf hz st.2.2 (by simp [rawInt,hi']) hx fun h' g sb=>?_
  refine hQ _ h' s.toks ?_ ⟨g,sb.extBut _ _ hne st.2.1,sb.extBut _ _ hT st.2.2⟩ fun b o hb e=>sb.extBut b o (fun z=>hb (by simp [z])) e
  unfold atPlaces;rw [List.getElem?_map,List.getElem?_eq_getElem hi'];simp [hlt]
 done:=fun s Q E st hQ=>by
  have hlen:ys.length=n:=by have:=hp.length_eq; simpa using this
  exact pD hh st.1 st.2.1 hf hz st.2.2 (by simp [hlen]) fun h' k=>hQ h' s.toks fun b o hb e=>k b o (fun z=>hb (by simp [z])) e
 self:=fun i s Q E st hQ=>jt ⟨_,st.1,rfl⟩ hQ
theorem rK (es:Array (Int × Value)):atPlaces es (List.range es.size)=es.toList.map (·.2):=by
 unfold atPlaces;apply List.ext_getElem
 ·simp
 ·intro i h1 h2;have:i < es.size:=by simpa using h1
  simp [this]
end
section
variable {prog:Program} {w:World} {A:Around} {E:Value->Shared->Prop} {s:Shared}
theorem Walks.cast {it:Addr} {fp wr:List Addr} {n m:Nat} {P P':Nat->Value->Prop} {St:Nat->Heap->Prop} (W:Walks prog w A it fp wr n P St) (e:n=m) (hP:∀ i v,P i v ↔ P' i v):Walks prog w A it fp wr m P' St:=by
 obtain rfl:P=P':=funext fun i=>funext fun v=>propext (hP i v)
 subst e;exact W
end
section
variable {prog:Program} {w:World} {A:Around} {E:Value->Shared->Prop} {s:Shared}
theorem wH {r:Addr} {Q:Bool->Shared->Prop} (hT:s.TypeIs (.ref r) "set") (h:Q false s):wpAny (model prog w) A (Builtin.List.listLengthHint (.ref r)) Q E s:=by
 unfold Builtin.List.listLengthHint;refine wpAny_bind (wpAny_specialOf hT PySem.F.slot_set_len.lookup ?_);generalize hid:("set.__len__" : String)=nm
 wp_delta
 rw [show splitId nm=some ("set", "__len__") from by subst hid; decide +kernel];subst hid;refine wpAny_bind (wpAny_isInstance (T := "set") (b:=true) hT (by rw [isSubtype_type]; kernel_rfl) ?_);refine wpAny_ite_split (fun z=>absurd z (by decide)) fun _=>?_
 refine wpAny_ite_split (fun _=>?_) fun z=>absurd (by decide +kernel) z
 exact wpAny_bind (wpAny_typeOf hT (wpAny_pure h))
end
noncomputable def ins (x:List Nat):List (List Nat)->List (List Nat)
 | []=>[x]
 | y::r=>if x=y then y::r else if x < y then x::y::r else y::ins x r
section
variable {prog:Program} {w:World} {A:Around} {E:Value->Shared->Prop} {s:Shared}
end
section
variable {X:Cx}
theorem Inv.drew {pins:List (Addr × Obj)} {σ:St} {H:Hp} {s:Shared} (I:Inv X pins σ H s) (d:Drawn):Inv X pins σ H { s with drawn:=d }:=
 ⟨I.ok,I.os,I.bare,I.base,I.loc,I.cell,I.free,I.freeC,I.pin,I.hok,I.len,I.tk⟩
end
inductive D where
 | f (v:V) | l (xs:List D) | t (xs:List D)
mutual
noncomputable def eqD:D->D->Bool
 | .f x,.f y=>eqV x y
 | .l xs,.l ys=>eqDs xs ys
 | .t xs,.t ys=>eqDs xs ys
 | .f _,.l _=>false
 | .f _,.t _=>false
 | .l _,.f _=>false
 | .l _,.t _=>false
 | .t _,.f _=>false
 | .t _,.l _=>false
noncomputable def eqDs:List D->List D->Bool
 | [],[]=>true
 | x::xs,y::ys=>eqD x y && eqDs xs ys
 | [],_::_=>false
 | _::_,[]=>false
end
noncomputable def Deep (K:Frag) (H:Hp):Nat->V->D->Prop
 | 0,v,d=>d=.f v/\flatV v=true
 | n+1,v,d=>(d=.f v/\flatV v=true)\/(∃ a vs ds,v=.ref a/\d=.l ds/\SqL K H a vs/\Paired (Deep K H n) vs ds)\/(∃ a vs ds,v=.ref a/\d=.t ds/\SqT K H a vs/\Paired (Deep K H n) vs ds)
theorem gW:∀ {xs ys:List D},xs.length≠ys.length->eqDs xs ys=false
 | [],[],h=>absurd rfl h
 | [],_::_,_=>by rw [eqDs]
 | _::_,[],_=>by rw [eqDs]
 | x::xs,y::ys,h=>by
  rw [eqDs,gW (xs:=xs) (ys:=ys) (fun e=>h (by simp [e])),Bool.and_false]
theorem qr {v:V} (h:flatV v=true):eqV v v=true:=by
 cases v <;> simp_all [flatV,eqV]
section
variable {X:Cx} {pins:List (Addr × Obj)} {σ:St} {H:Hp} {s:Shared}
theorem vt {A:Around} {l:Addr} {items:Array Value} {y:V} {v:Value} (hl:s.heap.IsList l items) (hu:A.units < cLine) (r:RelV y v) (f:flatV y=true):SeqAt.EqAt A s (.ref l) v false:=by
 cases y with
 | non=>cases r; exact .list_none hl hu
 | bl b=>cases r; exact .list_bool b hl hu
 | int i=>obtain ⟨t,rfl⟩:=r; exact .list_int i t hl hu
 | str x=>obtain ⟨t,rfl⟩:=r; exact .list_str x t hl hu
 | _=>exact absurd (show false=true from f) Bool.false_ne_true
theorem vf {A:Around} {l:Addr} {items:Array Value} {y:V} {v:Value} (hl:s.heap.IsList l items) (hu:A.units < cLine) (r:RelV y v) (f:flatV y=true):SeqAt.EqAt A s v (.ref l) false:=by
 cases y with
 | non=>cases r; exact .none_list hl hu
 | bl b=>cases r; exact .bool_list b hl hu
 | int i=>obtain ⟨t,rfl⟩:=r; exact .int_list i t hl hu
 | str x=>obtain ⟨t,rfl⟩:=r; exact .str_list x t hl hu
 | _=>exact absurd (show false=true from f) Bool.false_ne_true
theorem se {A:Around} {l:Addr} {items:Array Value} {y:V} {v:Value} (hl:s.heap.IsTuple l items) (hu:A.units < cLine) (r:RelV y v) (f:flatV y=true):SeqAt.EqAt A s (.ref l) v false:=by
 cases y with
 | non=>cases r; exact .tuple_none hl hu
 | bl b=>cases r; exact .tuple_bool b hl hu
 | int i=>obtain ⟨t,rfl⟩:=r; exact .tuple_int i t hl hu
 | str x=>obtain ⟨t,rfl⟩:=r; exact .tuple_str x t hl hu
 | _=>exact absurd (show false=true from f) Bool.false_ne_true
theorem sQ {A:Around} {l:Addr} {items:Array Value} {y:V} {v:Value} (hl:s.heap.IsTuple l items) (hu:A.units < cLine) (r:RelV y v) (f:flatV y=true):SeqAt.EqAt A s v (.ref l) false:=by
 cases y with
 | non=>cases r; exact .none_tuple hl hu
 | bl b=>cases r; exact .bool_tuple b hl hu
 | int i=>obtain ⟨t,rfl⟩:=r; exact .int_tuple i t hl hu
 | str x=>obtain ⟨t,rfl⟩:=r; exact .str_tuple x t hl hu
 | _=>exact absurd (show false=true from f) Bool.false_ne_true
theorem q5 (I:Inv X pins σ H s) {a:Addr} {vs ws:List V} (h:SqL X.K H a vs) (k:SqT X.K H a ws):False:=by
 obtain ⟨_,_,p1,_⟩:=I.list h;obtain ⟨_,_,p2,_⟩:=I.tuple k;exact SeqAt.ne_of_list_tuple p1.isList p2 rfl
theorem kE (I:Inv X pins σ H s):∀ (n:Nat) (v:V) (d d':D),Deep X.K H n v d->Deep X.K H n v d'->eqD d d'=true
 | 0,v,d,d',⟨e,f⟩,⟨e',_⟩=>by subst e; subst e'; rw [eqD]; exact qr f
 | n+1,v,d,d',h,h'=>by
  have pr:∀ (vs:List V) (ds ds':List D),Paired (Deep X.K H n) vs ds->Paired (Deep X.K H n) vs ds'->eqDs ds ds'=true:=by
   intro vs
   induction vs with
   | nil=>intro ds ds' p q; cases p; cases q; rw [eqDs]
   | cons v vs ih=>
    intro ds ds' p q;cases p with
    | cons p1 p2=>cases q with
     | cons q1 q2=>rw [eqDs,kE I n v _ _ p1 q1,ih _ _ p2 q2]; rfl
  rcases h with ⟨e,f⟩ | ⟨a,vs,ds,rfl,rfl,ha,p⟩ | ⟨a,vs,ds,rfl,rfl,ha,p⟩
  ·rcases h' with ⟨e',_⟩ | ⟨a',vs',ds',rfl,_⟩ | ⟨a',vs',ds',rfl,_⟩
   ·subst e; subst e'; rw [eqD]; exact qr f
   ·exact absurd (show false=true from f) Bool.false_ne_true
   ·exact absurd (show false=true from f) Bool.false_ne_true
  ·rcases h' with ⟨_,f⟩ | ⟨a',vs',ds',e,rfl,ha',p'⟩ | ⟨a',vs',ds',e,rfl,ha',p'⟩
   ·exact absurd (show false=true from f) Bool.false_ne_true
   ·cases e;obtain rfl:=I.list_inj ha ha';rw [eqD]; exact pr vs ds ds' p p'
   ·cases e;exact (q5 I ha ha').elim
  ·rcases h' with ⟨_,f⟩ | ⟨a',vs',ds',e,rfl,ha',p'⟩ | ⟨a',vs',ds',e,rfl,ha',p'⟩
   ·exact absurd (show false=true from f) Bool.false_ne_true
   ·cases e;exact (q5 I ha' ha).elim
   ·cases e;obtain rfl:=I.tuple_inj ha ha';rw [eqD]; exact pr vs ds ds' p p'
noncomputable def eqNth (ds ds':List D) (j:Nat):Bool:=match ds[j]?,ds'[j]? with
 | some d,some d'=>eqD d d'
 | _,_=>true
theorem fJ:∀ {ds ds':List D},ds.length=ds'.length->(List.range ds.length).all (eqNth ds ds')=eqDs ds ds'
 | [],[],_=>by rw [eqDs]; rfl
 | d::ds,d'::ds',h=>by
  have ih:=fJ (ds:=ds) (ds':=ds') (by simpa using h);rw [List.length_cons,List.range_succ_eq_map,List.all_cons,List.all_map,eqDs];have e:eqNth (d::ds) (d'::ds') 0=eqD d d':=rfl;have e2:(eqNth (d::ds) (d'::ds') ∘ Nat.succ)=eqNth ds ds':=funext fun j=>by simp [eqNth]
  rw [e,e2,ih]
theorem aN {α β:Type} {F:α -> β -> Prop}:∀ {l:List α} {m:List β},Paired F l m->∀ {j:Nat} {x:α},l[j]? = some x->∃ y,m[j]? = some y/\F x y
 | _,_,.nil,j,x,h=>by simp at h
 | _,_,.cons p r,0,x,h=>by simp at h; subst h; exact ⟨_,rfl,p⟩
 | _,_,.cons p r,j+1,x,h=>by simpa using aN r (j:=j) (by simpa using h)
theorem ot (I:Inv X pins σ H s):∀ (n:Nat) (A:Around) (x y:V) (dx dy:D) (u v:Value),A.units+n < cLine->Deep X.K H n x dx->Deep X.K H n y dy->RelV x u->RelV y v->SeqAt.EqAt A s u v (eqD dx dy)
 | 0,A,x,y,dx,dy,u,v,_,⟨e,f⟩,⟨e',f'⟩,ru,rv=>by subst e; subst e'; rw [eqD]; exact sx ru rv f f'
 | n+1,A,x,y,dx,dy,u,v,hu,hx,hy,ru,rv=>by
  have hu0:A.units < cLine:=by omega
  have items:∀ (vs ws:List V) (ds ds':List D) (us us':List Value),Paired (Deep X.K H n) vs ds->Paired (Deep X.K H n) ws ds'->Vals vs us->Vals ws us' ->
    ∀ j (h1:j < us.toArray.size) (h2:j < us'.toArray.size),SeqAt.EqAt A.in1 s us.toArray[j] us'.toArray[j] (eqNth ds ds' j):=by
   intro vs ws ds ds' us us' p q r r' j h1 h2;have l1:=r.length;have l2:=r'.length;simp only [List.size_toArray] at h1 h2;have g1:vs[j]? = some (vs[j]'(by omega)):=List.getElem?_eq_getElem _;have g2:ws[j]? = some (ws[j]'(by omega)):=List.getElem?_eq_getElem _;obtain ⟨d,hd,fd⟩:=aN p g1;obtain ⟨d',hd',fd'⟩:=aN q g2;obtain ⟨c,hc,rc⟩:=r.get g1;obtain ⟨c',hc',rc'⟩:=r'.get g2;have e1:us.toArray[j]=c:=by rw [List.getElem?_eq_getElem h1] at hc; simpa using hc
   have e2:us'.toArray[j]=c':=by rw [List.getElem?_eq_getElem h2] at hc'; simpa using hc'
   rw [e1,e2];unfold eqNth;rw [hd,hd'];exact ot I n A.in1 _ _ d d' c c' (by rw [Around.in1_units]; omega) fd fd' rc rc'
  rcases hx with ⟨e,f⟩ | ⟨a,vs,ds,rfl,rfl,ha,p⟩ | ⟨a,vs,ds,rfl,rfl,ha,p⟩
  ·subst e;rcases hy with ⟨e',f'⟩ | ⟨b,ws,ds',rfl,rfl,hb,q⟩ | ⟨b,ws,ds',rfl,rfl,hb,q⟩
   ·subst e'; rw [eqD]; exact sx ru rv f f'
   ·cases rv;obtain ⟨_,_,pl,_⟩:=I.list hb;rw [eqD]; exact vf pl.isList hu0 ru f
   ·cases rv;obtain ⟨_,_,pl,_⟩:=I.tuple hb;rw [eqD]; exact sQ pl hu0 ru f
  ·cases ru;obtain ⟨us,r1,pl,_⟩:=I.list ha;rcases hy with ⟨e',f'⟩ | ⟨b,ws,ds',rfl,rfl,hb,q⟩ | ⟨b,ws,ds',rfl,rfl,hb,q⟩
   ·subst e'; rw [eqD]; exact vt pl.isList hu0 rv f'
   ·cases rv;by_cases eab:a=b
    ·subst eab;have:=kE I (n+1) (.ref a) (.l ds) (.l ds') (.inr (.inl ⟨a,vs,ds,rfl,rfl,ha,p⟩)) (.inr (.inl ⟨a,ws,ds',rfl,rfl,hb,q⟩));rw [this];exact SeqAt.EqAt.same _
    ·obtain ⟨us',r2,pl2,_⟩:=I.list hb;have l1:=r1.length;have l2:=r2.length;have l3:=p.length;have l4:=q.length;rw [eqD];by_cases el:ds.length=ds'.length
     ·rw [<- fJ el,show ds.length=us.toArray.size by simp only [List.size_toArray]; omega];exact .of_refs eab (.lists pl.isList pl2.isList (by simp only [List.size_toArray]; omega) hu0 (items vs ws ds ds' us us' p q r1 r2))
     ·rw [gW el];exact .of_refs eab (.lists_lengths pl.isList pl2.isList (by simp only [List.size_toArray,bne_iff_ne,ne_eq]; omega) hu0)
   ·cases rv;obtain ⟨_,_,pl2,_⟩:=I.tuple hb;rw [eqD]; exact .list_tuple pl.isList pl2 hu0
  ·cases ru;obtain ⟨us,r1,pl,_⟩:=I.tuple ha;rcases hy with ⟨e',f'⟩ | ⟨b,ws,ds',rfl,rfl,hb,q⟩ | ⟨b,ws,ds',rfl,rfl,hb,q⟩
   ·subst e'; rw [eqD]; exact se pl hu0 rv f'
   ·cases rv;obtain ⟨_,_,pl2,_⟩:=I.list hb;rw [eqD]; exact .tuple_list pl pl2.isList hu0
   ·cases rv;by_cases eab:a=b
    ·subst eab;have:=kE I (n+1) (.ref a) (.t ds) (.t ds') (.inr (.inr ⟨a,vs,ds,rfl,rfl,ha,p⟩)) (.inr (.inr ⟨a,ws,ds',rfl,rfl,hb,q⟩));rw [this];exact SeqAt.EqAt.same _
    ·obtain ⟨us',r2,pl2,_⟩:=I.tuple hb;have l1:=r1.length;have l2:=r2.length;have l3:=p.length;have l4:=q.length;rw [eqD];have key:eqDs ds ds'=((List.range (min us.toArray.size us'.toArray.size)).all (eqNth ds ds') && us.toArray.size == us'.toArray.size):=by
      by_cases el:ds.length=ds'.length
      ·rw [<- fJ el,show min us.toArray.size us'.toArray.size=ds.length by simp only [List.size_toArray]; omega,show (us.toArray.size == us'.toArray.size)=true by simp only [List.size_toArray,beq_iff_eq]; omega,Bool.and_true]
      ·rw [gW el,show (us.toArray.size == us'.toArray.size)=false by simp only [List.size_toArray,beq_eq_false_iff_ne,ne_eq]; omega,Bool.and_false]
     rw [key];exact .of_refs eab (.tuples pl pl2 hu0 (items vs ws ds ds' us us' p q r1 r2))
end
section
variable {X:Cx} {pins:List (Addr × Obj)} {σ:St} {H:Hp} {s:Shared}
theorem mR (I:Inv X pins σ H s) {n:Nat} {A:Around} (hu:A.units+n+1 < cLine) {vs ws:List V} {ds ds':List D} {us us':List Value} (p:Paired (Deep X.K H n) vs ds) (q:Paired (Deep X.K H n) ws ds') (r:Vals vs us) (r':Vals ws us'):
  ∀ j (h1:j < us.toArray.size) (h2:j < us'.toArray.size),SeqAt.EqAt A.in1 s us.toArray[j] us'.toArray[j] (eqNth ds ds' j):=by
 intro j h1 h2;have l1:=r.length;have l2:=r'.length;simp only [List.size_toArray] at h1 h2;have g1:vs[j]? = some (vs[j]'(by omega)):=List.getElem?_eq_getElem _;have g2:ws[j]? = some (ws[j]'(by omega)):=List.getElem?_eq_getElem _;obtain ⟨d,hd,fd⟩:=aN p g1;obtain ⟨d',hd',fd'⟩:=aN q g2;obtain ⟨c,hc,rc⟩:=r.get g1;obtain ⟨c',hc',rc'⟩:=r'.get g2;have e1:us.toArray[j]=c:=by rw [List.getElem?_eq_getElem h1] at hc; simpa using hc
 have e2:us'.toArray[j]=c':=by rw [List.getElem?_eq_getElem h2] at hc'; simpa using hc'
 rw [e1,e2];unfold eqNth;rw [hd,hd'];exact ot I n A.in1 _ _ d d' c c' (by rw [Around.in1_units]; omega) fd fd' rc rc'
noncomputable def kEqD (K:Frag) (neg:Bool):R2:=fun x y H Q=>match x,y with
 | .ref a,.ref b=>∃ n dx dy,n<=100/\Deep K H n (.ref a) dx/\Deep K H n (.ref b) dy/\Q (.bl (neg ^^ eqD dx dy)) H
 | _,_=>False
theorem uh {us us':List Value} {ds ds':List D} (l1:ds.length=us.length) (l2:ds'.length=us'.length):((List.range (min us.toArray.size us'.toArray.size)).all (eqNth ds ds') && us.toArray.size == us'.toArray.size)=eqDs ds ds':=by
 by_cases el:ds.length=ds'.length
 ·rw [<- fJ el,show min us.toArray.size us'.toArray.size=ds.length by simp only [List.size_toArray]; omega,show (us.toArray.size == us'.toArray.size)=true by simp only [List.size_toArray,beq_iff_eq]; omega,Bool.and_true]
 ·rw [gW el,show (us.toArray.size == us'.toArray.size)=false by simp only [List.size_toArray,beq_eq_false_iff_ne,ne_eq]; omega,Bool.and_false]
theorem eqDE (K:Frag) (hK:X.K=K) {k:Nat} (hr:Room k X.A):OpR X (compareOp .Eq) (kEqD K false):=by
 subst hK;intro pins s σ H x y v u Q I rx ry h;unfold kEqD at h;split at h
 ·rename_i a b;obtain ⟨n,dx,dy,hn,hx,hy,q⟩:=h;cases rx;cases ry;simp only [Bool.false_bne] at q;have hu:=hr.un;cases n with
  | zero=>exact absurd (show false=true from hx.2) Bool.false_ne_true
  | succ n=>
   rcases hx with ⟨_,f⟩ | ⟨a',vs,ds,e,rfl,ha,p⟩ | ⟨a',vs,ds,e,rfl,ha,p⟩
   ·exact absurd (show false=true from f) Bool.false_ne_true
   ·cases e;obtain ⟨us,r1,pl,_⟩:=I.list ha;have l1:=r1.length;have l3:=p.length;rcases hy with ⟨_,f⟩ | ⟨b',ws,ds',e,rfl,hb,p'⟩ | ⟨b',ws,ds',e,rfl,hb,p'⟩
    ·exact absurd (show false=true from f) Bool.false_ne_true
    ·cases e;obtain ⟨us',r2,pl2,_⟩:=I.list hb;have l2:=r2.length;have l4:=p'.length;rw [eqD] at q;by_cases el:ds.length=ds'.length
     ·refine SeqAt.eq_listAt (e:=eqNth ds ds') pl.isList pl2.isList (by simp only [List.size_toArray]; omega) (by omega) (mR I (by omega) p p' r1 r2) ?_;rw [show us.toArray.size=ds.length by simp only [List.size_toArray]; omega,fJ el];exact ⟨.bl _,H,I,rfl,q⟩
     ·refine SeqAt.eq_list_lengthsAt pl.isList pl2.isList (by simp only [List.size_toArray,bne_iff_ne,ne_eq]; omega) (by omega) ?_;rw [gW el] at q;exact ⟨.bl _,H,I,rfl,q⟩
    ·cases e;obtain ⟨us',r2,pl2,_⟩:=I.tuple hb;rw [eqD] at q;exact SeqAt.RcAt.list_tuple pl.isList pl2 (by omega) _ _ _ _ ⟨.bl _,H,I,rfl,q⟩
   ·cases e;obtain ⟨us,r1,pl,_⟩:=I.tuple ha;have l1:=r1.length;have l3:=p.length;rcases hy with ⟨_,f⟩ | ⟨b',ws,ds',e,rfl,hb,p'⟩ | ⟨b',ws,ds',e,rfl,hb,p'⟩
    ·exact absurd (show false=true from f) Bool.false_ne_true
    ·cases e;obtain ⟨us',r2,pl2,_⟩:=I.list hb;rw [eqD] at q;exact SeqAt.RcAt.tuple_list pl pl2.isList (by omega) _ _ _ _ ⟨.bl _,H,I,rfl,q⟩
    ·cases e;obtain ⟨us',r2,pl2,_⟩:=I.tuple hb;have l2:=r2.length;have l4:=p'.length;rw [eqD] at q;refine SeqAt.eq_tupleAt (e:=eqNth ds ds') pl pl2 (by omega) (mR I (by omega) p p' r1 r2) ?_;rw [uh (by omega) (by omega)];exact ⟨.bl _,H,I,rfl,q⟩
 ·exact h.elim
end
section
variable {X:Cx}
noncomputable def kNeNil (K:Frag):R2:=fun x y H Q=>match x,y with
 | .ref a,.ref b=>∃ xs,SqL K H a xs/\SqL K H b []/\Q (.bl (!decide (xs=[]))) H
 | _,_=>False
theorem neNilE (K:Frag) (hK:X.K=K) (hu:X.A.units < cLine):OpR X (compareOp .NotEq) (kNeNil K):=by
 subst hK;intro pins s σ H x y v u Q I rx ry h;unfold kNeNil at h;split at h
 ·obtain ⟨xs,ha,hb,q⟩:=h;cases rx;cases ry;obtain ⟨its,r1,p1,_⟩:=I.list ha;obtain ⟨its2,r2,p2,_⟩:=I.list hb;cases r2;cases r1 with
  | nil=>exact SeqAt.RcNeAt.lists (e:=fun _=>true) p1.isList p2.isList rfl hu (fun j h1 _=>absurd h1 (by simp)) _ _ _ _ ⟨.bl false,H,I,rfl,by simpa using q⟩
  | cons rx rr=>exact SeqAt.RcNeAt.lists_lengths p1.isList p2.isList (by simp) hu _ _ _ _ ⟨.bl true,H,I,rfl,by simpa using q⟩
 ·exact h.elim
theorem wz {K:Frag} {a b:Addr} {H:Hp} {Q:VK}:kNeNil K (.ref a) (.ref b) H Q=∃ xs,SqL K H a xs/\SqL K H b []/\Q (.bl (!decide (xs=[]))) H:=rfl
theorem Ai {K:Frag} {n:Bool} {a b:Addr} {H:Hp} {Q:VK}:kEqD K n (.ref a) (.ref b) H Q=∃ k dx dy,k<=100/\Deep K H k (.ref a) dx/\Deep K H k (.ref b) dy/\Q (.bl (n ^^ eqD dx dy)) H:=rfl
noncomputable def kAny (K:Frag):List V->Hp->VK->Prop:=fun xs H Q=>match xs with
 | [.ref p]=>∃ bs:List Bool,SqL K H p (bs.map V.bl)/\Q (.bl (bs.any id)) H
 | _=>False
theorem lT {bs:List Bool}:∀ {us:List Value},Vals (bs.map V.bl) us->us=bs.map Value.bool:=by
 induction bs with
 | nil=>intro us h; cases h; rfl
 | cons b bs ih=>
  intro us h;cases h with
  | cons r t=>cases r; rw [ih t]; rfl
theorem vG (K:Frag) (hK:X.K=K) (hc:X.calm=true):CallR X (.builtin "any") (kAny K):=by
 subst hK;intro pins s σ H xs us Q I r q;unfold kAny at q;split at q
 ·rename_i p;obtain ⟨bs,hq,q⟩:=q;obtain ⟨u,rfl,ru⟩:=vals1 r;cases ru;obtain ⟨its,rv,pl,_⟩:=I.list hq;obtain rfl:=lT rv;have hl:s.heap.IsList p (bs.map Value.bool).toArray:=pl.isList;have hp:p < s.heap.objs.size:=by obtain ⟨o,ho,_⟩:=hl; exact Heap.lt_size ho
  refine tokQ I.tk (call_any_walk (wpAny_pyIter_list hl ?_));refine ⟨_,_,_,_,_,_,fun i=>(bs[i]?).getD false,rfl,Walks.list (A:=X.A.in1) (I.ok.hd hc) _ p (Nat.ne_of_lt hp) (bs.map Value.bool).toArray,⟨⟨_,Heap.get?_push_size _ rfl,rfl,rfl⟩,hl.push _⟩,?_,fun h' tk k (htk:0 < tk)=>?_⟩
  ·intro i v s' Q' E' hP hQ';have hi:bs[i]?.map Value.bool=some v:=by simpa using hP
   cases hb:bs[i]? with
   | none=>rw [hb] at hi; cases hi
   | some b=>
    have e:(fun i=>(bs[i]?).getD false) i=b:=by simp [hb]
    rw [e] at hQ';rw [hb] at hi;cases hi;exact wpAny_truthy_bool hQ'
  ·have e:((List.range (bs.map Value.bool).toArray.size).any fun i=>(bs[i]?).getD false)=bs.any id:=by
    simp only [List.size_toArray,List.length_map];rw [Bool.eq_iff_iff,List.any_eq_true,List.any_eq_true];constructor
    ·rintro ⟨i,hi,h⟩;have hi:i < bs.length:=by simpa using hi
     rw [List.getElem?_eq_getElem hi] at h;exact ⟨bs[i],List.getElem_mem hi,h⟩
    ·rintro ⟨b,hb,h⟩;obtain ⟨i,hi,rfl⟩:=List.getElem_of_mem hb;exact ⟨i,by simpa using hi,by rw [List.getElem?_eq_getElem hi]; exact h⟩
   rw [e];refine ⟨.bl _,H,I.kept (fun b o q=>k b o ?_ (Heap.get?_push_of_some _ q)),rfl,q⟩;intro z;have:=Heap.lt_size q;rw [List.mem_singleton.mp z] at this;exact Nat.lt_irrefl _ this
 ·exact q.elim
theorem zB {K:Frag} {p:Addr} {H:Hp} {Q:VK}:kAny K [.ref p] H Q=∃ bs:List Bool,SqL K H p (bs.map V.bl)/\Q (.bl (bs.any id)) H:=rfl
end
section
variable {X:Cx}
noncomputable def cListRng (te:TE):TE:=fun σ H Q=>te σ H fun x H1=>match x with
 | .int j=>-(2 ^ 62)<=j/\j<=10000/\∀ p,H1 p=none->Q (.ref p) (upd H1 p (.lst ((List.range j.toNat).map fun (i:Nat)=>V.int i)))
 | _=>False
theorem sF {acc:Array Value} {n:Nat} (h:ItemsOf (fun i v=>∃ t,v=Value.int ((0:Int)+(i:Int)*1) t) acc n):Vals ((List.range n).map fun (i:Nat)=>V.int i) acc.toList:=by
 obtain ⟨hs,hi⟩:=h;have key:∀ (l:List Value) (k:Nat),(∀ (j:Nat) (v:Value),l[j]? = some v->∃ t,v=Value.int ((k+j:Nat):Int) t)->Vals ((List.range' k l.length).map fun (i:Nat)=>V.int i) l:=by
  intro l
  induction l with
  | nil=>intro k _; exact .nil
  | cons v l ih=>
   intro k h;obtain ⟨t,e⟩:=h 0 v rfl;rw [List.length_cons,List.range'_succ,List.map_cons];refine .cons ⟨t,by simpa using e⟩ (ih (k+1) fun j v hj=>?_);obtain ⟨t,e⟩:=h (j+1) v (by simpa using hj);exact ⟨t,by rw [e]; congr 1; omega⟩
 have:=key acc.toList 0 fun j v hj=>by
  obtain ⟨t,e⟩:=hi j v (by simpa using hj);exact ⟨t,by rw [e]; congr 1; omega⟩
 rw [Array.length_toList,hs,<- List.range_eq_range'] at this;exact this
theorem sT {e:Expr} {te:TE} {p p2 pos pos2:Pos} (hc:X.calm=true) (hg:Gl X "list") (hm:X.mg "list" = none) (hg2:Gl X "range") (hm2:X.mg "range" = none) (he:PE X e te)
  (hs:starEach [e] X.env=[(false,eval e X.env)]:=by rfl)
  (hs2:starEach [Expr.Call (.Name "range" p2) [e] [] pos2] X.env=[(false,eval (Expr.Call (.Name "range" p2) [e] [] pos2) X.env)]:=by rfl):
  PE X (.Call (.Name "list" p) [.Call (.Name "range" p2) [e] [] pos2] [] pos) (cListRng te):=by
 intro pins s σ H Q I h;refine wpAny_Call_Name_kw (cR I hg hm jy ?_ (by decide) (by decide));refine PyProof.Rows.callWith_type1 ?_ hs2 rfl;rw [hs2];show wpAny _ _ (spliced [(false,eval (Expr.Call (.Name "range" p2) [e] [] pos2) X.env)]) _ _ s;refine Calls.spliced_cons ?_;refine wpAny_Call_Name_kw (cR I hg2 hm2 boot_range ?_ (by decide) (by decide));refine PyProof.Rows.callWith_type1 ?_ hs rfl;rw [hs];show wpAny _ _ (spliced [(false,eval e X.env)]) _ _ s;refine Calls.spliced_cons (thn (he pins s σ H _ I h) fun u s1 ⟨x,H1,I1,r1,q1⟩=>Calls.spliced_nil ?_)
 match x,r1,q1 with
 | .int j,⟨t,ht⟩,⟨a1,a2,a3⟩=>
  subst ht;refine call_range_1 (Calls.spliced_nil ?_);have I2:Inv X pins σ H1 { s1 with heap:=s1.heap.push { cls:=.type "range",data:=.fields #[.int 0 s1.toks,.int j t,.int 1 (s1.toks+1)] },toks:=s1.toks+1+1 }:=I1.kept fun b o q=>Heap.get?_push_of_some _ q
  have hsz:Builtin.Range.rangeSize 0 j 1=((j.toNat:Nat):Int):=by rw [rangeSize_one]; split <;> omega
  refine tokQ I2.tk (call_list_range (n:=j.toNat) (I.ok.hd hc) (IsRange.new ..) (small_one (by decide) (by decide) a1 (by omega)) hsz (by omega) fun h' tk acc c' old ho hi (htk:0 < tk)=>?_);exact ⟨.ref _,_,I2.laid (o:=.lst ((List.range j.toNat).map fun (i:Nat)=>V.int i)) (t':=tk) old (Nat.le_refl _) ⟨by rw [List.length_map,List.length_range,sizeLine_eq]; omega,acc.toList,c',sF hi,by simpa using ho⟩,rfl,a3 _ I2.fresh⟩
theorem sk {te:TE} {σ:St} {H:Hp} {Q:VK}:cListRng te σ H Q=te σ H fun x H1=>match x with
 | .int j=>-(2 ^ 62)<=j/\j<=10000/\∀ p,H1 p=none->Q (.ref p) (upd H1 p (.lst ((List.range j.toNat).map fun (i:Nat)=>V.int i)))
 | _=>False:=rfl
end
theorem oz {K:Frag} {H:Hp} {v:V} (n:Nat) (f:flatV v=true):Deep K H n v (.f v):=by
 cases n with
 | zero=>exact ⟨rfl,f⟩
 | succ n=>exact .inl ⟨rfl,f⟩
noncomputable abbrev tx (l:List Nat):V:=V.str (st l)
section
variable {K:Frag} {g:TG} {tc:TT} {te:TE} {σc:St} {D:Addr} {Q:VK} {H:Hp}
theorem mo {α:Type} (item:α -> V) (xs:List α) (keep:α -> Bool) (R:α -> V->Hp->Prop) {p:Addr} (hfree:H D=none) (hl:SqL K H p (xs.map item)) (hn:xs.length<=100000)
  (mono:∀ x v H1 H2 acc,H1 D=some (.lst acc)->(∀ b o,b≠D->H1 b=some o->H2 b=some o)->R x v H1->R x v H2)
  (hs:∀ x H1 (out:VK) (non:Hp->Prop),x ∈ xs->Same H H1->(∀ v H6,keep x=true->Same H1 H6->R x v H6->out v H6)->(∀ H5,keep x=false->Same H1 H5->non H5) ->
   g (item x) σc H1 fun σ4 H4=>tc σ4 H4 fun b H5=>if b=true then te σ4 H5 out else non H5)
  (hq:∀ H' vs,Same H H'->H' D=some (.lst vs)->Paired (fun x v=>R x v H') (xs.filter keep) vs->Q (.ref D) H'):compW (Itl K p) g tc te σc D Q H:=by
 refine ⟨fun i m acc H2=>m=xs.length - i/\i<=xs.length/\Paired (fun x v=>R x v H2) ((xs.take i).filter keep) acc/\Same H H2/\H2 D=some (.lst acc),⟨xs.length,by simp,Nat.zero_le _,.nil,ae hfree _,upd_same⟩,?_⟩;rintro i m acc H2 ⟨rfl,hi,pr,sm,hD⟩;have len:acc.length<=i:=by
  have a:=pr.length;have b:=List.length_filter_le keep (xs.take i);rw [List.length_take] at b;omega
 by_cases hlt:i < xs.length
 ·refine .inr ⟨⟨_,item xs[i],sm.seq hl,by simp [hlt]⟩,fun x H3 y=>?_⟩;obtain ⟨rfl,y⟩:=y;have e:=y _ (sm.seq hl);rw [List.getElem?_map,List.getElem?_eq_getElem hlt] at e;have e2:item xs[i]=x:=Option.some.inj e;subst e2;have ht:xs.take (i+1)=xs.take i++[xs[i]]:=by rw [List.take_add_one,List.getElem?_eq_getElem hlt]; rfl
  refine hs xs[i] _ _ _ (List.getElem_mem hlt) sm (fun v H6 k s6 r=>?_) fun H5 k s5=>?_
  ·refine ⟨s6 _ _ hD,Nat.lt_of_le_of_lt len (sizeBig (by omega)),xs.length - (i+1),by omega,rfl,hlt,?_,?_,upd_same⟩
   ·have m1:∀ x v,R x v H6->R x v (upd H6 D (.lst (acc++[v]))):=fun x v r=>mono x v H6 _ acc (s6 _ _ hD) (fun b o nb q=>by rw [ao nb]; exact q) r
    rw [ht,List.filter_append];have f1:[xs[i]].filter keep=[xs[i]]:=by simp [k]
    rw [f1];have lift:∀ {l:List α} {vs:List V},Paired (fun x v=>R x v H3) l vs->Paired (fun x v'=>R x v' (upd H6 D (.lst (acc++[v])))) l vs:=by
     intro l vs pp
     induction pp with
     | nil=>exact .nil
     | cons r _ ih=>exact .cons (mono _ _ H3 _ acc hD (fun b o nb q=>by rw [ao nb]; exact s6 _ _ q) r) ih
    have app:∀ {l:List α} {vs:List V} {x:α} {v':V} {F:α -> V->Prop},Paired F l vs->F x v'->Paired F (l++[x]) (vs++[v']):=by
     intro l vs x v' F pp r
     induction pp with
     | nil=>exact .cons r .nil
     | cons r' _ ih=>exact .cons r' ih
    exact app (lift pr) (m1 _ _ r)
   ·exact aH (sm.trans s6) hfree
  ·refine ⟨xs.length - (i+1),by omega,rfl,hlt,?_,sm.trans s5,s5 _ _ hD⟩;rw [ht,List.filter_append];have f1:[xs[i]].filter keep=[]:=by simp [k]
   rw [f1,List.append_nil];have lift:∀ {l:List α} {vs:List V},Paired (fun x v=>R x v H3) l vs->Paired (fun x v'=>R x v' H5) l vs:=by
    intro l vs pp
    induction pp with
    | nil=>exact .nil
    | cons r _ ih=>exact .cons (mono _ _ H3 _ acc hD (fun b o _ q=>s5 _ _ q) r) ih
   exact lift pr
 ·have e:i=xs.length:=by omega
  subst e;rw [List.take_length] at pr;exact .inl ⟨⟨_,sm.seq hl,by simp⟩,hq H2 acc sm hD pr⟩
end
section
variable {X:Cx}
noncomputable def kMulL:R2:=fun x y H Q=>match x,y with
 | .ref l,.int k=>∃ xs,H l=some (.lst xs)/\0<=k/\k<=10000/\xs.length<=100/\∀ p,H p=none->Q (.ref p) (upd H p (.lst (List.replicate k.toNat xs).flatten))
 | _,_=>False
theorem za:OpR X (binaryOp .Mult) kMulL:=wb.imp fun x y H Q q=>by
 unfold kMulL at q;split at q
 ·rename_i l k;obtain ⟨xs,h1,h2,h3,h4,q⟩:=q;have h5:xs.length*k.toNat<=100*10000:=Nat.mul_le_mul h4 (by omega);exact ⟨l,k,xs,rfl,rfl,h1,by omega,by omega,Nat.le_trans h5 (by rw [sizeLine_eq]; decide),q⟩
 ·exact q.elim
theorem yy {l:Addr} {k:Int} {H:Hp} {Q:VK}:kMulL (.ref l) (.int k) H Q=∃ xs,H l=some (.lst xs)/\0<=k/\k<=10000/\xs.length<=100/\∀ p,H p=none->Q (.ref p) (upd H p (.lst (List.replicate k.toNat xs).flatten)):=rfl
end
theorem zK {to ti:TE} {t:TSet} {v:V} {σ:St} {H:Hp} {Q:St->Hp->Prop}:gSub to ti t v σ H Q=to σ H fun o H1=>ti σ H1 fun i H2=>t o i v H2 fun H3=>Q σ H3:=rfl
theorem xU {p:Addr} {k:Int} {v:V} {H:Hp} {Q:Hp->Prop}:rSetL (.ref p) (.int k) v H Q=∃ xs j,H p=some (.lst xs)/\ixN xs.length k=some j/\Q (upd H p (.lst (xs.set j v))):=by
 refine propext ⟨?_,?_⟩
 ·rintro ⟨p',xs,k',j,e1,e2,h⟩;cases e1;cases e2;exact ⟨xs,j,h⟩
 ·rintro ⟨xs,j,h⟩;exact ⟨p,xs,k,j,rfl,rfl,h⟩
theorem vH (x y:Str):Txt.startswith x y=decide (y.cps.toList <+: x.cps.toList):=by
 have key:Txt.startswith x y=true ↔ y.cps.toList <+: x.cps.toList:=by
  unfold Txt.startswith Builtin.Str.subAt;rw [Bool.and_eq_true,decide_eq_true_eq,beq_iff_eq,List.prefix_iff_eq_take];have e:(x.cps.extract 0 (0+y.length)).toList=x.cps.toList.take y.cps.toList.length:=by
   rw [Array.toList_extract];simp [Str.length,List.extract]
  constructor
  ·rintro ⟨_,h⟩;rw [<- e,h]
  ·intro h;refine ⟨?_,?_⟩
   ·have:=congrArg List.length h;simp only [List.length_take,Array.length_toList] at this;simp only [Str.length];omega
   ·apply Array.ext';rw [e];exact h.symm
 by_cases h:y.cps.toList <+: x.cps.toList
 ·rw [key.mpr h,decide_eq_true h]
 ·rw [decide_eq_false h];cases q:Txt.startswith x y with
  | true=>exact absurd (key.mp q) h
  | false=>rfl
section
variable {X:Cx} {o e:Expr} {to te:TE} {apos cpos:Pos}
theorem um:MtR X "str.startswith" (fun x vs H Q=>∃ a b,x=.str a/\vs=[.str b]/\Q (.bl (decide (b.cps.toList <+: a.cps.toList))) H):=by
 intro pins s σ H x vs v us Q I rx rv h;obtain ⟨a,b,rfl,rfl,q⟩:=h;obtain ⟨t,rfl⟩:=rx;obtain ⟨u,rfl,ru⟩:=rv.one;obtain ⟨t2,rfl⟩:=ru;refine SC.startswith ?_;rw [vH];exact ⟨.bl _,H,I,rfl,q⟩
noncomputable def cStarts (to te:TE):TE:=fun σ H Q=>to σ H fun x H1=>match x with
 | .str a=>te σ H1 fun y H2=>match y with
  | .str b=>Q (.bl (decide (b.cps.toList <+: a.cps.toList))) H2
  | _=>False
 | _=>False
theorem vn (ho:PE X o to) (he:PE X e te) (hbase:attributeBase o "startswith" X.env (eval o X.env)=eval o X.env:=by rfl)
  (hfew:((backTo cpos (starEach [e] X.env)).all (fun x=>!x.1) && (backToKw cpos (keywordEach [] X.env)).all (fun x=>x.1.isSome)
   && decide ([e].length+([]:List Keyword).length+(if ([]:List Keyword).isEmpty then 0 else 1) < 30))=true:=by rfl)
  (hline:(apos.endLine == cpos.line)=true:=by rfl) (hs:starEach [e] X.env=(false,eval e X.env)::starEach [] X.env:=by rfl) (hplain:(backTo cpos (starEach [] X.env)).any (·.1)=false:=by rfl):
  PE X (.Call (.Attribute o "startswith" apos) [e] [] cpos) (cStarts to te):=
 (rf PySem.F.plainAttrs_str PySem.F.slot_str_startswith PySem.F.type_str_startswith um ho.mono (aa he.mono ab hs) hbase hfew hline hs hplain).imp fun σ H Q q=>⟨_,q,fun x H1 z=>by
  split at z
  ·refine ⟨rfl,_,z,fun y H2 z2=>?_⟩;split at z2
   ·exact ⟨_,_,rfl,rfl,z2⟩
   ·exact z2.elim
  ·exact z.elim⟩
theorem ut {σ:St} {H:Hp} {Q:VK}:cStarts to te σ H Q=to σ H fun x H1=>match x with
 | .str a=>te σ H1 fun y H2=>match y with
  | .str b=>Q (.bl (decide (b.cps.toList <+: a.cps.toList))) H2
  | _=>False
 | _=>False:=rfl
end
section
variable {X:Cx} {tg a b c:Expr} {ta tb tc:TE} {pos p:Pos}
end
section
variable {g:TG} {tb:TS} {D:Ends} {σ:St} {H:Hp}
end
noncomputable def Itel (K:Frag) (a:Addr):It:=⟨fun i H=>∃ xs x,SqL K H a xs/\xs[i]? = some x,fun i H v H'=>∃ T x,v=.ref T/\H T=none/\(∀ xs,SqL K H a xs->xs[i]? = some x)/\H'=upd H T (.tup [.int i,x]),fun i H=>∃ xs,SqL K H a xs/\i=xs.length⟩
theorem sv {P:Program} {w:World} {K:Frag} {elts:List Expr} {kk:Nat} {pos:Pos} (a e it:Addr) (hne:e≠it) (hae:a≠e) (hai:a≠it):
  Turn P w K (.Tuple elts kk pos) (Itel K a) [e,it] e (fun i h=>(∃ old,IsEnum h e it i old)/\h.IsListIter it a i) where
 mem:=by simp
 obj:=fun i h st b hb=>by
  obtain ⟨⟨old,he⟩,o,e',c,d⟩:=st;simp only [List.mem_cons,List.not_mem_nil,or_false] at hb;rcases hb with rfl | rfl
  ·exact ⟨_,he,fun v z=>by
    have z':Data.fields _=Data.cell v:=z;cases z'⟩
  ·exact ⟨o,e',fun v z=>by rw [d] at z; cases z⟩
 keep:=fun i h h' st k=>by
  obtain ⟨⟨old,he⟩,hl⟩:=st;exact ⟨⟨old,k e (by simp) _ he⟩,hl.at fun o q=>k it (by simp) o q⟩
 item:=by
  intro X hP hw hK hc i pins s σ H E I hf st hg;subst hP hw hK;obtain ⟨xs,x,hq,hx⟩:=hg;obtain ⟨its,rv,pl,hz⟩:=I.list hq;obtain ⟨u,hu,ru⟩:=rv.get hx;have W:=WalksT.enumerate (prog:=X.prog) (w:=X.w) (A:=X.A) (I.ok.hd hc) e it a hne hae hai its.toArray;have hi:i < its.toArray.size:=by
   have:=(List.getElem?_eq_some_iff.mp hu).1;simpa using this
  refine tokQ I.tk (W.item i s _ _ hi ⟨st.1,st.2,pl.isList⟩ fun T vals h' tk hv hsz hT hmid kp (htk:0 < tk)=>?_);obtain ⟨t',xv,hxv,rfl⟩:=hv;have e2:xv=u:=by
   have:its[i]? = some xv:=by simpa using hxv
   rw [hu] at this;exact (Option.some.inj this).symm
  subst e2;have hap:=W.apart i T h' hmid;refine ⟨_,rfl,W.go elts kk pos i T { s with heap:=h',toks:=tk } _ _ hmid fun h'' st'' kp''=>?_⟩;have hT2:h''.IsTuple T #[.int i t',xv]:=by
   obtain ⟨o,ho,r⟩:=hT;exact ⟨o,kp'' T o hap ho,r⟩
  have I1:Inv X pins σ (upd H T (.tup [.int i,x])) { s with heap:=h'',toks:=tk }:=by
   refine I.turnedLaid (its:=[e,it]) (fun b ob hb q=>kp'' b ob hb (kp b ob hb q)) hf hsz ?_;exact ⟨by show 2<=sizeLine; decide,[.int i t',xv],.cons ⟨_,rfl⟩ (.cons ru .nil),hT2⟩
  refine ⟨.ref T,_,I1,rfl,⟨T,x,rfl,I.hok.fresh hsz,fun ys hy=>by rw [I.list_inj hy hq]; exact hx,rfl⟩,⟨st''.1,st''.2.1⟩,fun b hb=>?_⟩;have nb:b≠T:=fun z=>hap (z ▸ hb)
  rw [ao nb];exact (hf b hb).1
 done:=by
  intro X hP hw hK hc i pins s σ H E I hf st hg;subst hP hw hK;obtain ⟨xs,hq,rfl⟩:=hg;obtain ⟨its,rv,pl,hz⟩:=I.list hq;have hl:=rv.length;have W:=WalksT.enumerate (prog:=X.prog) (w:=X.w) (A:=X.A) (I.ok.hd hc) e it a hne hae hai its.toArray;have hn:its.toArray.size=xs.length:=by simp only [List.size_toArray]; omega
  rw [hn] at W;exact tokQ I.tk (W.done s _ _ ⟨st.1,st.2,pl.isList⟩ fun h' tk kp (htk:0 < tk)=>⟨rfl,I.turnedL (its:=[e,it]) (fun b o hb q=>kp b o hb q) hf⟩)
 self:=fun A i s Q E st h=>by
  obtain ⟨⟨old,he⟩,_⟩:=st;exact wpAny_pyIter_enum he h
section
variable {X:Cx} {a:Expr} {ta:TE} {p pos:Pos}
noncomputable def cEnumL (K:Frag) (te:TE):TI:=fun σ H R=>te σ H fun x H1=>match x with
 | .ref l=>(∃ xs,SqL K H1 l xs)/\R (Itel K l) H1
 | _=>False
theorem my (K:Frag) (hK:X.K=K) {elts:List Expr} {kk:Nat} {tpos:Pos} (hg:Gl X "enumerate") (hm:X.mg "enumerate" = none) (ha:PE X a ta) (hs:starEach [a] X.env=[(false,eval a X.env)]:=by rfl):
  PI X (.Tuple elts kk tpos) (.Call (.Name "enumerate" p) [a] [] pos) (cEnumL K ta):=by
 subst hK;intro pins s σ H R I h;refine Call_ (cR I hg hm pL (PyProof.Rows.callWith_type1 (thn ((aa ha.mono ab hs) pos pins s σ H (fun vs H1=>∃ l,vs=[.ref l]/\(∃ xs,SqL X.K H1 l xs)/\R (Itel X.K l) H1) I ⟨_,h,fun v H' z=>by
  split at z
  ·exact ⟨_,rfl,z⟩
  ·exact z.elim⟩) fun us s1 ⟨vs,H1,I1,r1,q1⟩=>?_) hs rfl))
 obtain ⟨l,rfl,⟨xs,hq⟩,q1⟩:=q1;cases r1 with
 | cons r rr=>
  cases rr;cases r;obtain ⟨its,rv,pl,hz⟩:=I1.list hq;have hlt:l < s1.heap.objs.size:=by
   obtain ⟨o,ho,_⟩:=pl.isList;exact Heap.lt_size ho
  refine call_enumerate_list pl.isList fun h' he hi hz kp=>?_
  have I2:Inv X pins σ H1 { s1 with heap:=h' }:=I1.kept (t':=s1.toks) kp;refine wpAny_pyIter_enum he ?_;refine ⟨_,[s1.heap.objs.size+1,s1.heap.objs.size],_,Itel X.K l,H1,rfl,I2,sv l (s1.heap.objs.size+1) s1.heap.objs.size (Nat.succ_ne_self _) (Nat.ne_of_lt (Nat.lt_succ_of_lt hlt)) (Nat.ne_of_lt hlt),⟨⟨_,he⟩,hi⟩,fun c hc=>?_,q1⟩;have hc':s1.heap.objs.size<=c:=by
   simp only [List.mem_cons,List.not_mem_nil,or_false] at hc;rcases hc with rfl | rfl <;> omega
  exact I1.fpOk hc' (I1.hok.fresh hc')
theorem v4 {K:Frag} {σ:St} {H:Hp} {R:It->Hp->Prop}:cEnumL K ta σ H R=ta σ H fun x H1=>match x with
 | .ref l=>(∃ xs,SqL K H1 l xs)/\R (Itel K l) H1
 | _=>False:=rfl
end
theorem mI {K:Frag} {tb:TS} {D:Ends} {σ:St} {H:Hp} {a:Addr} {xs:List V} {j k:Nat} (Pv:Nat->St->Hp->Prop) (h0:Pv 0 σ H) (hl:∀ i σ H,i<=xs.length->Pv i σ H->SqL K H a xs)
  (hs:∀ i x σ H T,xs[i]? = some x->Pv i σ H->H T=none->tb (D.turn (Pv (i+1))) ((σ.set j (some (.int i))).set k (some x)) (upd H T (.tup [.int i,x]))) (hd:∀ σ H,Pv xs.length σ H->D.nx σ H):
  loopW (Itel K a) (gTup K 2 (gCons (gName j) (gCons (gName k) gNil))) tb D σ H:=
 si (n:=xs.length) Pv h0 (fun i σ H hi p=>⟨xs,xs[i],hl i σ H (Nat.le_of_lt hi) p,by simp [hi]⟩)
  (fun σ H p=>⟨xs,hl _ σ H (Nat.le_refl _) p,rfl⟩)
  (fun i σ H v H' hi p y=>by
   obtain ⟨T,x,rfl,hT,hx,rfl⟩:=y;exact ⟨T,[_,_],rfl,SqT.upd_same,rfl,_,[_],rfl,_,[],rfl,rfl,hs i x σ H T (hx xs (hl i σ H (Nat.le_of_lt hi) p)) p hT⟩) hd
section
variable {prog:Program} {w:World} {A:Around} {E:Value->Shared->Prop} {s:Shared}
end
section
variable {X:Cx}
end
end L2
namespace L2
open PySem PySem.Spec PyProof.Rows PySem.Builtin PySem.Builtin.Str
theorem qm {n k:Nat} (h:n<=k):strSliceIndices none (some (k:Int)) 1 n=strSliceIndices none (some (n:Int)) 1 n:=by
 have e1:¬ ((k:Int) < 0):=by omega
 have e2:¬ ((n:Int) < 0):=by omega
 have e3:min (k:Int) (n:Int)=n:=by omega
 simp only [strSliceIndices,e1,e2,if_false,show (1:Int) > 0 by decide,if_true,e3,Int.min_self]
theorem vg (l:List Nat) (k:Nat):Txt.slice (st l) none (some (k:Int))=st (l.take k):=by
 by_cases h:k<=l.length
 ·exact md l k h
 ·have e:Txt.slice (st l) none (some (k:Int))=Txt.slice (st l) none (some (l.length:Int)):=by
   unfold Txt.slice;have hl:(st l).length=l.length:=by simp [Str.length]
   rw [hl,qm (show l.length<=k by omega)]
  rw [e,md l l.length (Nat.le_refl _),List.take_length,List.take_of_length_le (by omega)]
section
variable {X:Cx}
noncomputable def kSlF:V->Option Int->Option Int->Hp->VK->Prop:=fun x lo hi H Q=>match x,lo,hi with
 | .str z,none,some j=>z.cps.toList.length<=100000/\0<=j/\Q (.str (st (z.cps.toList.take j.toNat))) H
 | _,_,_=>False
theorem slF:SlR X kSlF:=o8.imp fun x lo hi H Q q=>by
 unfold kSlF at q;split at q
 ·obtain ⟨h,h0,q⟩:=q;rename_i z j;obtain ⟨k,rfl⟩:∃ k:Nat,j=k:=⟨j.toNat,by omega⟩;refine ⟨z,rfl,by rw [strlen]; exact Nat.le_trans h big5,?_⟩;have e:=vg z.cps.toList k;rw [aF] at e;rw [e];simpa using q
 ·exact q.elim
theorem zN {l:List Nat} {j:Int} {H:Hp} {Q:VK}:kSlF (.str (st l)) none (some j) H Q=(l.length<=100000/\0<=j/\Q (.str (st (l.take j.toNat))) H):=rfl
end
end L2
namespace L2
open PySem PySem.Spec PyProof.Rows
section
variable {X:Cx}
theorem dN {i:Nat} {x:Str} {pos' spos:Pos} {elt tg iter:Expr} {ifs:List Expr} {scope:Scope} {pos:Pos} {wi:TI} {g:TG} {tc:TT} {te:TE} {nt:Nat} {fi:List Nat} {N':List Str} (hN:X.N.Nodup) (hi0:X.N[i]? = some x) (hx:Loc X.env.scope x) (hcalm:X.calm=true)
  (S:CScope scope) (cn:CNames X scope nt fi N') (gk:GK nt g) (hi:PI X tg iter wi)
  (hg:∀ cl C s H ex,PG (cxC X scope cl N' C s H ex) tg g) (hc:∀ cl C s H ex,PIf (cxC X scope cl N' C s H ex) ifs tc) (he:∀ cl C s H ex,PE (cxC X scope cl N' C s H ex) elt te)
  (hsw:swapsWith (.ListComp elt [⟨tg,iter,ifs,0⟩] scope pos) (some (.Name x pos')) spos.line X.env=pure true:=by rfl)
  (hs:∀ x,foldedSetIterable iter X.env x=pure x:=by intro _; rfl) (hf:X.fn x=true\/X.env.scope.names.lookup x=some .local:=by first | exact .inl rfl | exact .inr rfl | assumption):
  PS X (.Assign [.Name x pos'] (.ListComp elt [⟨tg,iter,ifs,0⟩] scope pos) spos) (tAsg (cComp nt fi wi g tc te) (gName i)):=by
 intro pins s σ H D I h;have hfr:∀ y ∈ scope.names,y.2=.free->∃ c,X.env.cells.lookup y.1=some c:=fun y hy e=>I.ok.has y.1 (cn.fre y hy e)
 rw [exec_Assign_Name_used _ _ _ _ hsw];refine wpAny_bind (wpAny_standAt (wpAny_bind ?_));change wpAny _ X.A (do let _ <- comprehension (.ListComp elt [⟨tg,iter,ifs,0⟩] scope pos) scope X.env _ (newList []) false (eval iter X.env) (some (assign (.Name x pos') X.env))) _ _ s;refine wpAny_bind (thn (Q:=fun _ s'=>∃ σ' H',Inv X pins σ' H' s'/\D.nx σ' H') ?_ fun _ s' q=>wpAny_pure (wpAny_pure q));refine wpAny_comprehension_free (use:=some (assign (.Name x pos') X.env)) rfl hs (gP hfr) S.kind S.loc (thn (hi pins s σ H _ I h) fun v s1 h1=>thn h1 fun itv s2 h2=>?_);obtain ⟨it,fp,tn,J,H2,e,I2,T,st2,f2,hW⟩:=h2;subst e;have fD:H2 s2.heap.objs.size=none:=I2.hok.fresh (Nat.le_refl _);obtain ⟨W,⟨m0,w0⟩,turn⟩:=hW s2.heap.objs.size fD;refine wpAny_newObj_type (wpAny_newFunctionEnv S.nocell (by intro y hy; simp at hy) (fun h₁ hns₁ hsb₁=>?_) S.kind);have I3:Inv X pins σ (upd H2 s2.heap.objs.size (.lst [])) { s2 with heap:=s2.heap.push { cls:=.type "list",dict:=none,data:=.seq ([]:List Value).toArray } }:=I2.lnew (its:=[]) (t':=s2.toks) .nil (Nat.zero_le _);generalize hs3:({ s2 with heap:=s2.heap.push { cls:=.type "list",dict:=none,data:=.seq ([]:List Value).toArray } }:Shared)=s3 at I3 hns₁ hsb₁ ⊢;have hsz:s3.heap.objs.size=s2.heap.objs.size+1:=by rw [<- hs3]; exact Heap.size_push ..
 have ob2:∀ b ∈ fp,∃ o,s3.heap.get? b=some o:=fun b hb=>by
  obtain ⟨o,e,_⟩:=T.obj _ _ st2 b hb;rw [<- hs3];exact ⟨o,Heap.get?_push_of_some _ e⟩
 have f3:∀ b ∈ fp,FpOk X pins (upd H2 s2.heap.objs.size (.lst [])) b:=fun b hb=>by
  obtain ⟨o,e,_⟩:=T.obj _ _ st2 b hb;refine ⟨?_,(f2 b hb).2⟩;rw [ao (Nat.ne_of_lt (Heap.lt_size e))];exact (f2 b hb).1
 have kp:∀ b o,s3.heap.get? b=some o->h₁.get? b=some o:=fun b o e=>hsb₁.extBut b o (Nat.ne_of_lt (Heap.lt_size e)) (Heap.get?_push_of_some _ e)
 have st3:tn 0 h₁:=T.keep _ _ _ st2 fun b _ o e=>kp b o (by rw [<- hs3]; exact Heap.get?_push_of_some _ e)
 have J4:Inv (cxC X scope (clOf X.env.cells scope.names []) N' s3.heap.objs.size s3 (upd H2 s2.heap.objs.size (.lst [])) fp) (X.pn++pins) (compσ nt fi σ) (upd H2 s2.heap.objs.size (.lst [])) { s3 with heap:=h₁,toks:=s3.toks+([]:List (Str × Value)).length }:=
  ql I3 S cn f3 ob2 hns₁ kp I3.tk
 generalize hcl:clOf X.env.cells scope.names []=cl at J4 ⊢;generalize hH3:upd H2 s2.heap.objs.size (.lst [])=H3 at J4 I3 f3 w0;have stat:∀ {H':Hp},(∀ b ∈ fp,H' b=none)->∀ b ∈ fp,FpOk (cxC X scope cl N' s3.heap.objs.size s3 H3 fp) (X.pn++pins) H' b:=fun {H'} hn b hb=>by
  obtain ⟨g0,g1,g2,g3,g4,g5⟩:=f3 b hb;have ok:=J4.ok;refine ⟨hn b hb,(ok.exf b hb).1,ok.exfs b hb,.inl hb,(ok.exf b hb).2,fun p hp=>g5 p ?_⟩;have hp':p ∈ ([]:List (Addr × Obj))++(X.pn++pins):=hp;simpa using hp'
 have loop:∀ s₃:Shared,s₃ = { s3 with heap:=h₁,toks:=s3.toks+([]:List (Str × Value)).length } ->
   codeAny (model X.prog X.w) X.A (.compLoop (.ListComp elt [⟨tg,iter,ifs,0⟩] scope pos) 0 (.ref it) (.ref s2.heap.objs.size) (compEnvC scope cl s3.heap.objs.size X.env))
    (compPost (model X.prog X.w) X.A X.xe (some (assign (.Name x pos') X.env)) (fun _ s'=>∃ σ' H',Inv X pins σ' H' s'/\D.nx σ' H') (.ref s2.heap.objs.size) s3.heap.objs.size) s₃:=by
  rintro s₃ rfl;refine jD (fun n s'=>∃ i acc H',Inv (cxC X scope cl N' s3.heap.objs.size s3 H3 fp) (X.pn++pins) (compσ nt fi σ) H' s'/\tn i s'.heap/\(∀ b ∈ fp,H' b=none)/\W i n acc H') ?_ m0
   ⟨0,[],H3,J4,st3,fun b hb=>(f3 b hb).1,w0⟩
  rintro n s5 ⟨ii,acc,H5,I5,st5,fr5,w5⟩;rcases turn ii n acc H5 w5 with ⟨stop,qn⟩ | ⟨go,step⟩
  ·refine thn (T.done (cxC X scope cl N' s3.heap.objs.size s3 H3 fp) rfl rfl rfl hcalm ii (X.pn++pins) s5 (compσ nt fi σ) H5 (fun _ _=>False) I5 (stat fr5) st5 stop) fun r s6 ⟨hr,I6⟩=>?_
   subst hr;obtain ⟨m6,hn6,_⟩:=I6.loc;have I7:Inv X pins σ H5 s6:=rm I3 f3 (Nat.le_refl _) I6 (Heap.SameBut.refl _ s6.heap);have fC:FpOk X pins H5 s3.heap.objs.size:=I3.fpOk (Nat.le_refl _) I6.free;obtain ⟨c0,c1,c2,c3,c4,c5⟩:=fC;refine wpAny_assign_Name (oI I7 hN hi0 hx (v:=.ref s2.heap.objs.size) rfl (fun s8 I8 ⟨a,sb,ha⟩=>?_) hf);have na:a≠s3.heap.objs.size:=by
    rcases ha with rfl | ha
    ·exact c1.symm
    ·exact c4 x a ha
   refine ⟨m6,hn6.sameBut sb na.symm,fun h' sb'=>⟨_,H5,?_,qn⟩⟩;exact I8.turned (t':=s8.toks) (fun b o nb e=>(sb'.2 b nb).trans e) c0 c1 c3 c4 c5
  ·refine thn (T.item (cxC X scope cl N' s3.heap.objs.size s3 H3 fp) rfl rfl rfl hcalm ii (X.pn++pins) s5 (compσ nt fi σ) H5 (fun _ _=>False) I5 (stat fr5) st5 go) fun r s6 ⟨u,hr,h6⟩=>?_
   subst hr;refine thn h6 fun _ s7 ⟨y,H7,I7,r7,y7,st7,fr7⟩=>?_
   have I7':=I7.pinned (stat fr7) (T.obj _ _ st7);refine thn (hg _ _ _ _ _ _ s7 (compσ nt fi σ) H7 y u _ I7' r7 (gk _ _ _ _ (step y H7 y7))) fun _ s8 ⟨σ8,H8,I8,q8,l8,d8⟩=>?_
   refine thn (hc _ _ _ _ _ _ s8 σ8 H8 _ I8 q8) fun b s9 ⟨H9,I9,q9⟩=>?_
   have again:∀ {s':Shared} {H':Hp} {m':Nat} {acc':List V},Inv (cxC X scope cl N' s3.heap.objs.size s3 H3 fp) ((X.pn++pins)++pinsAt fp s7.heap) σ8 H' s'->m' < n->W (ii+1) m' acc' H' ->
     ∃ m,m < n/\∃ i acc H',Inv (cxC X scope cl N' s3.heap.objs.size s3 H3 fp) (X.pn++pins) (compσ nt fi σ) H' s'/\tn i s'.heap/\(∀ b ∈ fp,H' b=none)/\W i m acc H':=fun {s' H' m' acc'} I' hm w'=>by
    refine ⟨m',hm,ii+1,acc',H',I'.unpinned.weak l8.symm (compσ_weak l8 d8),T.keep _ _ _ st7 fun b hb o e=>(I'.pin (b,o) (List.mem_append_right _ (List.mem_append_right _ (cZ hb e)))).1,fun b hb=>?_,w'⟩;obtain ⟨o,e,d⟩:=T.obj _ _ st7 b hb;exact (I'.pin (b,o) (List.mem_append_right _ (List.mem_append_right _ (cZ hb e)))).2.1
   cases b with
   | false=>
    rw [if_neg Bool.false_ne_true] at q9 ⊢;obtain ⟨m',hm,w'⟩:=q9;exact again I9 hm w'
   | true=>
    rw [if_pos rfl] at q9 ⊢;refine thn (he _ _ _ _ _ _ s9 σ8 H9 _ I9 q9) fun uv s10 ⟨v10,H10,I10,r10,hD,hlt,m',hm,w'⟩=>?_
    refine thn (kB (X:=cxC X scope cl N' s3.heap.objs.size s3 H3 fp) _ s10 σ8 H10 (.ref s2.heap.objs.size) [v10] (.ref s2.heap.objs.size) [uv] (fun _ H'=>H'=upd H10 s2.heap.objs.size (.lst (acc++[v10]))) I10 rfl (.cons r10 .nil) ⟨_,acc,v10,rfl,rfl,hD,hlt,rfl⟩) fun _ s11 ⟨_,H11,I11,_,e11⟩=>?_
    subst e11;exact again I11 hm w'
 exact codeAny_compStart_list (loop _ rfl) (T.self _ 0 _ _ _ st3 (loop _ rfl))
end
section
variable {X:Cx} {pins:List (Addr × Obj)} {σ:St} {H:Hp} {s:Shared}
end
section
variable {P:Program} {w:World} {K:Frag} {mg:Str->Option Value} {base:Heap} {N:List Str} {qual:Str} {scope:Scope} {f:Addr} {cd:Value} {A:Around} {outer:List Env} {s₀:Shared} {H₀:Hp} {E:XK}
end
section
variable {X:Cx} {x:Str} {C:Addr} {np cpos pos:Pos} {e:Expr} {es:List Expr} {t:TA} {E:XK}
end
section
variable {K:Frag} {M:Model} {h:Heap} {C D e:Addr}
end
section
variable {X:Cx} {W:St->XK} {p pins:List (Addr × Obj)} {σ:St} {H:Hp} {s:Shared}
end
section
variable {X:Cx} {CX:CXT} {k:Nat} {f:Addr} {fd:FuncData} {ps:List Str} {sp:Sp} {dvs:List V} {ds:List Value} {W:St->XK} {x:Str} {p pos:Pos} {e:Expr} {es:List Expr} {t:TA}
end
end L2
namespace L2
open PySem PySem.Spec PySem.Calls PyProof.Rows PySem.W Builtin Builtin.ObjectAttr Builtin.Getset_descriptor
section
variable {prog:Program} {w:World} {A:Around} {E:Value->Shared->Prop} {K:Frag} {x C:Addr} {o:Obj} {h:Heap} {g:Array GenState} {d:Drawn} {t:Nat} {os:OsState}
end
section
variable {X:Cx} {pins:List (Addr × Obj)} {σ:St} {H:Hp} {s:Shared}
noncomputable def V.cv:V->Option Value
 | .ref a=>some (.ref a)
 | .ty n=>some (.type n)
 | _=>none
end
end L2
namespace L2
open PySem PySem.Spec PyProof.Rows
section
variable {X:Cx} {k:Nat} {x:Str} {ps:List Str} {sp:Sp} {p pos:Pos} {e:Expr} {es:List Expr} {t:TA} {E:XK} {W:St->XK}
end
section
variable {X:Cx} {a c:Expr} {es:List Expr} {ta:TE} {pos p tpos:Pos} {x1:Nat}
end
noncomputable abbrev TJ:=Nat->St->Hp->(Hp->Prop)->Prop
section
variable {X:Cx} {e v1 v2:Expr} {es rest:List Expr} {te:TE} {tj:TJ} {pos:Pos}
end
noncomputable def xA (K:Frag) (x:Str):Addr:=match nsIn K mainGlobals x with
 | some (some (.ref a))=>a
 | _=>0
theorem qO {K:Frag} {x:Str} {C:Addr} (e:nsIn K mainGlobals x=some (some (.ref C))):xA K x=C:=by unfold xA; rw [e]
section
variable {K:Frag} {h:Heap} {mg:Str->Option Value} {x y:Str} {C D:Addr}
end
end L2
namespace L2
open PySem PySem.Spec PyProof.Rows PySem.Builtin PySem.Builtin.Str
theorem pc {n a b:Nat} (h1:a<=b) (h2:b<=n):strSliceIndices (some (a:Int)) (some (b:Int)) 1 n=(List.range (b - a)).map fun k=>a+k:=by
 have e1:¬ ((a:Int) < 0):=by omega
 have e2:¬ ((b:Int) < 0):=by omega
 have e3:max 0 (min (a:Int) (n:Int))=a:=by omega
 have e4:max 0 (min (b:Int) (n:Int))=b:=by omega
 simp only [strSliceIndices,e1,e2,if_false,show (1:Int) > 0 by decide,if_true,e3,e4,sliceRange];have c:(if (a:Int) < b then ((b:Int) - a+1 - 1) / 1 else 0).toNat=b - a:=by
  split <;> omega
 rw [c];apply List.map_congr_left;intro k _;omega
theorem lA (l:List Nat) (a m:Nat) (h:a+m<=l.length):((List.range m).map fun k=>a+k).filterMap (fun i=>l[i]?)=(l.drop a).take m:=by
 induction m with
 | zero=>simp
 | succ m ih=>
  have hl:a+m < l.length:=by omega
  rw [List.range_succ,List.map_append,List.filterMap_append,ih (by omega),List.take_add_one,List.getElem?_drop];simp [List.getElem?_eq_getElem hl]
theorem tF (l:List Nat) (a b:Nat) (h1:a<=b) (h2:b<=l.length):Txt.slice (st l) (some (a:Int)) (some (b:Int))=st ((l.drop a).take (b - a)):=by
 have hl:(st l).length=l.length:=by simp [Str.length]
 unfold Txt.slice;rw [hl,pc h1 h2];have f:((List.range (b - a)).map fun k=>a+k).filterMap ((st l).cps[·]?)=(l.drop a).take (b - a):=by
  rw [<- lA l a (b - a) (by omega)];congr 1;funext i;simp
 split
 ·rename_i g;simp only [List.length_map,List.length_range,beq_self_eq_true,Bool.true_and,beq_iff_eq] at g;have e1:a=0:=by omega
  have e2:b=l.length:=by omega
  subst e1 e2;simp
 ·rw [f]
section
variable {X:Cx}
noncomputable def kSlB:V->Option Int->Option Int->Hp->VK->Prop:=fun x lo hi H Q=>match x,lo,hi with
 | .str z,some i,some j=>z.cps.toList.length<=100000/\0<=i/\i<=j/\j<=z.cps.toList.length/\Q (.str (st ((z.cps.toList.drop i.toNat).take (j.toNat - i.toNat)))) H
 | _,_,_=>False
theorem slB:SlR X kSlB:=o8.imp fun x lo hi H Q q=>by
 unfold kSlB at q;split at q
 ·rename_i z i j;obtain ⟨h,h0,h1,h2,q⟩:=q;obtain ⟨a,rfl⟩:∃ k:Nat,i=k:=⟨i.toNat,by omega⟩;obtain ⟨b,rfl⟩:∃ k:Nat,j=k:=⟨j.toNat,by omega⟩;refine ⟨z,rfl,by rw [strlen]; exact Nat.le_trans h big5,?_⟩;have e:=tF z.cps.toList a b (by omega) (by omega);rw [aF] at e;rw [e];simpa using q
 ·exact q.elim
theorem An {l:List Nat} {i j:Int} {H:Hp} {Q:VK}:kSlB (.str (st l)) (some i) (some j) H Q=(l.length<=100000/\0<=i/\i<=j/\j<=l.length/\Q (.str (st ((l.drop i.toNat).take (j.toNat - i.toNat)))) H):=rfl
end
end L2
namespace L2
open PySem PySem.Spec PyProof.Rows
section
variable {K:Frag} {g:TG} {tc:TT} {te:TE} {σc:St} {D:Addr} {Q:VK} {H:Hp}
theorem qc {α β:Type} {F:α -> β -> Prop} {l:List α} {m:List β} {x:α} {y:β} (h:Paired F l m) (r:F x y):Paired F (l++[x]) (m++[y]):=by
 induction h with
 | nil=>exact .cons r .nil
 | cons r' _ ih=>exact .cons r' ih
theorem kj {lo:Int} {n:Nat} (R:Nat->V->Hp->Prop) (hfree:H D=none) (hn:n<=100000)
  (mono:∀ x v H1 H2 acc,H1 D=some (.lst acc)->(∀ b o,b≠D->H1 b=some o->H2 b=some o)->R x v H1->R x v H2)
  (hs:∀ i H1 (out:VK) (non:Hp->Prop),i < n->Same H H1->(∀ v H6,Same H1 H6->R i v H6->out v H6) ->
   g (.int (lo+i)) σc H1 fun σ4 H4=>tc σ4 H4 fun b H5=>if b=true then te σ4 H5 out else non H5)
  (hq:∀ H' vs,Same H H'->H' D=some (.lst vs)->Paired (fun x v=>R x v H') (List.range n) vs->Q (.ref D) H'):compW (Itr lo n) g tc te σc D Q H:=by
 refine ⟨fun i m acc H2=>m=n - i/\i<=n/\Paired (fun x v=>R x v H2) (List.range i) acc/\Same H H2/\H2 D=some (.lst acc),⟨n,by simp,Nat.zero_le _,.nil,ae hfree _,upd_same⟩,?_⟩;rintro i m acc H2 ⟨rfl,hi,pr,sm,hD⟩;have len:acc.length=i:=by rw [<- pr.length,List.length_range]
 by_cases hlt:i < n
 ·refine .inr ⟨hlt,fun x H3 y=>?_⟩;obtain ⟨rfl,rfl⟩:=y;refine hs i _ _ _ hlt sm fun v H6 s6 r=>?_
  refine ⟨s6 _ _ hD,Nat.lt_of_le_of_lt (Nat.le_of_eq len) (sizeBig (by omega)),n - (i+1),by omega,rfl,hlt,?_,aH (sm.trans s6) hfree,upd_same⟩;have lift:∀ {l:List Nat} {vs:List V},Paired (fun x v=>R x v H3) l vs->Paired (fun x v'=>R x v' (upd H6 D (.lst (acc++[v])))) l vs:=fun pp=>
   L2.Paired.mapP pp fun _ _ r=>mono _ _ H3 _ acc hD (fun b o nb q=>by rw [ao nb]; exact s6 _ _ q) r
  rw [List.range_succ];exact qc (lift pr) (mono _ _ H6 _ acc (s6 _ _ hD) (fun b o nb q=>by rw [ao nb]; exact q) r)
 ·have e:i=n:=by omega
  subst e;exact .inl ⟨Nat.le_refl _,hq H2 acc sm hD pr⟩
end
section
variable {X:Cx} {k:Nat} {x:Str} {ps:List Str} {sp:Sp} {p pos:Pos} {e:Expr} {es:List Expr} {t:TA}
end
section
variable {κ:Type} [DecidableEq κ]
noncomputable def valV (kvs:List (κ × V)) (k:κ):Option V:=(kvs.find? fun kv=>decide (kv.1=k)).map (·.2)
noncomputable def putK (kvs:List (κ × V)) (k:κ) (v:V):List (κ × V):=
 if (kvs.any fun kv=>decide (kv.1=k))=true then kvs.map (fun kv=>if kv.1=k then (kv.1,v) else kv) else kvs++[(k,v)]
theorem jN {p:κ × V} {r:List (κ × V)} {k:κ} (e:p.1=k):valV (p::r) k=some p.2:=by simp [valV,List.find?_cons,e]
theorem jI {p:κ × V} {r:List (κ × V)} {k:κ} (e:¬ p.1=k):valV (p::r) k=valV r k:=by simp [valV,List.find?_cons,e]
theorem qy (k:κ):∀ kvs:List (κ × V),(kvs.any fun kv=>decide (kv.1=k))=(valV kvs k).isSome
 | []=>rfl
 | p::r=>by
  rw [List.any_cons];by_cases e:p.1=k
  ·simp only [jN e,decide_eq_true e,Bool.true_or,Option.isSome_some]
  ·rw [jI e,decide_eq_false e,Bool.false_or]; exact qy k r
theorem rA (kvs:List (κ × V)) (k:κ) (v:V):(putK kvs k v).length<=kvs.length+1:=by
 unfold putK;split
 ·rw [List.length_map]; omega
 ·rw [List.length_append,List.length_cons,List.length_nil]; omega
theorem wc {kvs:List (κ × V)} {k:κ} (v:V) (h:valV kvs k=none):putK kvs k v=kvs++[(k,v)]:=by
 unfold putK;rw [qy,h];exact if_neg (by decide)
theorem KV.val {kvs:List (κ × V)} {vs:List (κ × Value)} (r:KV kvs vs) (k:κ):RelO (valV kvs k) (valueAt vs k):=by
 unfold KV at r
 induction r with
 | nil=>exact True.intro
 | @cons p q ps qs h t ih=>
  obtain ⟨h1,h2⟩:=h;by_cases e:p.1=k
  ·have e':q.1=k:=h1.symm.trans e;have b:valueAt (q::qs) k=some q.2:=by simp [valueAt,List.find?_cons,e']
   rw [jN e,b]; exact h2
  ·have e':¬ q.1=k:=fun z=>e (h1.trans z)
   have b:valueAt (q::qs) k=valueAt qs k:=by simp [valueAt,List.find?_cons,e']
   rw [jI e,b]; exact ih
theorem KV.any {kvs:List (κ × V)} {vs:List (κ × Value)} (r:KV kvs vs) (k:κ):(kvs.any fun kv=>decide (kv.1=k))=vs.any fun kv=>decide (kv.1=k):=by
 unfold KV at r
 induction r with
 | nil=>rfl
 | cons h t ih=>rw [List.any_cons,List.any_cons,ih,h.1]
theorem KV.repl {kvs:List (κ × V)} {vs:List (κ × Value)} (r:KV kvs vs) (k:κ) {y:V} {u:Value} (ry:RelV y u):
  KV (kvs.map fun kv=>if kv.1=k then (kv.1,y) else kv) (vs.map fun kv=>if kv.1=k then (kv.1,u) else kv):=by
 unfold KV at r ⊢
 induction r with
 | nil=>exact .nil
 | @cons p q ps qs h t ih=>
  rw [List.map_cons,List.map_cons];refine .cons ?_ ih;obtain ⟨h1,h2⟩:=h;by_cases e:p.1=k
  ·rw [if_pos e,if_pos (h1.symm.trans e)]; exact ⟨h1,ry⟩
  ·rw [if_neg e,if_neg (fun z=>e (h1.trans z))]; exact ⟨h1,h2⟩
theorem KV.put {kvs:List (κ × V)} {vs:List (κ × Value)} (r:KV kvs vs) (k:κ) {y:V} {u:Value} (ry:RelV y u):KV (putK kvs k y) (stored vs k u):=by
 unfold putK stored;rw [r.any k];by_cases e:(vs.any fun kv=>decide (kv.1=k))=true
 ·rw [if_pos e,if_pos e]; exact r.repl k ry
 ·rw [if_neg e,if_neg e]; exact Paired.snoc r ⟨rfl,ry⟩
theorem KV.length {kvs:List (κ × V)} {vs:List (κ × Value)} (r:KV kvs vs):kvs.length=vs.length:=Paired.length r
end
theorem xm {P:Program} {w:World} {k:Key} {u:Value} (r:RelV (kV k) u):(mixKind P w).is k u=true:=by
 cases k with
 | inl i=>obtain ⟨t,e⟩:=(show ∃ t,u=Value.int i t from r); subst e; exact qj P w i t
 | inr x=>obtain ⟨t,e⟩:=(show ∃ t,u=Value.str x t from r); subst e; exact qC P w x t
theorem n8 {P:Program} {w:World}:∀ {ks:List Key} {us:List Value},Vals (ks.map kV) us->ItemsAre (mixKind P w) ks us
 | [],_,r=>by rw [List.map_nil] at r; cases r; exact .nil
 | k::ks,_,r=>by
  rw [List.map_cons] at r;cases r with
  | cons h t=>exact .cons (xm h) (n8 t)
noncomputable abbrev KT (H:Hp):List (List Key × V)->List (List Key × Addr × Value)->Prop:=Paired fun p q=>p.1=q.1/\H q.2.1=some (.tup (p.1.map kV))/\RelV p.2 q.2.2
theorem KT.val {H:Hp} {kvs:List (List Key × V)} {xs:List (List Key × Addr × Value)} (r:KT H kvs xs) (k:List Key):RelO (valV kvs k) ((atKey xs k).map (·.2)):=by
 induction r with
 | nil=>exact True.intro
 | @cons p q ps qs h t ih=>
  obtain ⟨h1,_,h2⟩:=h;by_cases e:p.1=k
  ·have e':q.1=k:=h1.symm.trans e;have b:atKey (q::qs) k=some q.2:=by simp [atKey,List.find?_cons,e']
   rw [jN e,b]; exact h2
  ·have e':¬ q.1=k:=fun z=>e (h1.trans z)
   have b:atKey (q::qs) k=atKey qs k:=by simp [atKey,List.find?_cons,e']
   rw [jI e,b]; exact ih
section
variable {P:Program} {w:World} {H:Hp} {h:Heap} {a:Addr}
theorem zo {u:HO} (ok:HOk P w H h) (e:Rd H a u):ObjOk P w H h a u:=e.ok ok
theorem nr {kvs:List (Key × V)} (ok:HOk P w H h) (e:Rd H a (.dK kvs)):kvs.length<=sizeLine/\(a == sysModules)=false/\∃ vs,KV kvs vs/\h.DictOf (mixKind P w) a vs:=
 show ObjOk P w H h a (.dK kvs) from zo ok e
theorem zn {kvs:List (Key × V)} (ok:HOk P w H h) (e:H a=some (.dK kvs)):kvs.length<=sizeLine/\(a == sysModules)=false/\∃ vs,KV kvs vs/\h.DictOf (mixKind P w) a vs:=nr ok (.inl e)
theorem wR {ks:List Key} (ok:HOk P w H h) (e:H a=some (.tup (ks.map kV))):(tupleKind (mixKind P w)).is h ks a:=by
 obtain ⟨_,its,r,o,h1,h2,n,h3⟩:=(show ObjOk P w H h a (.tup (ks.map kV)) from ok a _ e);exact ⟨o,its.toArray,n,h1,h2,h3,by simpa using n8 r⟩
theorem w9 {kvs:List (List Key × V)} (ok:HOk P w H h) (e:Rd H a (.dT kvs)):kvs.length<=sizeLine/\(a == sysModules)=false /\
  ∃ xs,KT H kvs xs/\h.DictOfH (tupleKind (mixKind P w)) a xs:=by
 obtain ⟨z,y,xs,r,o,es,ep,h1,h2,h3,h4,h5⟩:=(show ObjOk P w H h a (.dT kvs) from zo ok e);refine ⟨z,y,xs,r,o,es,ep,h1,h2,h3,h4,fun x hx=>?_,h5⟩;have all:∀ {l:List (List Key × V)} {m:List (List Key × Addr × Value)},KT H l m->∀ x ∈ m,(tupleKind (mixKind P w)).is h x.1 x.2.1:=by
  intro l m q
  induction q with
  | nil=>intro x hx; exact nomatch hx
  | @cons p q ps qs hq t ih=>
   intro x hx;rcases List.mem_cons.mp hx with e | hx
   ·subst e;exact wR ok (by rw [<- hq.1]; exact hq.2.1)
   ·exact ih x hx
 exact all r x hx
end
def DGet (H:Hp) (a:Addr) (y:V) (r:Option V):Prop:=
 (∃ kvs k,Rd H a (.dK kvs)/\y=kV k/\r=valV kvs k)\/∃ kvs k b,Rd H a (.dT kvs)/\y=.ref b/\H b=some (.tup (k.map kV))/\r=valV kvs k
section
variable {X:Cx} {pins:List (Addr × Obj)} {σ:St} {H:Hp} {s:Shared} {a:Addr} {y v:V} {u r:Value} {o:Option V} {A:Around} {E:Value->Shared->Prop}
theorem Inv.big (I:Inv X pins σ H s):sysModules < s.heap.objs.size:=by
 have h:mainGlobals < s.heap.objs.size:=(I.mod.glob.keeps I.bk).lt;exact Nat.lt_trans (by decide) h
theorem uX {Q:Value->Shared->Prop} (hu:A.units+1 < cLine) (I:Inv X pins σ H s) (g:DGet H a y (some v)) (ry:RelV y u) (h:∀ w' s',Inv X pins σ H s'->RelV v w'->Q w' s'):
  wpAny (model X.prog X.w) A (getItem (.ref a) u) Q E s:=by
 rcases g with ⟨kvs,k,e,ey,l⟩ | ⟨kvs,k,b,e,ey,eb,l⟩
 ·subst ey;obtain ⟨z,hd,vs,rel,dd⟩:=nr I.hok e;obtain ⟨w',hw,rw'⟩:=RelO.some_of (v:=v) (o:=valueAt vs k) (by rw [l]; exact rel.val k);exact wpAny_getItem_of (xm ry) dd.mapOf hw (h w' _ (I.tok _) rw')
 ·subst ey;cases (show u=Value.ref b from ry);obtain ⟨z,hd,xs,rel,dd⟩:=w9 I.hok e;obtain ⟨w',hw,rw'⟩:=RelO.some_of (v:=v) (o:=(atKey xs k).map (·.2)) (by rw [l]; exact rel.val k);obtain ⟨p,hp,hp2⟩:=Option.map_eq_some_iff.mp hw;refine wpAny_getItem_heap (tupleKind_room_in1 hu) (wR I.hok eb) dd hp ?_;rw [hp2];exact h w' _ (I.tok _) rw'
theorem tM {h':Heap} {t':Nat} {ob:HO} (I:Inv X pins σ H s) (mu:Mut (H a)) (hs:Heap.SameBut a s.heap h') (he:∃ q,h'.get? a=some q) (new:ObjOk X.prog X.w (upd H a ob) h' a ob) (ht:0 < t':=by first | assumption | exact Nat.succ_pos _ | (apply Inv.tk; assumption) | omega):
  Inv X pins σ (upd H a ob) { s with heap:=h',toks:=t' }:=
 I.write (x:=a) (e:=a) mu (.inl rfl) (fun b q hb z=>(hs.2 b hb).trans z) he new
theorem vV {P:Program} {w:World} {H':Hp} {h':Heap} {kvs:List (Key × V)} {vs:List (Key × Value)} (z:kvs.length<=sizeLine) (hd:(a == sysModules)=false) (rel:KV kvs vs) (dd:h'.DictOf (mixKind P w) a vs):
  ObjOk P w H' h' a (.dK kvs):=⟨z,hd,vs,rel,dd⟩
end
section
variable {X:Cx} {pins:List (Addr × Obj)} {σ:St} {H:Hp} {s:Shared} {a:Addr} {kvs:List (Key × V)} {k:Key} {u:Value} {A:Around} {E:Value->Shared->Prop}
theorem Bc {Q:Value->Shared->Prop} (I:Inv X pins σ H s) (e:Rd H a (.dK kvs)) (h:∀ t s',Inv X pins σ H s'->Q (.int kvs.length t) s'):wpAny (model X.prog X.w) A (call (.builtin "len") [.ref a]) Q E s:=by
 obtain ⟨z,hd,vs,rel,dd⟩:=nr I.hok e;refine call_len_dict hd dd (by rw [<- rel.length]; rw [sizeLine_eq] at z; omega) ?_;rw [<- rel.length];exact h _ _ (I.tok _)
end
def NoSl (i:Expr):Prop:=∀ ov iv,subscripted i false ov iv=operate [ov,iv] (getItem ov iv)
theorem y3 {prog:Program} {w:World} {A:Around} {E:Value->Shared->Prop} {s:Shared} {env:Env} {value slice:Expr} {pos:Pos} {T id:String} {Q:Value->Shared->Prop}
  (hl:typeLookup (.type T) "__getitem__" = pure (some (.builtin id))) (hs:NoSl slice)
  (h:wpAny (model prog w) A (eval value env) (fun o s₁=>wpAny (model prog w) A (eval slice env) (fun i s₂=>s₂.TypeIs o T/\wpAny (model prog w) A (getItem o i) Q E s₂) E s₁) E s):
  wpAny (model prog w) A (eval (.Subscript value slice pos) env) Q E s:=by
 refine Subscript_ (wpAny_mono h (fun o s₁ h₁=>wpAny_mono h₁ (fun i s₂ h₂=>?_) fun _ _ x=>x) fun _ _ x=>x);obtain ⟨hT,h₂⟩:=h₂;unfold subscriptTail;refine wpAny_bind ?_;rw [getitemInPython_of_ne hT.not_modules];refine wpAny_bind (wpAny_specialOf hT hl ?_);have fin:wpAny (model prog w) A (subscripted slice false o i) (fun r s₃=>wpAny (model prog w) A (letTemporaryGo value o r>>=fun _=>pure r) Q E s₃) E s₂:=by
  rw [hs o i];exact wpAny_operating (wpAny_mono h₂ (fun r s₃ h₃=>wpAny_bind (wpAny_letTemporaryGo (wpAny_pure h₃))) fun _ _ x=>x)
 first
  | exact wpAny_pure (wpAny_bind fin)
  | exact wpAny_bind (wpAny_pure (wpAny_bind fin))
  | exact wpAny_bind fin
theorem qL {X:Cx} {pins:List (Addr × Obj)} {σ:St} {H:Hp} {s:Shared} {a:Addr} {y:V} {o:Option V} (I:Inv X pins σ H s) (g:DGet H a y o):s.TypeIs (.ref a) "dict" := by
 rcases g with ⟨kvs,k,e,_,_⟩ | ⟨kvs,k,b,e,_,_,_⟩
 ·obtain ⟨_,_,vs,_,dd⟩:=nr I.hok e;exact dd.typeIs
 ·obtain ⟨_,_,xs,_,dd⟩:=w9 I.hok e;exact dd.typeIs
noncomputable def tDGet (td ty:TE):TE:=fun σ H Q=>td σ H fun x H1=>ty σ H1 fun y H2=>∃ a v,x=.ref a/\DGet H2 a y (some v)/\Q v H2
section
variable {X:Cx} {o i e value:Expr} {pos pos' tpos:Pos} {td ty tv:TE}
theorem xE (hu:X.A.units+1 < cLine) (ho:PE X o td) (hi:PE X i ty) (hs:NoSl i):PE X (.Subscript o i pos) (tDGet td ty):=by
 intro pins s σ H Q I h;refine y3 PySem.F.slot_dict_getitem.lookup hs (thn (ho pins s σ H _ I h) fun u s1 ⟨x,H1,I1,rx,q1⟩=>thn (hi pins s1 σ H1 _ I1 q1) fun iv s2 ⟨y,H2,I2,ry,a,v,ex,g,q2⟩=>?_);subst ex;obtain rfl:u=Value.ref a:=rx;exact ⟨qL I2 g,uX hu I2 g ry fun w' s3 I3 rw'=>⟨v,H2,I3,rw',q2⟩⟩
end
theorem wt {P:Program} {w:World} {H:Hp} (h:Heap) (hb:sysModules < h.objs.size):ObjOk P w H (h.push { cls:=.type "dict",data:=.dict #[] }) h.objs.size (.dK []):=
 ⟨Nat.zero_le _,beq_eq_false_iff_ne.mpr (Ne.symm (Nat.ne_of_lt hb)),[],.nil,Heap.DictOf.new h⟩
noncomputable def tDNewK:TE:=fun _ H Q=>∀ p,H p=none->Q (.ref p) (upd H p (.dK []))
section
variable {X:Cx} {pos:Pos}
theorem wn:PE X (.Dict [] [] pos) tDNewK:=fun pins s σ H Q I h=>
 wpAny_Dict_empty ⟨.ref s.heap.objs.size,_,I.laid (a:=s.heap.objs.size) (o:=.dK []) (t':=s.toks) (fun _ _ q=>Heap.get?_push_of_some _ q) (Nat.le_refl _) (wt s.heap I.big),rfl,h _ (I.hok.fresh (Nat.le_refl _))⟩
end
structure M2 (X:Cx) (o:Expr) (m:Str) (apos:Pos) (e f:Expr) (cpos:Pos):Prop where
 base:attributeBase o m X.env (eval o X.env)=eval o X.env
 few:((backTo cpos (starEach [e,f] X.env)).all (fun x=>!x.1) && (backToKw cpos (keywordEach [] X.env)).all (fun x=>x.1.isSome)
  && decide (([e,f]:List Expr).length+([]:List Keyword).length+(if ([]:List Keyword).isEmpty then 0 else 1) < 30))=true
 line:(apos.endLine == cpos.line)=true
 trees:backTo cpos (starEach [e,f] X.env)=[(false,eval e X.env),(false,eval f X.env)]
def IsD (H:Hp) (a:Addr):Prop:=(∃ kvs,Rd H a (.dK kvs))\/∃ kvs,Rd H a (.dT kvs)
theorem wM {X:Cx} {pins:List (Addr × Obj)} {σ:St} {H:Hp} {s:Shared} {a:Addr} (I:Inv X pins σ H s) (d:IsD H a):
  s.TypeIs (.ref a) "dict" /\ (∀ b,Value.ref a=.ref b->∃ ob,s.heap.get? b=some ob/\ob.dict=none)/\(a == sysModules)=false:=by
 rcases d with ⟨kvs,e⟩ | ⟨kvs,e⟩
 ·obtain ⟨_,hd,vs,_,dd⟩:=nr I.hok e;refine ⟨dd.typeIs,fun b q=>?_,hd⟩;cases q;obtain ⟨ob,_,_,h1,h2,_⟩:=dd;exact ⟨ob,h1,h2.2.1⟩
 ·obtain ⟨_,hd,xs,_,dd⟩:=w9 I.hok e;refine ⟨dd.typeIs,fun b q=>?_,hd⟩;cases q;obtain ⟨ob,_,_,h1,h2,_⟩:=dd;exact ⟨ob,h1,h2.2.1⟩
section
variable {X:Cx} {pins:List (Addr × Obj)} {σ:St} {H:Hp} {s:Shared} {a:Addr} {y d:V} {u r:Value} {o:Option V} {A:Around} {E:Value->Shared->Prop}
end
section
variable {X:Cx} {o e f:Expr} {apos cpos:Pos} {td ty tx:TE}
end
section
variable {X:Cx} {pins:List (Addr × Obj)} {σ:St} {H:Hp} {s:Shared} {a:Addr} {kvs:List (Key × V)} {A:Around} {E:Value->Shared->Prop}
end
section
variable {X:Cx} {pins:List (Addr × Obj)} {σ:St} {H:Hp} {s:Shared} {a:Addr} {y:V} {u:Value} {A:Around} {E:Value->Shared->Prop}
end
section
variable {X:Cx}
end
section
variable {κ:Type} [DecidableEq κ]
end
section
variable {X:Cx} {o i e value:Expr} {pos pos' apos cpos:Pos} {td ty tv ta:TE}
noncomputable def cDGet (td ty:TE):TE:=fun σ H Q=>td σ H fun x H1=>ty σ H1 fun y H2=>match x with
 | .ref a=>∃ v,DGet H2 a y (some v)/\Q v H2
 | _=>False
theorem xQ (hu:X.A.units+1 < cLine) (ho:PE X o td) (hi:PE X i ty) (hs:NoSl i):PE X (.Subscript o i pos) (cDGet td ty):=
 (xE hu ho.mono hi.mono hs).imp fun σ H Q q=>⟨_,q,fun x H1 z=>⟨_,z,fun y H2 z=>by
  split at z
  ·obtain ⟨v,g,q⟩:=z;exact ⟨_,v,rfl,g,q⟩
  ·exact z.elim⟩⟩
theorem n6 {exc cause:Option Expr}:PS X (.Raise exc cause pos) (fun _ _ _=>False):=fun _ _ _ _ _ _ h=>h.elim
theorem yR {σ:St} {H:Hp} {Q:VK}:cDGet td ty σ H Q=td σ H fun x H1=>ty σ H1 fun y H2=>match x with
 | .ref a=>∃ v,DGet H2 a y (some v)/\Q v H2
 | _=>False:=rfl
theorem yd {σ:St} {H:Hp} {Q:VK}:tDNewK σ H Q=∀ p,H p=none->Q (.ref p) (upd H p (.dK [])):=rfl
end
section
variable {X:Cx} {e:Expr} {te:TE} {pos:Pos}
end
section
variable {X:Cx}
variable {o e f:Expr} {to te tf:TE} {apos cpos:Pos}
end
section
variable {X:Cx} {e:Expr} {te:TE} {apos cpos:Pos}
end
section
variable {X:Cx}
noncomputable def kSlM:V->Option Int->Option Int->Hp->VK->Prop:=fun x lo hi H Q=>match x,lo,hi with
 | .str z,none,some j=>z.cps.toList.length<=100000/\1<=z.cps.toList.length/\j = -1/\Q (.str (st (z.cps.toList.take (z.cps.toList.length - 1)))) H
 | _,_,_=>False
theorem slM:SlR X kSlM:=o8.imp fun x lo hi H Q q=>by
 unfold kSlM at q;split at q
 ·rename_i z j;obtain ⟨h,h1,rfl,q⟩:=q;have hl:z.length=z.cps.toList.length:=strlen z;refine ⟨z,rfl,by rw [strlen]; exact Nat.le_trans h big5,?_⟩;have e:=slice_closes_to_neg (x:=z) (j:=-1) (k:=(z.cps.toList.length:Int) - 1) (by decide) (by omega) (by omega);rw [eq_of_beq e];have e2:((z.cps.toList.length:Int) - 1 - 0).toNat=z.cps.toList.length - 1:=by omega
  rw [e2];exact q
 ·exact q.elim
theorem zt {l:List Nat} {j:Int} {H:Hp} {Q:VK}:kSlM (.str (st l)) none (some j) H Q=(l.length<=100000/\1<=l.length/\j = -1/\Q (.str (st (l.take (l.length - 1)))) H):=rfl
end
section
variable {X:Cx} {pins:List (Addr × Obj)} {σ:St} {H:Hp} {s:Shared} {a:Addr} {y v:V} {u r:Value} {A:Around} {E:Value->Shared->Prop}
theorem wy {Q:Value->Shared->Prop} {kvs:List (Key × V)} {k:Key} (I:Inv X pins σ H s) (e:H a=some (.dK kvs)) (ry:RelV (kV k) u) (rv:RelV v r) (hl:kvs.length < sizeLine)
  (h1:∀ v' w' s',valV kvs k=some v'->Inv X pins σ H s'->RelV v' w'->Q w' s') (h2:∀ s',valV kvs k=none->Inv X pins σ (upd H a (.dK (putK kvs k v))) s'->Q r s'):
  wpAny (model X.prog X.w) A (call (.builtin "dict.setdefault") [.ref a,u,r]) Q E s:=by
 obtain ⟨z,hd,vs,rel,dd⟩:=zn I.hok e;have rv2:=rel.val k;refine call_meetsIn PySem.F.slot_dict_setdefault dd.typeIs PySem.F.entry_dict_setdefault (PySem.F.args_dict_setdefault_3 _ _ _) (kt_meets_setdefault (mixKind X.prog X.w) a (xm ry) hd r) ⟨vs,dd,by rw [<- rel.length]; exact z,fun w' hw=>?_,fun hn h' dd' hs=>?_⟩
 ·rw [hw] at rv2;cases q:valV kvs k with
  | none=>rw [q] at rv2; exact (show False from rv2).elim
  | some v'=>rw [q] at rv2; exact h1 v' w' _ q (I.tok _) rv2
 ·have q:valV kvs k=none:=by
   cases q:valV kvs k with
   | none=>rfl
   | some v'=>rw [hn,q] at rv2; exact (show False from rv2).elim
  have he:∃ q,h'.get? a=some q:=let ⟨q,_,_,hq,_⟩:=dd'; ⟨q,hq⟩
  have hl2:(putK kvs k v).length<=sizeLine:=by have:=rA kvs k v; omega
  exact h2 _ q (tM I (by rw [e]; exact True.intro) hs he (vV hl2 hd (rel.put k rv) dd'))
end
noncomputable def cSetDef (td ty tx:TE):TE:=fun σ H Q=>td σ H fun x H1=>match x with
 | .ref a=>IsD H1 a/\ty σ H1 fun y H2=>tx σ H2 fun z H3=>∃ kvs k,H3 a=some (.dK kvs)/\y=kV k/\kvs.length < sizeLine/\(∀ v,valV kvs k=some v->Q v H3)/\(valV kvs k=none->Q z (upd H3 a (.dK (putK kvs k z))))
 | _=>False
section
variable {X:Cx} {o e f:Expr} {apos cpos:Pos} {td ty tx:TE}
theorem uN (ho:PE X o td) (he:PE X e ty) (hf:PE X f tx) (m:M2 X o "setdefault" apos e f cpos):PE X (.Call (.Attribute o "setdefault" apos) [e,f] [] cpos) (cSetDef td ty tx):=by
 intro pins s σ H Q I h;refine wpAny_Call_method m.base m.few m.line PySem.F.plainAttrs_dict PySem.F.slot_dict_setdefault PySem.F.type_dict_setdefault (thn (ho pins s σ H _ I h) fun u s1 ⟨x,H1,I1,rx,q1⟩=>?_);dsimp only at q1;split at q1
 ·rename_i a;obtain ⟨d,q1⟩:=q1;obtain rfl:u=Value.ref a:=rx;obtain ⟨t1,t2,_⟩:=wM I1 d;refine ⟨t1,t2,?_⟩;rw [m.trees];refine Calls.callWith_builtin rfl (Calls.evalArgs_plain (Calls.spliced_cons (thn (he pins s1 σ H1 _ I1 q1) fun iv s2 ⟨y,H2,I2,ry,q2⟩=>
   Calls.spliced_cons (thn (hf pins s2 σ H2 _ I2 q2) fun fv s3 ⟨z,H3,I3,rz,kvs,k,e3,ey,hl,q3,q4⟩=>Calls.spliced_nil ?_))))
  subst ey;exact wy I3 e3 ry rz hl (fun v' w' s4 hv I4 r4=>⟨v',H3,I4,r4,q3 v' hv⟩) fun s4 hn I4=>⟨z,_,I4,rz,q4 hn⟩
 ·exact q1.elim
theorem vc {σ:St} {H:Hp} {Q:VK}:cSetDef td ty tx σ H Q=td σ H fun x H1=>match x with
 | .ref a=>IsD H1 a/\ty σ H1 fun y H2=>tx σ H2 fun z H3=>∃ kvs k,H3 a=some (.dK kvs)/\y=kV k/\kvs.length < sizeLine/\(∀ v,valV kvs k=some v->Q v H3)/\(valV kvs k=none->Q z (upd H3 a (.dK (putK kvs k z))))
 | _=>False:=rfl
noncomputable def tRetD (te:TE):TS:=fun D σ H=>te σ H fun x H1=>match x with
 | .ref a=>∃ kvs,H1 a=some (.dK kvs)/\∀ ob,D.rt (.ref a) (upd H1 a (.frz ob (.dK kvs)))
 | _=>False
theorem Inv.frozen {pins:List (Addr × Obj)} {σ:St} {H:Hp} {s:Shared} {a:Addr} {kvs:List (Key × V)} (I:Inv X pins σ H s) (e:H a=some (.dK kvs)):∃ ob,Inv X pins σ (upd H a (.frz ob (.dK kvs))) s:=by
 obtain ⟨z,hd,vs,rel,dd⟩:=zn I.hok e;obtain ⟨ob,es,ep,hq,r⟩:=id dd;refine ⟨ob,?_⟩;exact tM (h':=s.heap) (t':=s.toks) I (by rw [e]; exact True.intro) ⟨rfl,fun _ _=>rfl⟩ ⟨ob,hq⟩ ⟨hq,vV z hd rel dd⟩
theorem xJ {pos:Pos} (he:PE X e ty):PS X (.Return (some e) pos) (tRetD ty):=by
 intro pins s σ H D I h;refine wpAny_Return_some (thn (he pins s σ H _ I h) fun v s1 ⟨x,H1,I1,r1,q1⟩=>?_);dsimp only at q1;split at q1
 ·rename_i a;obtain ⟨kvs,e1,q1⟩:=q1;obtain ⟨ob,I2⟩:=I1.frozen e1;exact ⟨.ref a,σ,_,I2,r1,q1 ob⟩
 ·exact q1.elim
theorem yo {D:Ends} {σ:St} {H:Hp}:tRetD ty D σ H=ty σ H fun x H1=>match x with
 | .ref a=>∃ kvs,H1 a=some (.dK kvs)/\∀ ob,D.rt (.ref a) (upd H1 a (.frz ob (.dK kvs)))
 | _=>False:=rfl
end
noncomputable def epOf (o:Obj):Nat:=match o.data with | .dict _ ep=>ep | _=>0
noncomputable def Itm (a:Addr) (o:Obj) (kvs:List (Key × V)):It:=⟨fun i H=>H a=some (.frz o (.dK kvs))/\i < kvs.length,fun i H v H'=>∃ T k x,v=.ref T/\H T=none/\kvs[i]? = some (k,x)/\H'=upd H T (.tup [kV k,x]),fun i H=>H a=some (.frz o (.dK kvs))/\i=kvs.length⟩
theorem yM {P:Program} {w:World} {k:Key} {v:Value} (h:(mixKind P w).is k v=true):RelV (kV k) v:=by
 rcases bv h with ⟨i,t,rfl,rfl⟩ | ⟨x,t,rfl,rfl⟩
 ·exact ⟨t,rfl⟩
 ·exact ⟨t,rfl⟩
theorem qf {X:Cx} {pins:List (Addr × Obj)} {σ:St} {H:Hp} {s:Shared} {a:Addr} {o:Obj} {kvs:List (Key × V)} (I:Inv X pins σ H s) (e:H a=some (.frz o (.dK kvs))):
  ∃ vs,KV kvs vs/\s.heap.DictAt (mixKind X.prog X.w) a vs (epOf o)/\(a == sysModules)=false:=by
 obtain ⟨h1,_,hd,vs,rel,ob,es,ep,hq,he,hdt,r⟩:=(show ObjOk X.prog X.w H s.heap a (.frz o (.dK kvs)) from I.hok a _ e);rw [h1] at hq;cases hq;refine ⟨vs,rel,⟨o,es,h1,he,?_,r⟩,hd⟩;unfold epOf;rw [hdt]
theorem sr {P:Program} {w:World} {K:Frag} {elts:List Expr} {kk:Nat} {pos:Pos} (a it:Addr) (hne:a≠it) (o:Obj) (kvs:List (Key × V)):
  Turn P w K (.Tuple elts kk pos) (Itm a o kvs) [it] it (fun i h=>∃ ok ov,IsItemIter h it a i kvs.length (epOf o) ok ov) where
 mem:=by simp
 obj:=fun i h st b hb=>by
  obtain ⟨ok,ov,he⟩:=st;have e:b=it:=by simpa using hb
  subst e;exact ⟨_,he,fun v z=>by
   have z':Data.fields _=Data.cell v:=z;cases z'⟩
 keep:=fun i h h' st k=>by
  obtain ⟨ok,ov,he⟩:=st;exact ⟨ok,ov,k it (by simp) _ he⟩
 item:=by
  intro X hP hw hK hc i pins s σ H E I hf st hg;subst hP hw hK;obtain ⟨ok,ov,he⟩:=st;obtain ⟨hq,hi⟩:=hg;obtain ⟨vs,rel,hm,hd⟩:=qf I hq;have hl:=rel.length;obtain ⟨⟨k,x⟩,hx⟩:∃ p,kvs[i]? = some p:=⟨kvs[i],by simp [hi]⟩;obtain ⟨⟨k',u⟩,hu,hkk,ru⟩:=aN rel hx;obtain rfl:k=k':=hkk;rw [hl] at he;refine wpAny_pyNext_items_item he hm hu fun key h' hkey ho hT hsz hk=>⟨_,rfl,?_⟩
  refine wpAny_letOwnedTupleGo_items ho fun h'' he'' hs=>?_
  have ti:s.heap.objs.size≠it:=Nat.ne_of_gt (Heap.lt_size he);have hT2:h''.IsTuple s.heap.objs.size #[key,u]:=⟨_,hs.extBut _ _ ti hT,rfl,_,rfl⟩;have I1:Inv X pins σ (upd H s.heap.objs.size (.tup [kV k,x])) { s with heap:=h'',toks:=s.toks }:=by
   refine I.turnedLaid (its:=[it]) (fun b ob hb q=>hs.extBut b ob (by simpa using hb) (hk b ob (by simpa using hb) q)) hf (Nat.le_refl _) ?_ I.tk;exact ⟨by show 2<=sizeLine; decide,[key,u],.cons (yM hkey) (.cons ru .nil),hT2⟩
  refine ⟨.ref s.heap.objs.size,_,I1,rfl,⟨_,k,x,rfl,I.hok.fresh (Nat.le_refl _),hx,rfl⟩,⟨key,u,by rw [hl]; exact he''⟩,fun b hb=>?_⟩;have e:b=it:=by simpa using hb
  subst e;rw [ao (Ne.symm ti)];exact (hf b hb).1
 done:=by
  intro X hP hw hK hc i pins s σ H E I hf st hg;subst hP hw hK;obtain ⟨ok,ov,he⟩:=st;obtain ⟨hq,rfl⟩:=hg;obtain ⟨vs,rel,hm,hd⟩:=qf I hq;have hl:=rel.length;rw [hl] at he;refine wpAny_pyNext_items_end (I.ok.hd hc) he hm (by simp) fun h' hx=>⟨rfl,I.turnedL (its:=[it]) (fun b o hb q=>hx b o (by simpa using hb) q) hf I.tk⟩
 self:=fun A i s Q E st h=>by
  obtain ⟨ok,ov,he⟩:=st;exact PySem.W.kcp_self he h
section
variable {X:Cx} {o:Expr} {to:TE} {apos cpos:Pos}
noncomputable def cItems (to:TE):TI:=fun σ H R=>to σ H fun x H1=>match x with
 | .ref a=>∃ ob kvs,H1 a=some (.frz ob (.dK kvs))/\R (Itm a ob kvs) H1
 | _=>False
theorem wE {elts:List Expr} {kk:Nat} {tpos:Pos} (ho:PE X o to) (hbase:attributeBase o "items" X.env (eval o X.env)=eval o X.env:=by rfl) (hline:(apos.endLine == cpos.line)=true:=by rfl):
  PI X (.Tuple elts kk tpos) (.Call (.Attribute o "items" apos) [] [] cpos) (cItems to):=by
 intro pins s σ H R I h;refine wpAny_Call_method hbase rfl hline PySem.F.plainAttrs_dict PySem.F.slot_dict_items PySem.F.type_dict_items (thn (ho pins s σ H _ I h) fun u s1 ⟨x,H1,I1,rx,q1⟩=>?_);dsimp only at q1;split at q1
 ·rename_i a;obtain ⟨ob,kvs,e1,q1⟩:=q1;obtain rfl:u=Value.ref a:=rx;obtain ⟨t1,t2,hd⟩:=wM I1 (.inl ⟨kvs,.inr ⟨ob,e1⟩⟩);refine ⟨t1,t2,callWith_method0 ?_⟩;obtain ⟨vs,rel,hm,_⟩:=qf I1 e1;refine call_meetsIn PySem.F.slot_dict_items t1 PySem.F.entry_dict_items (PySem.F.args_dict_items_1 _) (meets_dict_items (mixKind X.prog X.w) a hd) ⟨⟨vs,hm.dictOf⟩,?_⟩;have I2:Inv X pins σ H1 { s1 with heap:=s1.heap.push { cls:=.type "dict_items",data:=.fields #[.ref a] },toks:=s1.toks }:=I1.kept fun b o e=>Heap.get?_push_of_some _ e
  have hm2:(s1.heap.push { cls:=.type "dict_items",data:=.fields #[.ref a] }).DictAt (mixKind X.prog X.w) a vs (epOf ob):=hm.push _;refine wpAny_pyIter_items (d:=a) (kvs:=vs) (ep:=epOf ob) ⟨_,Heap.get?_push_size _ rfl,rfl,rfl⟩ hm2 ?_;have hlt:a < (s1.heap.push { cls:=.type "dict_items",data:=.fields #[.ref a] }).objs.size:=hm2.lt_size;refine ⟨_,[_],_,Itm a ob kvs,H1,rfl,I2.kept (t':=s1.toks) fun b o e=>Heap.get?_push_of_some _ e,sr a _ (Nat.ne_of_lt hlt) ob kvs,⟨.none,.none,?_⟩,fun b hb=>?_,q1⟩
  ·rw [rel.length];exact Heap.get?_push_size _ rfl
  ·have e:=List.mem_singleton.mp hb;subst e;exact I2.fpOk (Nat.le_refl _) (I2.hok.fresh (Nat.le_refl _))
 ·exact q1.elim
theorem wu {σ:St} {H:Hp} {R:It->Hp->Prop}:cItems to σ H R=to σ H fun x H1=>match x with
 | .ref a=>∃ ob kvs,H1 a=some (.frz ob (.dK kvs))/\R (Itm a ob kvs) H1
 | _=>False:=rfl
end
def KVal (p:Key × V):Prop:=∃ i,p.2=V.int i
noncomputable def dEq (ka kb:List (Key × V)):Bool:=ka.length == kb.length && ka.all fun p=>match p.2,valV kb p.1 with | .int i,some (.int j)=>i == j | _,_=>false
section
variable {X:Cx}
theorem xN {A:Around} {s:Shared} {kb:List (Key × V)} {vb:List (Key × Value)} (rb:KV kb vb) (hb:∀ p ∈ kb,KVal p):∀ {ka:List (Key × V)} {va:List (Key × Value)},KV ka va->(∀ p ∈ ka,KVal p) ->
  ∃ r,r=(ka.all fun p=>match p.2,valV kb p.1 with | .int i,some (.int j)=>i == j | _,_=>false)/\PySem.W.KeqHits A s vb va r:=by
 intro ka va r;unfold KV at r
 induction r with
 | nil=>intro _; exact ⟨true,rfl,.nil⟩
 | @cons p q ps qs h t ih=>
  intro ha;obtain ⟨r,hr,hh⟩:=ih fun p hp=>ha p (List.mem_cons_of_mem _ hp)
  obtain ⟨i,hi⟩:=ha p List.mem_cons_self;obtain ⟨h1,h2⟩:=h;rw [hi] at h2;obtain ⟨t1,ht1⟩:=(show ∃ t,q.2=Value.int i t from h2);have rv:=rb.val p.1;obtain ⟨q1,q2⟩:=q;obtain rfl:p.1=q1:=h1;obtain rfl:q2=Value.int i t1:=ht1;rw [List.all_cons,hi];cases e:valV kb p.1 with
  | none=>
   rw [e] at rv;have hn:valueAt vb p.1=none:=RelO.none_of rv;exact ⟨_,rfl,by dsimp only; rw [Bool.false_and]; exact .miss hn⟩
  | some v=>
   rw [e] at rv;obtain ⟨m,hm,em⟩:∃ m ∈ kb,m.2=v:=by
    unfold valV at e;obtain ⟨m,hm,em⟩:=Option.map_eq_some_iff.mp e;exact ⟨m,List.mem_of_find?_eq_some hm,em⟩
   obtain ⟨j,hj⟩:=hb m hm;rw [em] at hj;subst hj;cases ev:valueAt vb p.1 with
   | none=>rw [ev] at rv; exact (show False from rv).elim
   | some y=>
    rw [ev] at rv;obtain ⟨t2,rfl⟩:=(show ∃ t,y=Value.int j t from rv);refine ⟨_,rfl,?_⟩;dsimp only;rw [<- hr];exact .hit ev (SeqAt.EqAt.int_int i t1 j t2) hh
noncomputable def kEqDict:R2:=fun x y H Q=>match x,y with
 | .ref a,.ref b=>∃ ka kb,Rd H a (.dK ka)/\Rd H b (.dK kb)/\(∀ p ∈ ka,KVal p)/\(∀ p ∈ kb,KVal p)/\Q (.bl (dEq ka kb)) H
 | _,_=>False
theorem eqDictE {k:Nat} (hr:Room k X.A):OpR X (compareOp .Eq) kEqDict:=by
 intro pins s σ H x y v u Q I rx ry h;unfold kEqDict at h;split at h
 ·rename_i a b;obtain ⟨ka,kb,ea,eb,ha,hb,q⟩:=h;cases rx;cases ry;obtain ⟨_,da,va,ra,oa⟩:=nr I.hok ea;obtain ⟨_,db,vb,rb,ob⟩:=nr I.hok eb;obtain ⟨r,er,hh⟩:=xN (A:=X.A.in1) (s:=s) rb hb ra ha;have hu:=hr.un;refine PySem.W.keq_eq da db oa ob (by omega) (fun _=>hh) ?_;refine ⟨.bl _,H,I,rfl,?_⟩;rw [<- ra.length,<- rb.length,er];exact q
 ·exact h.elim
noncomputable def kEqF (K:Frag):R2:=fun x y H Q=>match x,y with
 | .int i,.int j=>Q (.bl (decide (i=j))) H
 | .int _,.ref b=>(∃ ys,SqT K H b ys)/\Q (.bl false) H
 | .ref a,.int _=>(∃ xs,SqT K H a xs)/\Q (.bl false) H
 | .ref a,.ref b=>kEqD K false (.ref a) (.ref b) H Q
 | _,_=>False
theorem eqFE (K:Frag) (hK:X.K=K) {k:Nat} (hr:Room k X.A):OpR X (compareOp .Eq) (kEqF K):=by
 subst hK;intro pins s σ H x y v u Q I rx ry h;have hu:=hr.un;unfold kEqF at h;split at h
 ·exact ba pins s σ H _ _ v u Q I rx ry (by rw [v5]; simpa using h)
 ·obtain ⟨⟨ys,hy⟩,q⟩:=h;obtain ⟨t,rfl⟩:=rx;cases ry;obtain ⟨us,r1,pl,_⟩:=I.tuple hy;exact SeqAt.RcAt.int_tuple _ _ pl (by omega) _ _ _ _ ⟨.bl _,H,I,rfl,q⟩
 ·obtain ⟨⟨ys,hy⟩,q⟩:=h;obtain ⟨t,rfl⟩:=ry;cases rx;obtain ⟨us,r1,pl,_⟩:=I.tuple hy;exact SeqAt.RcAt.tuple_int _ _ pl (by omega) _ _ _ _ ⟨.bl _,H,I,rfl,q⟩
 ·exact eqDE X.K rfl hr pins s σ H _ _ v u Q I rx ry h
 ·exact h.elim
theorem tH:CallR X (.builtin "len") (fun xs H Q=>∃ a kvs,xs=[V.ref a]/\Rd H a (.dK kvs)/\Q (.int kvs.length) H):=by
 intro pins s σ H xs us Q I r h;obtain ⟨a,kvs,rfl,ha,q⟩:=h;obtain ⟨u,rfl,ru⟩:=vals1 r;cases ru;exact Bc I ha fun t s' I'=>⟨.int kvs.length,H,I',⟨t,rfl⟩,q⟩
end
section
variable {K:Frag} {g:TG} {tc:TT} {te:TE} {σc:St} {D:Addr} {Q:VK} {H:Hp} {td ty:TE}
theorem wS {Dn:Ends} {σ:St}:tBreak Dn σ H=Dn.bk σ H:=rfl
theorem vB {a b:Addr}:kEqDict (.ref a) (.ref b) H Q=∃ ka kb,Rd H a (.dK ka)/\Rd H b (.dK kb)/\(∀ p ∈ ka,KVal p)/\(∀ p ∈ kb,KVal p)/\Q (.bl (dEq ka kb)) H:=rfl
theorem qD {α:Type} (f:α -> Key × V) (xs:List α) (keep:α -> Bool) (R:α -> V->Hp->Prop) {a:Addr} {ob:Obj} (hfree:H D=none) (hl:H a=some (.frz ob (.dK (xs.map f)))) (hn:xs.length<=100000)
  (mono:∀ x v H1 H2 acc,H1 D=some (.lst acc)->(∀ b o,b≠D->H1 b=some o->H2 b=some o)->R x v H1->R x v H2)
  (hs:∀ x T H1 (out:VK) (non:Hp->Prop),x ∈ xs->Same H H1->H1 T=some (.tup [kV (f x).1,(f x).2])->(∀ v H6,keep x=true->Same H1 H6->R x v H6->out v H6)->(∀ H5,keep x=false->Same H1 H5->non H5) ->
   g (.ref T) σc H1 fun σ4 H4=>tc σ4 H4 fun b H5=>if b=true then te σ4 H5 out else non H5)
  (hq:∀ H' vs,Same H H'->H' D=some (.lst vs)->Paired (fun x v=>R x v H') (xs.filter keep) vs->Q (.ref D) H'):compW (Itm a ob (xs.map f)) g tc te σc D Q H:=by
 refine ⟨fun i m acc H2=>m=xs.length - i/\i<=xs.length/\Paired (fun x v=>R x v H2) ((xs.take i).filter keep) acc/\Same H H2/\H2 D=some (.lst acc),⟨xs.length,by simp,Nat.zero_le _,.nil,ae hfree _,upd_same⟩,?_⟩;rintro i m acc H2 ⟨rfl,hi,pr,sm,hD⟩;have len:acc.length<=i:=by
  have a:=pr.length;have b:=List.length_filter_le keep (xs.take i);rw [List.length_take] at b;omega
 by_cases hlt:i < xs.length
 ·refine .inr ⟨⟨sm _ _ hl,by simpa using hlt⟩,fun x H3 y=>?_⟩;obtain ⟨T,k,u,rfl,hT,hk,rfl⟩:=y;rw [List.getElem?_map,List.getElem?_eq_getElem hlt] at hk;have e2:f xs[i]=(k,u):=Option.some.inj hk;have ht:xs.take (i+1)=xs.take i++[xs[i]]:=by rw [List.take_add_one,List.getElem?_eq_getElem hlt]; rfl
  have s3:=ae hT (.tup [kV k,u]);have hD3:=s3 _ _ hD;refine hs xs[i] T _ _ _ (List.getElem_mem hlt) (sm.trans s3) (by rw [e2]; exact upd_same) (fun v H6 k s6 r=>?_) fun H5 k s5=>?_
  ·refine ⟨s6 _ _ hD3,Nat.lt_of_le_of_lt len (sizeBig (by omega)),xs.length - (i+1),by omega,rfl,hlt,?_,?_,upd_same⟩
   ·have m1:∀ x v,R x v H6->R x v (upd H6 D (.lst (acc++[v]))):=fun x v r=>mono x v H6 _ acc (s6 _ _ hD3) (fun b o nb q=>by rw [ao nb]; exact q) r
    rw [ht,List.filter_append];have f1:[xs[i]].filter keep=[xs[i]]:=by simp [k]
    rw [f1];have lift:∀ {l:List α} {vs:List V},Paired (fun x v=>R x v H2) l vs->Paired (fun x v'=>R x v' (upd H6 D (.lst (acc++[v])))) l vs:=by
     intro l vs pp
     induction pp with
     | nil=>exact .nil
     | cons r _ ih=>exact .cons (mono _ _ H2 _ acc hD (fun b o nb q=>by rw [ao nb]; exact s6 _ _ (s3 _ _ q)) r) ih
    have app:∀ {l:List α} {vs:List V} {x:α} {v':V} {F:α -> V->Prop},Paired F l vs->F x v'->Paired F (l++[x]) (vs++[v']):=by
     intro l vs x v' F pp r
     induction pp with
     | nil=>exact .cons r .nil
     | cons r' _ ih=>exact .cons r' ih
    exact app (lift pr) (m1 _ _ r)
   ·exact aH (sm.trans (s3.trans s6)) hfree
  ·refine ⟨xs.length - (i+1),by omega,rfl,hlt,?_,sm.trans (s3.trans s5),s5 _ _ hD3⟩;rw [ht,List.filter_append];have f1:[xs[i]].filter keep=[]:=by simp [k]
   rw [f1,List.append_nil];have lift:∀ {l:List α} {vs:List V},Paired (fun x v=>R x v H2) l vs->Paired (fun x v'=>R x v' H5) l vs:=by
    intro l vs pp
    induction pp with
    | nil=>exact .nil
    | cons r _ ih=>exact .cons (mono _ _ H2 _ acc hD (fun b o _ q=>s5 _ _ (s3 _ _ q)) r) ih
   exact lift pr
 ·have e:i=xs.length:=by omega
  subst e;rw [List.take_length] at pr;exact .inl ⟨⟨sm _ _ hl,by simp⟩,hq H2 acc sm hD pr⟩
end
section
variable {K:Frag} {J:It} {g:TG} {tc:TT} {te:TE} {σc:St} {D:Addr} {Q:VK} {H:Hp}
theorem mE {α:Type} (xs:List α) (keep:α -> Bool) (R:α -> V->Hp->Prop) (hfree:H D=none) (hn:xs.length<=100000) (hgo:∀ i H1,i < xs.length->Same H H1->J.go i H1) (hst:∀ H1,Same H H1->J.stop xs.length H1)
  (hy:∀ i H1 v H2,i < xs.length->J.yld i H1 v H2->Same H1 H2)
  (mono:∀ x v H1 H2 acc,H1 D=some (.lst acc)->(∀ b o,b≠D->H1 b=some o->H2 b=some o)->R x v H1->R x v H2)
  (hs:∀ i x v H1 H2 (out:VK) (non:Hp->Prop),xs[i]? = some x->Same H H1->J.yld i H1 v H2->(∀ v H6,keep x=true->Same H2 H6->R x v H6->out v H6)->(∀ H5,keep x=false->Same H2 H5->non H5) ->
   g v σc H2 fun σ4 H4=>tc σ4 H4 fun b H5=>if b=true then te σ4 H5 out else non H5)
  (hq:∀ H' vs,Same H H'->H' D=some (.lst vs)->Paired (fun x v=>R x v H') (xs.filter keep) vs->Q (.ref D) H'):compW J g tc te σc D Q H:=by
 refine ⟨fun i m acc H2=>m=xs.length - i/\i<=xs.length/\Paired (fun x v=>R x v H2) ((xs.take i).filter keep) acc/\Same H H2/\H2 D=some (.lst acc),⟨xs.length,by simp,Nat.zero_le _,.nil,ae hfree _,upd_same⟩,?_⟩;rintro i m acc H2 ⟨rfl,hi,pr,sm,hD⟩;have len:acc.length<=i:=by
  have a:=pr.length;have b:=List.length_filter_le keep (xs.take i);rw [List.length_take] at b;omega
 by_cases hlt:i < xs.length
 ·refine .inr ⟨hgo i H2 hlt sm,fun x H3 y=>?_⟩;have s3:=hy i H2 x H3 hlt y;have ht:xs.take (i+1)=xs.take i++[xs[i]]:=by rw [List.take_add_one,List.getElem?_eq_getElem hlt]; rfl
  have hD3:=s3 _ _ hD;refine hs i xs[i] x _ _ _ _ (List.getElem?_eq_getElem hlt) sm y (fun v H6 k s6 r=>?_) fun H5 k s5=>?_
  ·refine ⟨s6 _ _ hD3,Nat.lt_of_le_of_lt len (sizeBig (by omega)),xs.length - (i+1),by omega,rfl,hlt,?_,?_,upd_same⟩
   ·have m1:∀ x v,R x v H6->R x v (upd H6 D (.lst (acc++[v]))):=fun x v r=>mono x v H6 _ acc (s6 _ _ hD3) (fun b o nb q=>by rw [ao nb]; exact q) r
    rw [ht,List.filter_append];have f1:[xs[i]].filter keep=[xs[i]]:=by simp [k]
    rw [f1];have lift:∀ {l:List α} {vs:List V},Paired (fun x v=>R x v H2) l vs->Paired (fun x v'=>R x v' (upd H6 D (.lst (acc++[v])))) l vs:=by
     intro l vs pp
     induction pp with
     | nil=>exact .nil
     | cons r _ ih=>exact .cons (mono _ _ H2 _ acc hD (fun b o nb q=>by rw [ao nb]; exact s6 _ _ (s3 _ _ q)) r) ih
    have app:∀ {l:List α} {vs:List V} {x:α} {v':V} {F:α -> V->Prop},Paired F l vs->F x v'->Paired F (l++[x]) (vs++[v']):=by
     intro l vs x v' F pp r
     induction pp with
     | nil=>exact .cons r .nil
     | cons r' _ ih=>exact .cons r' ih
    exact app (lift pr) (m1 _ _ r)
   ·exact aH (sm.trans (s3.trans s6)) hfree
  ·refine ⟨xs.length - (i+1),by omega,rfl,hlt,?_,sm.trans (s3.trans s5),s5 _ _ hD3⟩;rw [ht,List.filter_append];have f1:[xs[i]].filter keep=[]:=by simp [k]
   rw [f1,List.append_nil];have lift:∀ {l:List α} {vs:List V},Paired (fun x v=>R x v H2) l vs->Paired (fun x v'=>R x v' H5) l vs:=by
    intro l vs pp
    induction pp with
    | nil=>exact .nil
    | cons r _ ih=>exact .cons (mono _ _ H2 _ acc hD (fun b o _ q=>s5 _ _ (s3 _ _ q)) r) ih
   exact lift pr
 ·have e:i=xs.length:=by omega
  subst e;rw [List.take_length] at pr;exact .inl ⟨hst H2 sm,hq H2 acc sm hD pr⟩
end
section
variable {X:Cx} {e:Expr} {te:TE} {pos:Pos}
theorem Ac (xs:List V) (n:Nat) (h:n<=xs.length):cutV xs none (some (n:Int))=xs.take n:=by
 unfold cutV;have e1:HT.sIx xs.length 0 none=0:=by simp [HT.sIx]
 have e2:HT.sIx xs.length xs.length (some (n:Int))=n:=by
  simp only [HT.sIx];rw [if_neg (by omega)];omega
 rw [e1,e2];simp
end
section
variable {X:Cx} {o e:Expr} {to te:TE} {apos cpos:Pos}
end
end L2
namespace L2
open PySem PySem.Spec PyProof.Rows PySem.W
end L2
namespace L2
open PySem PySem.Spec PyProof.Rows
section
variable {prog:Program} {w:World} {A:Around} {s:Shared} {E:Value->Shared->Prop}
theorem yi {name qual x:Str} {params:Arguments} {scope:Scope} {p1 p2 p3 p4 p5:Pos} {j:Nat} {pm ctv:Value} {f c' r:Addr} {its:Array Value} {y:Str} {t:Tok} {mg mb:Str->Option Value} {Q:Value->Shared->Prop}
  (hroom:A.depth < recursionLimit)
  (ho:s.heap.get? f=some (PySem.W.kla_obj name qual params (.Call (.Name "len" p1) [.Subscript (.Name x p2) (.Constant (.int 0) j p3) p4] [] p5) scope [] pm c' ctv))
  (hcd:s.heap.CodeRec (.ref c') qual) (hk:scope.kind=.function) (hco:scope.isCoroutine=false) (hgen:scope.isGenerator=false) (hcell:∀ x ∈ scope.names,x.2≠.cell)
  (hx:scope.names.lookup x=some .local) (hlen:scope.names.lookup ("len" : Str)=some .globalImplicit) (hxd:(x == ("__debug__" : Str))=false)
  (hbind:bindArgs (PySem.W.kla_fn name qual params (.Call (.Name "len" p1) [.Subscript (.Name x p2) (.Constant (.int 0) j p3) p4] [] p5) scope [] pm (.ref c') ctv) ⟨[.ref r],[]⟩=pure [(x,.ref r)])
  (hr:IsTup s.heap r its) (h0:its[0]? = some (.str y t)) (hy:y.length<=sizeLine)
  (hg:s.heap.Ns mainGlobals mg) (hm:mg "len" = none) (hb:s.heap.Ns builtinsNs mb) (hbb:mb "len" = some (.builtin "len")) (hlim:s.heap.NoLimit)
  (h:∀ h' tk t',(∀ b o,s.heap.get? b=some o->h'.get? b=some o)->Q (.int y.length t') { s with heap:=h',toks:=tk }):
  wpAny (model prog w) A (call (.ref f) [.ref r]) Q E s:=by
 refine wpAny_call (PySem.W.kla_callFunE hroom ho rfl hco hgen rfl hcd ?_);rw [hbind];refine wpAny_pure (wpAny_newFunctionEnv hcell (fun z hz=>by have:=List.mem_singleton.mp hz; subst this; exact hx) (fun h₁ hns hsb=>?_) hk);have kp:∀ b o,s.heap.get? b=some o->h₁.get? b=some o:=fun b o e=>hsb.extBut b o (Nat.ne_of_lt (Heap.lt_size e)) (Heap.get?_push_of_some _ e)
 refine ⟨hlim.keeps kp,PySem.W.kla_codeExpr ?_⟩;refine wpAny_Call_Name_kw (Calls.Name_function_global hk hlen (Calls.loadGlobal_builtin (hg.keeps kp) hm (hb.keeps kp) hbb ?_));refine PyProof.Rows.callWith_builtin1 ?_ rfl rfl;have e1:([(x,Value.ref r)].reverse).lookup x=some (.ref r):=by simp
 refine Calls.spliced_cons (Subscript_ (wpAny_Name (wpAny_loadName_local hk hx hns e1 (wpAny_Constant_int ?_)) hxd));have hr1:IsTup h₁ r its:=by obtain ⟨o,ho,r'⟩:=hr; exact ⟨o,kp _ _ ho,r'⟩
 have sz:0 < its.size:=(Array.getElem?_eq_some_iff.mp h0).1;refine subscriptTail_builtinR (x:=.str y t) hr1.typeIs slot_tuple_getitem.lookup
  (getItem_tuple (j:=0) hr1 (by decide) (by decide) ?_ h0 ⟨rfl,?_⟩)
 ·exact seqIndex_of (by decide) (by simpa using sz)
 have hl:=line63;exact Calls.spliced_nil (len_str (by omega) (h _ _ _ kp))
end
theorem ObjOk.there {P:Program} {w:World} {H:Hp} {h:Heap} {a:Addr} {o:HO} (x:ObjOk P w H h a o):∃ ob,h.get? a=some ob:=by
 induction o with
 | lst xs=>obtain ⟨_,_,_,_,e⟩:=x; exact ⟨_,e⟩
 | tup xs=>obtain ⟨_,_,_,_,e,_⟩:=x; exact ⟨_,e⟩
 | dK kvs=>obtain ⟨_,_,_,_,_,_,_,e,_⟩:=x; exact ⟨_,e⟩
 | dT kvs=>obtain ⟨_,_,_,_,_,_,_,e,_⟩:=x; exact ⟨_,e⟩
 | set S n=>obtain ⟨_,_,_,_,e,_⟩:=x; exact ⟨_,e⟩
 | ins C dx fs=>obtain ⟨_,_,_,e,_⟩:=x; exact ⟨_,e⟩
 | own y=>exact x
 | xd fs=>obtain ⟨_,⟨_,_,_,e,_⟩,_⟩:=x; exact ⟨_,e⟩
 | rng lo hi=>obtain ⟨_,_,_,e⟩:=x; exact ⟨_,e⟩
 | frz ob u ih=>obtain ⟨e,_⟩:=x; exact ⟨_,e⟩
 | tbl ps=>obtain ⟨_,e,_⟩:=x; exact ⟨_,e⟩
 | met f y=>exact ⟨_,x⟩
 | ext φ=>obtain ⟨_,e,_⟩:=x; exact e
section
variable {X:Cx} {pins:List (Addr × Obj)} {σ:St} {H:Hp} {s:Shared}
theorem sJ {pos lp:Pos} {c cv:Value}:∀ l:List Value,TriplesOk l->codeAmong pos (l++[rawInt lp.line,rawInt lp.col,c])=some cv->codeAmong pos l=some cv\/cv=c:=by
 intro l
 fun_induction TriplesOk l with
 | case1=>
  intro _ h;simp only [List.nil_append,rawInt,codeAmong] at h;split at h
  ·exact .inr (Option.some.inj h).symm
  ·cases h
 | case2 i t j u x rest ih=>
  intro ht h;simp only [List.cons_append,codeAmong] at h ⊢;split at h
  ·rename_i g;rw [if_pos g];exact .inl h
  ·rename_i g;rw [if_neg g];exact ih ht h
 | case3=>exact fun h=>h.elim
theorem pN {lp:Pos} {c:Value}:∀ l:List Value,TriplesOk l->TriplesOk (l++[rawInt lp.line,rawInt lp.col,c]):=by
 intro l
 fun_induction TriplesOk l with
 | case1=>exact fun _=>True.intro
 | case2 i t j u x rest ih=>exact fun h=>ih h
 | case3=>exact fun h=>h.elim
theorem Inv.tabled {P c':Addr} {ps more:Array Value} {h':Heap} {t':Nat} (I:Inv X pins σ H s) (hP:H P=some (.tbl ps)) (k:∀ b u,b≠P->s.heap.get? b=some u->h'.get? b=some u) (hc:s.heap.objs.size<=c') (ho:∃ o,h'.get? c'=some o)
  (new:h'.get? P=some { cls:=.none,data:=.fields (ps++more) }) (tab:TabOk (upd H c' (.own P)) h' P (ps++more)) (ht:0 < t'):Inv X pins σ (upd H c' (.own P)) { s with heap:=h',toks:=t' }:=by
 have ne:∀ b,H b=none->b≠P:=fun b n z=>by rw [z,hP] at n; cases n
 have neo:∀ b u,H b=some u->(∀ qs,u≠.tbl qs)->b≠P:=fun b u e n z=>by rw [z,hP] at e; cases e; exact n _ rfl
 have hn:H c'=none:=I.hok.fresh hc;have neH:∀ b u,H b=some u->b≠c':=fun b u e z=>by rw [z,hn] at e; cases e
 refine I.un ⟨fun b o e n _ _=>k b o (ne b n) e,fun b o e n _ _=>⟨o.slots,k b o (ne b n) e⟩,fun b o e n _=>by rw [ao (fun z=>by subst z; exact absurd (Heap.lt_size e) (Nat.not_lt.mpr hc))]; exact n,fun b o e _=>?_,
  fun b xs e=>by rw [ao (neH b _ e)]; exact e,fun b o u e=>by rw [ao (neH b _ e)]; exact e,fun b qs e=>⟨#[],by rw [ao (neH b _ e),e]; simp⟩⟩ (fun b u e=>?_) ht
 ·by_cases hb:b=P
  ·exact ⟨_,by rw [hb]; exact new⟩
  ·exact ⟨o,k b o hb e⟩
 ·by_cases hbc:b=c'
  ·subst hbc;rw [upd_same] at e;cases e;exact ho
  rw [ao hbc] at e;by_cases hb:b=P
  ·subst hb;rw [hP] at e;cases e;exact ⟨more,new,tab⟩
  ·refine (I.hok b u e).stay (fun c v hc q=>k c v ?_ q) (fun c q=>by rw [ao (neH c _ q)]; exact q) fun c xs q=>by rw [ao (neH c _ q)]; exact q
   rcases hc with z | z
   ·rw [z]; exact hb
   ·exact neo c _ z fun _ z=>by cases z
end
theorem Inv.laidFr {X:Cx} {pins:List (Addr × Obj)} {σ:St} {H:Hp} {s:Shared} {a:Addr} {o:HO} {m:Str->Option Value} {h':Heap} {t':Nat} (I:Inv X pins σ H s) (hm:s.heap.Ns X.env.locals m) (hm':h'.Ns X.env.locals m)
  (k:∀ b u,b≠X.env.locals->s.heap.get? b=some u->h'.get? b=some u) (hf:s.heap.get? a=none) (hn:H a=none) (new:ObjOk X.prog X.w (upd H a o) h' a o) (ht:0 < t'):Inv X pins σ (upd H a o) { s with heap:=h',toks:=t' }:=by
 have ne:∀ b ob,s.heap.get? b=some ob->b≠a:=fun b ob e z=>by rw [z,hf] at e; cases e
 have neH:∀ b u,H b=some u->b≠a:=fun b u e z=>by rw [z,hn] at e; cases e
 have neL:∀ b u,H b=some u->b≠X.env.locals:=fun b u e z=>by rw [z,I.free] at e; cases e
 refine I.step (g':=s.gens) (d':=s.drawn) (ch:=[]) (fun _ z=>nomatch z) (fun b ob hL _ _ e _=>k b ob hL e) (fun b ob hL _ _ e _=>⟨ob.slots,k b ob hL e⟩) (fun b ob _ e n=>by rw [ao (ne b ob e)]; exact n)
  (fun b ob _ e=>?_) (fun b xs e=>by rw [ao (neH b _ e)]; exact e) (fun b ob u e=>by rw [ao (neH b _ e)]; exact e) (fun b ps e=>⟨#[],by rw [ao (neH b _ e),e]; simp⟩) (fun m2 hm2=>?_) (fun b u e=>?_) I.bare ht
 ·by_cases hb:b=X.env.locals
  ·obtain ⟨o',es,ep,e',_⟩:=hm';exact ⟨o',by rw [hb]; exact e'⟩
  ·exact ⟨ob,k b ob hb e⟩
 ·have:m2=m:=funext fun x=>hm2.agree hm x
  rw [this]; exact hm'
 ·by_cases hb:b=a
  ·subst hb;rw [upd_same] at e;cases e;exact new
  ·rw [ao hb] at e;refine (I.hok b u e).stay (fun c v hc q=>k c v ?_ q) (fun c q=>by rw [ao (neH c _ q)]; exact q) fun c xs q=>by rw [ao (neH c _ q)]; exact q
   rcases hc with z | z
   ·rw [z]; exact neL b u e
   ·exact neL c _ z
def Desc {α:Type} (g:α -> Nat) (xs xs':List α):Prop:=xs'.Perm xs/\xs'.Pairwise fun a b=>g b<=g a
theorem kS {α β:Type} {R:α -> β -> Prop} {l l':List α} (p:l'.Perm l):∀ {m:List β},Paired R l m->∃ m':List β,m'.Perm m/\Paired R l' m':=by
 induction p with
 | nil=>exact fun {m} h=>⟨m,.refl _,h⟩
 | cons x _ ih=>
  intro m h;cases h with
  | cons a r=>
   obtain ⟨m',q1,q2⟩:=ih r;exact ⟨_::m',q1.cons _,.cons a q2⟩
 | swap x y l=>
  intro m h;cases h with
  | cons a r=>
   cases r with
   | cons b r=>exact ⟨_,.swap _ _ _,.cons b (.cons a r)⟩
 | trans _ _ ih1 ih2=>
  intro m h;obtain ⟨m1,q1,q2⟩:=ih2 h;obtain ⟨m2,q3,q4⟩:=ih1 q2;exact ⟨m2,q3.trans q1,q4⟩
theorem g9 {α β:Type} {R:α -> β -> Prop}:∀ {l:List α} {m:List β},Paired R l m->∀ b ∈ m,∃ a ∈ l,R a b
 | _,_,.nil,b,h=>absurd h List.not_mem_nil
 | _,_,.cons q r,b,h=>by
  rcases List.mem_cons.mp h with e | h
  ·rw [e]; exact ⟨_,List.mem_cons_self ..,q⟩
  ·obtain ⟨a,h1,h2⟩:=g9 r b h;exact ⟨a,List.mem_cons_of_mem _ h1,h2⟩
theorem du {α β:Type} {R:α -> β -> Prop} {S:α -> α -> Prop} {S':β -> β -> Prop} (f:∀ a b c d,R a b->R c d->S a c->S' b d):∀ {l:List α} {m:List β},Paired R l m->l.Pairwise S->m.Pairwise S'
 | _,_,.nil,_=>.nil
 | _,_,.cons a r,h=>by
  obtain ⟨h1,h2⟩:=List.pairwise_cons.mp h;refine List.pairwise_cons.mpr ⟨fun d hd=>?_,du f r h2⟩;obtain ⟨c,hc,rc⟩:=g9 r d hd;exact f _ _ _ _ a rc (h1 c hc)
theorem bW {key:V->Nat}:∀ {xs:List V} {vs:List Value},Vals xs vs->Paired (fun (p:Int × Value) x=>p.1=key x/\RelV x p.2) ((xs.map fun x=>(key x:Int)).zip vs) xs
 | _,_,.nil=>.nil
 | _,_,.cons a r=>.cons ⟨rfl,a⟩ (bW r)
theorem kU {key:V->Nat}:∀ {ps:List (Int × Value)} {xs:List V},Paired (fun (p:Int × Value) x=>p.1=key x/\RelV x p.2) ps xs->Vals xs (ps.map Prod.snd)
 | _,_,.nil=>.nil
 | _,_,.cons a r=>.cons a.2 (kU r)
theorem wO {key:V->Nat} {xs:List V} {vs out:List Value} (r:Vals xs vs) (h:KskOut true (xs.map fun x=>(key x:Int)) vs out):∃ xs',Desc key xs xs'/\Vals xs' out:=by
 obtain ⟨ps,hp,rfl,hs⟩:=h;obtain ⟨xs',q1,q2⟩:=kS hp (bW (key:=key) r);exact ⟨xs',⟨q1,du (fun a b c d ra rc q=>by
  have q':c.1<=a.1:=by simpa using q
  rw [ra.1,rc.1] at q';omega) q2 hs⟩,kU q2⟩
structure LamAt (K:Frag) (mg:Str->Option Value) (c P:Addr):Prop where
 code:∃ od vs sl file tf flags tg inF text tt,K.lookup c=some ⟨.type "code",od,.fields vs,sl⟩/\vs[11]? = some (.ref P)/\vs.getD 11 .none=.ref P/\vs.getD 18 .none=.str file tf /\
  vs.getD 7 .none=.int flags tg/\vs.getD 9 .none=.bool inF/\vs.getD 10 .none=.int text tt
 ne:c≠P
 bm:∃ b sl,mg "__builtins__" = some (.ref b)/\b≠builtinsNs/\b≠mainGlobals/\K.lookup b=some ⟨.type "module",some builtinsNs,.plain,sl⟩
theorem LamAt.hd {K:Frag} {mg:Str->Option Value} {c P:Addr} {h:Heap} (L:LamAt K mg c P) (X:K.In h):PySem.W.CodeHd h c P:=by
 obtain ⟨od,vs,sl,file,tf,flags,tg,inF,text,tt,e1,e2,e3,e4,e5,e6,e7⟩:=L.code;exact ⟨_,vs,file,tf,flags,tg,inF,text,tt,X _ _ e1,rfl,rfl,e2,e3,e4,e5,e6,e7,L.ne⟩
section
variable {X:Cx}
noncomputable def cSortLen (K:Frag) (P:Addr) (te:TE):TE:=fun σ H Q=>te σ H fun v H1=>match v with
 | .ref p=>∃ (xs:List V) (key:V->Nat),SqL K H1 p xs/\xs.length < 64/\(∀ x ∈ xs,∃ r y rest,x=.ref r/\SqT K H1 r (.str y::rest)/\y.length<=sizeLine/\key x=y.length)/\H1 P=some (.tbl #[]) /\
   ∀ q H' xs',H1 q=none->Same H1 H'->H' q=some (.lst xs')->Desc key xs xs'->Q (.ref q) H'
 | _=>False
theorem mz {P c' l:Addr} {x:Str} {params:Arguments} {scope:Scope} {k j:Nat} {p1 p2 p3 p4 p5:Pos} {pins:List (Addr × Obj)} {s1:Shared} {σ:St} {H1 H2:Hp} {Q:VK} {E:Value->Shared->Prop} {h':Heap} {tk:Nat} {fo:Obj} {ctv:Value} {xs:List V} {key:V->Nat} (hr:Room k X.A) (hml:X.mg "len" = none)
  (hk:scope.kind=.function) (hco:scope.isCoroutine=false) (hgen:scope.isGenerator=false) (hcell:∀ x ∈ scope.names,x.2≠.cell)
  (hx:scope.names.lookup x=some .local) (hlen:scope.names.lookup ("len" : Str)=some .globalImplicit) (hxd:(x == ("__debug__" : Str))=false)
  (hbind:∀ (qual:Str) (body:Expr) (pm cv ctv u:Value),bindArgs (PySem.W.kla_fn "<lambda>" qual params body scope [] pm cv ctv) ⟨[u],[]⟩=pure [(x,u)])
  (I1:Inv X pins σ H1 s1) (hs:Same H1 H2) (a1:SqL X.K H1 l xs) (a2:xs.length < 64) (a3:∀ x ∈ xs,∃ r y rest,x=.ref r/\SqT X.K H1 r (.str y::rest)/\y.length<=sizeLine/\key x=y.length)
  (neP:∀ {b:Addr} {o:Obj},s1.heap.get? b=some o->o.cls≠.none->b≠P)
  (hfo:PySem.W.kla_obj (Str.ofString "<lambda>") (X.env.qual++Str.ofString "<lambda>") params ((Expr.Name (Str.ofString "len") p1).Call [(Expr.Name x p2).Subscript (Expr.Constant (Const.int 0) j p3) p4] [] p5) scope [] ((X.mg (Str.ofString "__name__")).getD Value.none) c' ctv=fo)
  (hsz:s1.heap.objs.size<=h'.objs.size) (hcL:c'≠X.env.locals) (hrec:h'.CodeRec (.ref c') (X.env.qual++Str.ofString "<lambda>")) (kp2:∀ b u,b≠P->s1.heap.get? b=some u->(h'.push fo).get? b=some u)
  (htk:0 < tk) (I2:Inv X pins σ H2 { s1 with heap:=h'.push fo,toks:=tk })
  (a5:∀ q H' xs',H1 q=none->Same H1 H'->H' q=some (.lst xs')->Desc key xs xs'->Q (.ref q) H'):
  wpAny (model X.prog X.w) X.A (call (.builtin "sorted") [.ref l] [("key",.ref h'.objs.size),("reverse",.bool true)]) (fun u s'=>∃ v H',Inv X pins σ H' s'/\RelV v u/\Q v H') E { s1 with heap:=h'.push fo,toks:=tk }:=by
 have hLs:X.env.locals < s1.heap.objs.size:=I1.lt;obtain ⟨m,F⟩:=I2.fr;obtain ⟨its,rv,pl,hz⟩:=I1.list a1;have hl:=rv.length;have pl2:(h'.push fo).IsList l its.toArray:=by
  obtain ⟨o,e,hc,hd⟩:=pl.isList;exact ⟨o,kp2 l o (neP e (by rw [hc]; nofun)) e,hc,hd⟩
 have kept2:∀ {h:Heap} {own:List (Addr × Obj)},Fr X.base X.env.locals h m->News X.base X.env.locals h (allNews X.base (h'.push fo) X.env.locals++own)->∀ b o,b≠X.env.locals->(h'.push fo).get? b=some o->h.get? b=some o:=by
  intro h own F' N' b o hb e;cases q:X.base.get? b with
  | some u=>
   have:=I2.bk b u q;rw [show ({ s1 with heap:=h'.push fo,toks:=tk }:Shared).heap.get? b=some o from e] at this;cases this;exact F'.keep b _ q
  | none=>exact (N' (b,o) (List.mem_append_left _ (kQ hb q e))).1
 refine tokQ (s:={ s1 with heap:=h'.push fo,toks:=tk }) htk (ksk_sorted (s:={ s1 with heap:=h'.push fo,toks:=tk }) (b:=true) (kz:=xs.map fun x=>(key x:Int)) F wN pl2 (by rw [List.length_map]; exact hl) (by omega) (ksk_s2 _ _ _) (fun _=>ksk_l2 _ _ _) (fun x=>ksk_t2 _ x true) ?turn ?done)
 case turn=>
  intro i v k2 hv hk2 h tk2 own F' N';rw [List.getElem?_map] at hk2;obtain ⟨z,hzi,hzk⟩:∃ z,xs[i]? = some z/\(key z:Int)=k2:=by
   cases q:xs[i]? with
   | none=>rw [q] at hk2; simp at hk2
   | some z=>rw [q] at hk2; exact ⟨z,rfl,by simpa using hk2⟩
  obtain ⟨v',hv',rz⟩:=rv.get hzi;rw [hv] at hv';cases hv';obtain ⟨r,y',rest,rfl,ht,hy,hky⟩:=a3 z (List.mem_of_getElem? hzi);cases rz;obtain ⟨its2,rv2,pl3,hz2⟩:=I1.tuple ht;obtain ⟨u0,hu0,r0⟩:=rv2.get (i:=0) rfl;obtain ⟨t0,rfl⟩:=r0;have kp3:=kept2 F' N';have hrL:r≠X.env.locals:=fun e=>by
   obtain ⟨m0,⟨o,es,ep,e1,e2,_⟩,_⟩:=I1.loc;obtain ⟨o',e3,_,n,e4⟩:=pl3;rw [e,e1] at e3;cases e3;rw [e2] at e4;cases e4
  have pl4:IsTup h r its2.toArray:=by
   obtain ⟨o,e,hc,hd⟩:=pl3;exact ⟨o,kp3 r o hrL (kp2 r o (neP e (by rw [hc]; nofun)) e),hc,hd⟩
  obtain ⟨c2,oc,ws,tq,e2,hoc,hrest⟩:=hrec;cases e2;have hfL:h'.objs.size≠X.env.locals:=Nat.ne_of_gt (Nat.lt_of_lt_of_le hLs hsz);obtain ⟨mb,hb1,hb2⟩:=I1.mod.blt;have hrd:=hr.dp;subst hfo;refine yi (s:={ s1 with heap:=h,toks:=tk2 }) (mg:=X.mg) (mb:=mb) (by show X.A.depth < _; omega) (kp3 _ _ hfL (Heap.get?_push_size _ rfl)) ⟨c',oc,ws,tq,rfl,kp3 _ _ hcL (Heap.get?_push_of_some _ hoc),hrest⟩ hk hco hgen hcell hx hlen hxd (hbind _ _ _ _ _ _) pl4
   (by simpa using hu0) hy (I1.mod.glob.keeps F'.keep) hml (hb1.keeps F'.keep) (hb2 "len" (by decide)) (I1.mod.nolimit.keeps F'.keep) fun h4 tk4 t4 kp4=>?_
  rw [<- hky,hzk];exact KskEnd.intro (F'.kept kp4) (N'.grown kp4) fun p hp=>hp
 case done=>
  intro D h3 tk3 out c3 F3 N3 l1 ko (ht3:0 < tk3);obtain ⟨xs',hd,rv'⟩:=wO rv ko;have nD:=N3 (D,seqObj "list" out c3) (.head _);have hDn:(h'.push fo).get? D=none:=by
   cases q:(h'.push fo).get? D with
   | none=>rfl
   | some o=>exact absurd (l1 (D,o) (kQ nD.2.1 nD.2.2 q)) (Nat.lt_irrefl _)
  have hH2:H2 D=none:=by
   cases q:H2 D with
   | none=>rfl
   | some u=>
    obtain ⟨o,e⟩:=(I2.hok D u q).there;rw [show ({ s1 with heap:=h'.push fo,toks:=tk }:Shared).heap.get? D=none from hDn] at e;cases e
  have hlx:xs'.length<=sizeLine:=by rw [hd.1.length_eq,sizeLine_eq]; omega
  have I3:=I2.laidFr (a:=D) (o:=.lst xs') (m:=m) (h':=h3) (t':=tk3) F.ns F3.ns (kept2 (own:=[]) F3 (fun p hp=>N3 p (by rw [List.append_nil] at hp; exact .tail _ hp))) hDn hH2 ⟨hlx,out.toList,c3,rv',by simpa using nD.1⟩ ht3;exact ⟨.ref D,_,I3,rfl,a5 D _ xs' (hs.free hH2) (hs.trans (ae hH2 _)) upd_same hd⟩
theorem rM {K:Frag} {P c:Addr} {te:TE} {x y:Str} {py:Pos} {params:Arguments} {scope:Scope} {k j j2:Nat} {p pos p1 p2 p3 p4 p5 lp kp rp p6:Pos} (hK:X.K=K) (hr:Room k X.A) (hg:Gl X "sorted") (hm:X.mg "sorted" = none) (hml:X.mg "len" = none)
  (hcode:X.env.code=.ref c) (hL:LamAt K X.mg c P) (he:PE X (.Name y py) te)
  (hk:scope.kind=.function) (hco:scope.isCoroutine=false) (hgen:scope.isGenerator=false) (hcell:∀ x ∈ scope.names,x.2≠.cell)
  (hx:scope.names.lookup x=some .local) (hlen:scope.names.lookup ("len" : Str)=some .globalImplicit) (hxd:(x == ("__debug__" : Str))=false)
  (hdef:defaultsOf params X.env=([],[])) (hcl:closureFor scope X.env=pure [])
  (hbind:∀ (qual:Str) (body:Expr) (pm cv ctv u:Value),bindArgs (PySem.W.kla_fn "<lambda>" qual params body scope [] pm cv ctv) ⟨[u],[]⟩=pure [(x,u)]) (hq:X.env.qual++Str.ofString "<lambda>" = lamQ:=by rfl):
  PE X (.Call (.Name "sorted" p) [.Name y py] [{ arg:=some "key",value:=.Lambda params (.Call (.Name "len" p1) [.Subscript (.Name x p2) (.Constant (.int 0) j p3) p4] [] p5) scope lp,pos:=kp },
   { arg:=some "reverse",value:=.Constant (.bool true) j2 p6,pos:=rp }] pos) (cSortLen K P te):=by
 subst hK;intro pins s σ H Q I h;refine wpAny_Call_Name_kw (cR I hg hm n4 ?_ (by decide) (by decide));refine callWith_kw (e:=.Name y py) (rest:=[]) ?_;refine Calls.spliced_cons (thn (he pins s σ H _ I h) fun u s1 ⟨v,H1,I1,r1,q1⟩=>Calls.spliced_nil ?_)
 match v,r1,q1 with
 | .ref l,rfl,⟨xs,key,a1,a2,a3,a4,a5⟩=>
  have kin:=I1.kIn;have hgP:mainGlobals≠P:=fun z=>by
   obtain ⟨o,es,ep,e1,_⟩:=I1.mod.glob;have:=(I1.bs _ _ e1).2;rw [z,a4] at this; cases this
  have hb:s1.heap.BuiltinsAt X.mg P:=by
   obtain ⟨b,sl,b1,b2,b3,b4⟩:=hL.bm;refine ⟨b,_,b1,b2,b3,fun z=>?_,kin _ _ b4,rfl,rfl,rfl⟩;have:=(I1.bs _ _ (I1.ok.mod.kin _ _ b4)).2;rw [z,a4] at this; cases this
  obtain ⟨ps,hP,t1,t2⟩:=I1.hok P _ a4;rw [Array.empty_append] at hP t1 t2;have hP:s1.heap.get? P=some (PySem.W.tabObj ps):=hP;have hLs:X.env.locals < s1.heap.objs.size:=I1.lt;have neP:∀ {b:Addr} {o:Obj},s1.heap.get? b=some o->o.cls≠.none->b≠P:=fun {b o} e hc z=>by rw [z,hP] at e; cases e; exact hc rfl
  cases hca:codeAmong lp ps.toList with
  | none=>
   refine evalAll_cons (wpAny_bind (tokQ I1.tk (PySem.W.kla_eval hdef (PySem.W.kla_makeFunction hcl I1.ok.glob (I1.mod.glob.keeps I1.bk) hcode (hL.hd kin) hP t1 hca hgP hb fun c' ctv h' tk hx1 hge hlt hrec htb (htk:0 < tk)=>wpAny_bind (wpAny_standAt (wpAny_pure ?_))))));refine evalAll_cons (wpAny_bind (Constant_bool (wpAny_bind (wpAny_standAt (wpAny_pure (evalAll_nil ?_))))));generalize hfo:PySem.W.kla_obj (Str.ofString "<lambda>") (X.env.qual++Str.ofString "<lambda>") params
       ((Expr.Name (Str.ofString "len") p1).Call [(Expr.Name x p2).Subscript (Expr.Constant (Const.int 0) j p3) p4] [] p5) scope [] ((X.mg (Str.ofString "__name__")).getD Value.none) c' ctv=fo
   have kp2:∀ b u,b≠P->s1.heap.get? b=some u->(h'.push fo).get? b=some u:=fun b u hb e=>Heap.get?_push_of_some _ (hx1 b u hb e)
   obtain ⟨c2,oc,ws,tq,e2,hoc,hrest⟩:=id hrec;cases e2;have hn:H1 c'=none:=I1.hok.fresh hge;have I2:=I1.tabled (h':=h'.push fo) (t':=tk) (ps:=#[]) (more:=ps++#[rawInt lp.line,rawInt lp.col,.ref c']) a4 kp2 hge ⟨_,Heap.get?_push_of_some _ hoc⟩ (by rw [Array.empty_append]; exact Heap.get?_push_of_some _ htb) (by
    rw [Array.empty_append];refine ⟨by rw [Array.toList_append]; exact pN _ t1,fun pos cv q=>?_⟩;rw [Array.toList_append] at q;rcases sJ _ t1 q with q | q
    ·obtain ⟨c3,z1,z2,z3,o3,vs3,tt3,z4,z5,z6⟩:=t2 pos cv q;cases z4;exact ⟨c3,z1,by rw [ao (aQ z2 hn)]; exact z2,c3,o3,vs3,tt3,rfl,kp2 _ _ (fun z=>by rw [z,a4] at z2; cases z2) z5,z6⟩
    ·exact ⟨c',q,upd_same,by rw [<- hq]; exact ⟨c',oc,ws,tq,rfl,Heap.get?_push_of_some _ hoc,hrest⟩⟩) htk
   exact mz hr hml hk hco hgen hcell hx hlen hxd hbind I1 (ae hn _) a1 a2 a3 neP hfo (Nat.le_of_lt (Nat.lt_of_le_of_lt hge hlt)) (Nat.ne_of_gt (Nat.lt_of_lt_of_le hLs hge)) hrec kp2 htk I2 a5
  | some cv=>
   obtain ⟨c',rfl,z2,hrec⟩:=t2 _ _ hca;refine evalAll_cons (wpAny_bind (tokQ I1.tk (PySem.W.kla_eval hdef (PySem.W.kla_makeFunctionHit hcl I1.ok.glob (I1.mod.glob.keeps I1.bk) hcode (hL.hd kin) hP t1 hca hb fun ctv h' tk hx1 hge (htk:0 < tk)=>wpAny_bind (wpAny_standAt (wpAny_pure ?_))))));refine evalAll_cons (wpAny_bind (Constant_bool (wpAny_bind (wpAny_standAt (wpAny_pure (evalAll_nil ?_))))));have kp2:∀ (fo:Obj) b u,s1.heap.get? b=some u->(h'.push fo).get? b=some u:=fun fo b u e=>Heap.get?_push_of_some _ (hx1 b u e)
   obtain ⟨c2,oc,ws,tq,e2,hoc,hrest⟩:=hrec;cases e2;exact mz hr hml hk hco hgen hcell hx hlen hxd hbind I1 (Same.refl _) a1 a2 a3 neP rfl hge (fun z=>by rw [z,I1.free] at z2; cases z2) ⟨c',oc,ws,tq,rfl,hx1 _ _ hoc,by rw [hq]; exact hrest⟩ (fun b u _=>kp2 _ b u) htk (I1.kept (kp2 _)) a5
end
noncomputable def isTab (o:Obj):Bool:=match o.cls,o.data with
 | .none,.fields vs=>vs.isEmpty
 | _,_=>false
noncomputable def cut (K:Frag):Frag:=K.filter fun p=>!isTab p.2
theorem cut_lookup:∀ {K:Frag} {a:Addr} {o:Obj},K.lookup a=some o->isTab o=false->(cut K).lookup a=some o
 | [],_,_,e,_=>by cases e
 | (b,x)::K,a,o,e,h=>by
  unfold cut;rw [List.lookup_cons] at e;rw [List.filter_cons];cases hb:a == b with
  | true=>
   rw [hb] at e;cases e;rw [if_pos (by simp [h]),List.lookup_cons,hb]
  | false=>
   rw [hb] at e;have:=cut_lookup e h;by_cases hx:(!isTab x)=true
   ·rw [if_pos hx,List.lookup_cons,hb]; exact this
   ·rw [if_neg hx]; exact this
theorem tV {K:Frag} {a:Addr} {o:Obj} (e:(cut K).lookup a=some o):(a,o) ∈ K/\isTab o=false:=by
 have:=List.mem_filter.mp (PySem.W.mem_of_lookupK e);exact ⟨this.1,by simpa using this.2⟩
theorem cut_ns {K:Frag} {n:Addr} {x:Str} {r:Option Value} (h:nsIn K n x=some r):nsIn (cut K) n x=some r:=by
 unfold nsIn at h ⊢;cases q:K.lookup n with
 | none=>rw [q] at h; cases h
 | some o=>
  rw [q] at h;obtain ⟨cl,od,da,sl⟩:=o;cases da with
  | dict es ep=>rw [cut_lookup q (by unfold isTab; cases cl <;> rfl)]; exact h
  | _=>cases h
theorem cut_code {K:Frag} {cd:Value} {q:Str} (h:codeIn K cd q=true):codeIn (cut K) cd q=true:=by
 unfold codeIn at h ⊢;cases cd with
 | ref c=>
  cases e:K.lookup c with
  | none=>simp only [e] at h; cases h
  | some o=>
   obtain ⟨cl,od,da,sl⟩:=o;cases da with
   | fields vs=>
    simp only [e] at h;have hv:isTab ⟨cl,od,.fields vs,sl⟩=false:=by
     unfold isTab;cases cl <;> try rfl
     show vs.isEmpty=false;cases z:vs.isEmpty with
     | false=>rfl
     | true=>
      have:vs=#[]:=by simpa using z
      rw [this] at h;simp at h
    simp only [cut_lookup e hv]; exact h
   | _=>simp only [e] at h; cases h
 | _=>cases h
theorem cut_keep {K:Frag} {f:Addr} {cl:Value} {od:Option Addr} {fd:FuncData} {sl:Array (Option Value)} (h:(cut K).lookup f=some ⟨cl,od,.func fd,sl⟩):keepIn (cut K) (.ref f)=true:=by
 unfold keepIn;simp only [h]
theorem cut_tab {K:Frag} {x:Str} {c P:Addr} (h:PySem.W.tabIn K x=some (c,P)):PySem.W.tabIn (cut K) x=some (c,P):=by
 unfold PySem.W.tabIn at h ⊢;split at h
 ·rename_i f hf;simp only [cut_ns hf];split at h
  ·rename_i hfo;simp only [cut_lookup hfo (by unfold isTab; split <;> first | rfl | (rename_i q; cases q))];split at h
   ·rename_i c₂ hc;split at h
    ·rename_i vs _ hco;split at h
     ·rename_i P₂ hv;have hn:∀ cl od sl,isTab ⟨cl,od,.fields vs,sl⟩=false:=fun cl od sl=>by
       unfold isTab;cases cl <;> try rfl
       show vs.isEmpty=false;cases z:vs.isEmpty with
       | false=>rfl
       | true=>
        have z:vs=#[]:=by simpa using z
        rw [z] at hv;cases hv
      simp only [cut_lookup hco (hn _ _ _),hv];exact h
     ·cases h
    ·cases h
   ·cases h
  ·cases h
 ·cases h
structure LamFn (K:Frag) (mg:Str->Option Value) (x:Str) (c P:Addr):Prop where
 tb:PySem.W.tabIn K x=some (c,P)
 cd:∀ f fd oc od sl,mg x=some (.ref f)->K.lookup f=some ⟨oc,od,.func fd,sl⟩->fd.code=.ref c
 lam:LamAt K mg c P
theorem vX {K:Frag} {h:Heap} {mg:Str->Option Value} {x:Str} {c P b:Addr} {od:Option Addr} {vs:Array Value} {sl sl2:Array (Option Value)} {file:Str} {tf tg tt:Tok} {flags text:Int} {inF:Bool} (X:K.In h) (G:h.Ns mainGlobals mg)
  (tb:PySem.W.tabIn K x=some (c,P)) (e1:K.lookup c=some ⟨.type "code",od,.fields vs,sl⟩) (e2:vs[11]? = some (.ref P)) (e4:vs.getD 18 .none=.str file tf) (e5:vs.getD 7 .none=.int flags tg) (e6:vs.getD 9 .none=.bool inF) (e7:vs.getD 10 .none=.int text tt) (ne:c≠P)
  (b1:nsIn K mainGlobals "__builtins__" = some (some (.ref b))) (b2:b≠builtinsNs) (b3:b≠mainGlobals) (b4:K.lookup b=some ⟨.type "module",some builtinsNs,.plain,sl2⟩):LamFn K mg x c P where
 tb:=tb
 cd:=fun f fd oc od sl hm ho=>PySem.W.law_code X G tb hm (X _ _ ho) rfl
 lam:=⟨⟨od,vs,sl,file,tf,flags,tg,inF,text,tt,e1,e2,by
   have:vs.getD 11 .none=(vs[11]?).getD .none:=by simp [Array.getD_eq_getD_getElem?]
   rw [this,e2]; rfl,e4,e5,e6,e7⟩,ne,b,sl2,mg_of X G b1,b2,b3,b4⟩
theorem Fn.calC {P:Program} {w:World} {K:Frag} {mg:Str->Option Value} {base:Heap} {x:Str} {st:Stmt} {N ps:List Str} {k:Nat} {sp:Sp} {c P':Addr} (F:Fn K mg x st) (L:LamFn K mg x c P') (S:FnScope N ps (defScope st)) (len:∀ vs H Q E,sp vs H Q E->vs.length=ps.length)
  (hb:∀ (kV doc pm:Value) (an:Option Addr) (cdv ct:Value) (us:List Value),us.length=ps.length->bindArgs (fnOf x x (defArgs st) (defBody st) (defScope st) .none kV doc pm an cdv ct) ⟨us,[]⟩=pure (ps.zip us))
  (hbody:∀ (f:Addr) (A:Around) (outer:List Env) (s:Shared) (H:Hp) (vs:List V) (Q:VK) (E:XK),Room k (A.deeper (envOfC x (defScope st) s.heap.objs.size f (.ref c)))->sp vs H Q E ->
   ∃ t,PSs (cxOf CX0 P w K mg base N x (defScope st) f (.ref c) A outer s H E).nox (defBody st) t/\t { nx:=fun _ H'=>Q .non H',rt:=Q } (start N vs) H):Callee P w K mg base (k+1) x ps sp:=by
 obtain ⟨f,fd,F,m⟩:=F;obtain ⟨oc,od,kV,doc,pm,an,cdv,ct,osl,rfl,lk,hcd⟩:=id F.ex;have hc:cdv=.ref c:=L.cd f _ _ _ _ m lk;subst hc;refine ⟨f,_,zm lk hcd S len fun A outer s H vs Q E hr hsp=>?_,F.binds hb,F.kp,m⟩;obtain ⟨t,h,q⟩:=hbody f A outer s H vs Q E hr hsp;exact ⟨t,h.nox,q⟩
theorem uo {P:Program} {w:World} {K:Frag} {mg mb:Str->Option Value} {CX:CXT} {k:Nat} {fa a c T:Addr} {fd:FuncData} {x:Str} {sp:Sp} {s₁:Shared} {vs:List Value} {ns:List Int}
  (KX:K.In s₁.heap) (hns:s₁.heap.Ns mainGlobals mg) (hb:s₁.heap.Ns builtinsNs mb) (hbb:∀ x:Str,x ≠ "__name__" -> mb x=bootBuiltins x) (hlim:s₁.heap.NoLimit) (hg:s₁.gens=#[]) (htk:0 < s₁.toks)
  (ha:s₁.heap.get? a=some { cls:=.type "list",data:=.seq vs.toArray }) (hi:IntsAre vs ns) (hl:ns.length<=sizeLine) (hr:Room k callerA)
  (hT:s₁.heap.get? T=some (PySem.W.tabObj #[])) (hC:PySem.W.CodeHd s₁.heap c T) (hKT:K.lookup T=none)
  (F:∀ base:Heap,K.In base->base.Ns mainGlobals mg->FnOk P w K mg base CX k fa fd [x] sp) (hbind:∀ (s:Shared) (u:Value),BindsTo s fd ⟨[u],[]⟩ [(x,u)])
  (hsp:∀ H:Hp,H T=some (.tbl #[])->SqL K H a (ns.map V.int)->sp [.ref a] H (fun v _=>v=.bl true) fun _ _ _=>False)
  (hCX:∀ H e s',CX [] H s₁ (fun _ _ _=>False) e s'->False):
  codeAny (model P w) callerA (.call (.ref fa) ⟨[.ref a],[]⟩) (fun r s'=>r=.ok (.ret (.bool true))/\OldK s₁.heap s'.heap/\s'.os=s₁.os/\AllBare s'.gens) s₁:=by
 have rv:=j7 hi;have lenV:=hi.length;have haT:a≠T:=fun z=>by rw [z,hT] at ha; cases ha
 have core:∀ H:Hp,(∀ b,H b=none\/b=T\/(b=a/\∃ o xs,H b=some (.frz o (.lst xs))))->H T=some (.tbl #[])->SqL K H a (ns.map V.int)->HOk P w H s₁.heap->(H a≠none->K.lookup a=none) ->
   codeAny (model P w) callerA (.call (.ref fa) ⟨[.ref a],[]⟩) (fun r s'=>r=.ok (.ret (.bool true))/\OldK s₁.heap s'.heap/\s'.os=s₁.os/\AllBare s'.gens) s₁:=by
  intro H hO hHT hS hok hK;have base_of:∀ {b:Addr} {o:Obj},s₁.heap.get? b=some o->H b=none->(hidT s₁.heap H).get? b=some o:=fun e n=>wC e n
  have noA:∀ {b:Addr} {o:Obj} {es:Array DictEntry} {ep:Nat},s₁.heap.get? b=some o->o.data=.dict es ep->H b=none:=fun {b o es ep} e d=>by
   rcases hO b with z | z | ⟨z,_⟩
   ·exact z
   ·rw [z,hT] at e; cases e; cases d
   ·rw [z,ha] at e; cases e; cases d
  have nsK:∀ {b:Addr} {m:Str->Option Value},s₁.heap.Ns b m->(hidT s₁.heap H).Ns b m:=fun {b m} ⟨o,es,ep,e,d,r⟩=>⟨o,es,ep,base_of e (noA e d),d,r⟩
  have hKb:K.In (hidT s₁.heap H):=fun b o e=>base_of (KX b o e) (by
   rcases hO b with z | z | ⟨z,o',xs,q⟩
   ·exact z
   ·rw [z,hKT] at e; cases e
   ·rw [z] at e q;rw [hK (by rw [q]; simp)] at e; cases e)
  have hM:Mod K mg (hidT s₁.heap H):=⟨hKb,nsK hns,⟨mb,nsK hb,hbb⟩,let ⟨mc,h1,h2⟩:=hlim; ⟨mc,nsK h1,h2⟩⟩;have e0:Env0 P w K mg (hidT s₁.heap H) callerA [] s₁ H:=⟨rfl,hM,fun b o e=>zl e,Nat.le_of_eq (ui _ _),trivial,fun b hb=>absurd (show b ∈ ([]:List Addr) from hb) (by simp),hok,.of_eq hg,htk⟩;refine codeAny_mono ((F _ hKb (nsK hns)).run callerA [] s₁ H ⟨[.ref a],[]⟩ [.ref a] [.ref a] _ _ hr e0 (hbind s₁ (.ref a)) (.cons rfl .nil) (hsp H hHT hS)) fun r s' h=>?_
  cases r with
  | error e=>exact (hCX H e s' h).elim
  | ok fl=>
   cases fl with
   | next=>exact False.elim h
   | brk=>exact False.elim h
   | cont=>exact False.elim h
   | ret u=>
    obtain ⟨v,H',_,os,bare,un,hok',r',q⟩:=h;have q':v=.bl true:=q;subst q';obtain rfl:u=Value.bool true:=r';have kept:∀ b o,b≠T->s₁.heap.get? b=some o->s'.heap.get? b=some o:=fun b o hbT e=>by
     rcases hO b with z | z | ⟨z,ob,xs,z1⟩
     ·exact un.keep b o e z (by intro z; exact absurd (show b ∈ ([]:List Addr) from z) (by simp)) (by simp)
     ·exact absurd z hbT
     ·have z2:=un.frzs b ob _ z1;obtain ⟨e1,_⟩:=hok b _ z1;obtain ⟨e2,_⟩:=hok' b _ z2;rw [e] at e1; cases e1;exact e2
    obtain ⟨more,hm⟩:=un.tbls T #[] hHT;obtain ⟨more2,hT2,_⟩:=hok' T _ hm;have hT':s'.heap.get? T=some (PySem.W.tabObj (#[]++(more++more2))):=by rw [<- Array.append_assoc]; exact hT2
    refine ⟨rfl,⟨fun b o e=>?_,fun b o e=>?_⟩,os,bare⟩
    ·by_cases hbT:b=T
     ·subst hbT;rw [hT] at e;cases e;exact .inr (.inl ⟨(hC.tab hT).isCodeTable,rfl,#[],more++more2,rfl,hT'⟩)
     ·exact .inl (kept b o hbT e)
    ·by_cases hbT:b=T
     ·exact ⟨_,by rw [hbT]; exact hT'⟩
     ·exact ⟨o,kept b o hbT e⟩
 have okT:∀ H:Hp,ObjOk P w H s₁.heap T (.tbl #[]):=fun H=>⟨#[],hT,True.intro,fun pos cv q=>by cases q⟩
 cases hk:K.lookup a with
 | some o=>
  have e:=KX a o hk;rw [ha] at e;cases e;refine core (fun b=>if b=T then some (.tbl #[]) else none) (fun b=>?_) (if_pos rfl) (.inr ⟨_,vs.toArray,_,hk,rfl,rfl,rfl,by rw [List.size_toArray,lenV]; exact hl,by simpa using rv⟩) (fun b u z=>?_) fun z=>absurd (if_neg haT) z
  ·by_cases hb:b=T
   ·exact .inr (.inl hb)
   ·exact .inl (if_neg hb)
  ·by_cases hb:b=T
   ·have z':=(if_pos hb).symm.trans z;cases z';subst hb;exact okT _
   ·have z':=(if_neg hb).symm.trans z;cases z'
 | none=>
  refine core (fun b=>if b=T then some (.tbl #[]) else if b=a then some (.frz { cls:=.type "list",data:=.seq vs.toArray } (.lst (ns.map V.int))) else none) (fun b=>?_) (if_pos rfl) (.inl (.inr ⟨{ cls:=.type "list",data:=.seq vs.toArray },?_⟩)) (fun b u z=>?_) fun _=>hk
  ·by_cases hb:b=T
   ·exact .inr (.inl hb)
   ·by_cases hba:b=a
    ·exact .inr (.inr ⟨hba,_,_,by rw [if_neg hb,if_pos hba]⟩)
    ·exact .inl (by rw [if_neg hb,if_neg hba])
  ·show (if a=T then _ else _)=_;rw [if_neg haT,if_pos rfl]
  ·by_cases hb:b=T
   ·have z':=(if_pos hb).symm.trans z;cases z';subst hb;exact okT _
   ·have z:=(if_neg hb).symm.trans z;by_cases hba:b=a
    ·have z':=(if_pos hba).symm.trans z;cases z';subst hba;exact ⟨ha,by rw [List.length_map]; exact hl,vs,_,rv,ha⟩
    ·have z':=(if_neg hba).symm.trans z;cases z'
theorem walk_ofXT {l:PySem.W.OpenLaw} {n k:Nat} {q:Program} {loose:List Str} {XP:(Str->Option Value)->Heap->Prop} {α:Type} {Yf:Shared->α} {Ya:World->α} {d:DefRec} {K:Params->Frag} {c T:Addr} {CX:World->CXT} {sp:World->Sp} {x:Str}
  (hn:l.most=some n) (hn2:n<=sizeLine) (hdf:d.params.defaults=[]) (hr:Room k callerA)
  (hY:∀ (w:World) (s:Shared),Yf s=Ya w->(K w.params).In s.heap/\0 < s.toks/\s.heap.get? T=some (PySem.W.tabObj #[])/\PySem.W.CodeHd s.heap c T/\(K w.params).lookup T=none)
  (F:∀ (w:World) (mg:Str->Option Value) (fa:Addr) (h:Heap),(K w.params).In h->h.Ns mainGlobals mg->mg d.name=some (.ref fa) ->
   ∃ fd:FuncData,(∀ (s:Shared) (u:Value),BindsTo s fd ⟨[u],[]⟩ [(x,u)]) /\
    ∀ base:Heap,(K w.params).In base->base.Ns mainGlobals mg->FnOk l.prog w (K w.params) mg base (CX w) k fa fd [x] (sp w))
  (hsp:∀ (w:World) (H:Hp) (a:Addr) (ns:List Int),ns.length<=n->H T=some (.tbl #[])->SqL (K w.params) H a (ns.map V.int)->sp w [.ref a] H (fun v _=>v=.bl true) fun _ _ _=>False)
  (hCX:∀ (w:World) (H:Hp) (s:Shared) (e:Value) (s':Shared),CX w [] H s (fun _ _ _=>False) e s'->False):
  PySem.W.WalkX q loose XP Yf Ya l.row.toRowW d [] (fun f vs=>PySem.call f vs):=by
 refine pV hn hdf fun w s₀ s₁ mg mb fa a vs ns G Y kp ht hmg hobj hints hlen hg=>?_
 obtain ⟨K0,t0,eT,eC,eK⟩:=hY w s₀ Y;have KX:(K w.params).In s₁.heap:=fun b o e=>kp b o (K0 b o e)
 obtain ⟨fd,hb,hF⟩:=F w mg fa _ KX G.T.g hmg;exact uo KX G.T.g G.T.b G.T.builtins G.T.nolimit hg (Nat.lt_of_lt_of_le t0 ht) hobj hints (Nat.le_trans hlen hn2) hr (kp _ _ eT) (eC.keeps kp) eK hF hb (fun H hO hS=>hsp w H a ns hlen hO hS) fun H e s'=>hCX w H s₁ e s'
theorem oK {h:Heap}:∀ {K:Frag},PySem.W.X.AllIn h K->∀ p ∈ K,h.get? p.1=some p.2
 | [],_,p,hp=>absurd hp List.not_mem_nil
 | q::K,al,p,hp=>by
  rcases List.mem_cons.mp hp with e | hp
  ·rw [e]; exact al.1
  ·exact oK al.2 p hp
theorem AY {K:Params->Frag} {as:List Addr} {n t:Nat} {w:World} {s:Shared} {c T:Addr} {od:Option Addr} {vs:Array Value} {sl:Array (Option Value)} {file:Str} {tf tg tt:Tok} {flags text:Int} {inF:Bool} (y:PySem.W.X.obsZ as s=PySem.W.X.valZ K n t w) (e:∀ P,as=(K P).map (·.1)) (ht:0 < t)
  (e1:(K w.params).lookup c=some ⟨.type "code",od,.fields vs,sl⟩) (e2:vs[11]? = some (.ref T)) (e4:vs.getD 18 .none=.str file tf) (e5:vs.getD 7 .none=.int flags tg) (e6:vs.getD 9 .none=.bool inF) (e7:vs.getD 10 .none=.int text tt) (ne:c≠T)
  (eT:(K w.params).lookup T=some (PySem.W.tabObj #[])):
  (cut (K w.params)).In s.heap/\0 < s.toks/\s.heap.get? T=some (PySem.W.tabObj #[])/\PySem.W.CodeHd s.heap c T/\(cut (K w.params)).lookup T=none:=by
 obtain ⟨al,h,_,q⟩:=PySem.W.X.z_facts e y;have mem:∀ p ∈ K w.params,s.heap.get? p.1=some p.2:=oK al;refine ⟨fun a o z=>mem _ (tV z).1,by rw [q]; exact ht,h _ _ eT,⟨_,vs,file,tf,flags,tg,inF,text,tt,h _ _ e1,rfl,rfl,e2,by
   have:vs.getD 11 .none=(vs[11]?).getD .none:=by simp [Array.getD_eq_getD_getElem?]
   rw [this,e2]; rfl,e4,e5,e6,e7,ne⟩,?_⟩
 cases z:(cut (K w.params)).lookup T with
 | none=>rfl
 | some o=>
  have z1:=tV z;have z2:=mem _ z1.1;rw [h _ _ eT] at z2;cases z2;exact absurd z1.2 (by decide)
section
variable {X:Cx}
theorem sq {K:Frag} {P:Addr} {te:TE} {σ:St} {H:Hp} {Q:VK}:cSortLen K P te σ H Q=te σ H fun v H1=>match v with
 | .ref p=>∃ (xs:List V) (key:V->Nat),SqL K H1 p xs/\xs.length < 64/\(∀ x ∈ xs,∃ r y rest,x=.ref r/\SqT K H1 r (.str y::rest)/\y.length<=sizeLine/\key x=y.length)/\H1 P=some (.tbl #[]) /\
   ∀ q H' xs',H1 q=none->Same H1 H'->H' q=some (.lst xs')->Desc key xs xs'->Q (.ref q) H'
 | _=>False:=rfl
end
structure LamOk (K:Frag) (x:Str) (c T:Addr):Prop where
 tb:PySem.W.tabIn K x=some (c,T)
 code:∃ od vs sl file tf flags tg inF text tt,K.lookup c=some ⟨.type "code",od,.fields vs,sl⟩/\vs[11]? = some (.ref T)/\vs.getD 18 .none=.str file tf/\vs.getD 7 .none=.int flags tg/\vs.getD 9 .none=.bool inF/\vs.getD 10 .none=.int text tt
 ne:c≠T
 bm:∃ b sl,nsIn K mainGlobals "__builtins__" = some (some (.ref b))/\b≠builtinsNs/\b≠mainGlobals/\K.lookup b=some ⟨.type "module",some builtinsNs,.plain,sl⟩
 tab:K.lookup T=some (PySem.W.tabObj #[])
theorem lamok_mk {K:Frag} {x:Str} {c T b f:Addr} {od od1:Option Addr} {oc:Value} {fd:FuncData} {vs:Array Value} {sl sl1 sl2:Array (Option Value)} {file:Str} {tf tg tt:Tok} {flags text:Int} {inF:Bool}
  (a:nsIn K mainGlobals x=some (some (.ref f))) (l:K.lookup f=some ⟨oc,od1,.func fd,sl1⟩) (hc:fd.code=.ref c) (e1:K.lookup c=some ⟨.type "code",od,.fields vs,sl⟩) (e2:vs[11]? = some (.ref T)) (e4:vs.getD 18 .none=.str file tf) (e5:vs.getD 7 .none=.int flags tg) (e6:vs.getD 9 .none=.bool inF) (e7:vs.getD 10 .none=.int text tt) (ne:c≠T)
  (b1:nsIn K mainGlobals "__builtins__" = some (some (.ref b))) (b2:b≠builtinsNs) (b3:b≠mainGlobals) (b4:K.lookup b=some ⟨.type "module",some builtinsNs,.plain,sl2⟩) (eT:K.lookup T=some (PySem.W.tabObj #[])):LamOk K x c T:=
 ⟨by unfold PySem.W.tabIn; simp only [a,l,hc,e1,e2],⟨od,vs,sl,file,tf,flags,tg,inF,text,tt,e1,e2,e4,e5,e6,e7⟩,ne,⟨b,sl2,b1,b2,b3,b4⟩,eT⟩
theorem LamOk.zz {K:Params->Frag} {x:Str} {as:List Addr} {n t:Nat} {w:World} {s:Shared} {c T:Addr} (L:LamOk (K w.params) x c T) (y:PySem.W.X.obsZ as s=PySem.W.X.valZ K n t w) (e:∀ P,as=(K P).map (·.1)) (ht:0 < t):
  (cut (K w.params)).In s.heap/\0 < s.toks/\s.heap.get? T=some (PySem.W.tabObj #[])/\PySem.W.CodeHd s.heap c T/\(cut (K w.params)).lookup T=none:=by
 obtain ⟨od,vs,sl,file,tf,flags,tg,inF,text,tt,e1,e2,e4,e5,e6,e7⟩:=L.code;exact AY y e ht e1 e2 e4 e5 e6 e7 L.ne L.tab
theorem pM {o:Obj} (h:o.cls≠.none):isTab o=false:=by
 unfold isTab;split
 ·rename_i a b; exact absurd a h
 ·rfl
theorem LamOk.fn {K:Frag} {x:Str} {c T:Addr} {h:Heap} {mg:Str->Option Value} (L:LamOk K x c T) (X:(cut K).In h) (G:h.Ns mainGlobals mg):LamFn (cut K) mg x c T:=by
 obtain ⟨od,vs,sl,file,tf,flags,tg,inF,text,tt,e1,e2,e4,e5,e6,e7⟩:=L.code;obtain ⟨b,sl2,b1,b2,b3,b4⟩:=L.bm;exact vX X G (cut_tab L.tb) (cut_lookup e1 (pM (by nofun))) e2 e4 e5 e6 e7 L.ne (cut_ns b1) b2 b3 (cut_lookup b4 (pM (by nofun)))
theorem cut_keepF {K:Frag} {f:Addr} (h:PySem.W.fnIn K f=true):keepIn (cut K) (.ref f)=true:=by
 unfold PySem.W.fnIn at h;split at h
 ·rename_i fd _ e;exact cut_keep (cut_lookup e (by unfold isTab; split <;> first | rfl | (rename_i q; cases q)))
 ·cases h
section
variable {X:Cx}
end
structure ClsT (K:Frag) (mg:Str->Option Value) (x:Str):Prop where
 m:mg x=some (.ref (xA K x))
 c:Cls K (xA K x)
def MethT (K:Frag) (x m qual:Str) (st:Stmt):Prop:=∃ f fd,Meth K (xA K x) m f/\Fun K m qual st f fd
def MkT (K:Frag) (x qual:Str) (st:Stmt):Prop:=∃ f fd,Mk K (xA K x) f/\Fun K "__init__" qual st f fd
def MCal (P:Program) (w:World) (K:Frag) (mg:Str->Option Value) (base:Heap) (k:Nat) (x m:Str) (ps:List Str) (sp:Sp):Prop:=
 ∃ f fd,FnOk P w K mg base CX0 k f fd ps sp/\Binds K fd ps []/\Meth K (xA K x) m f
def KCal (P:Program) (w:World) (K:Frag) (mg:Str->Option Value) (base:Heap) (k:Nat) (x:Str) (ps:List Str) (sp:Sp):Prop:=
 ∃ f fd,FnOk P w K mg base CX0 k f fd ps sp/\Binds K fd ps []/\Mk K (xA K x) f
theorem MethT.cal {P:Program} {w:World} {K:Frag} {mg:Str->Option Value} {base:Heap} {x m qual:Str} {st:Stmt} {N ps:List Str} {k:Nat} {sp:Sp} (F:MethT K x m qual st) (S:FnScope N ps (defScope st)) (len:∀ vs H Q E,sp vs H Q E->vs.length=ps.length)
  (hb:∀ (kV doc pm:Value) (an:Option Addr) (cdv ct:Value) (us:List Value),us.length=ps.length->bindArgs (fnOf m qual (defArgs st) (defBody st) (defScope st) .none kV doc pm an cdv ct) ⟨us,[]⟩=pure (ps.zip us))
  (hbody:∀ (f:Addr) (cdv:Value) (A:Around) (outer:List Env) (s:Shared) (H:Hp) (vs:List V) (Q:VK) (E:XK),Room k (A.deeper (envOfC qual (defScope st) s.heap.objs.size f cdv))->sp vs H Q E ->
   ∃ t,PSs (cxOf CX0 P w K mg base N qual (defScope st) f cdv A outer s H E).nox (defBody st) t/\t { nx:=fun _ H'=>Q .non H',rt:=Q } (start N vs) H):MCal P w K mg base (k+1) x m ps sp:=by
 obtain ⟨f,fd,M,F⟩:=F;exact ⟨f,fd,F.ok S len (hbody f),F.binds hb,M⟩
theorem MkT.cal {P:Program} {w:World} {K:Frag} {mg:Str->Option Value} {base:Heap} {x qual:Str} {st:Stmt} {N ps:List Str} {k:Nat} {sp:Sp} (F:MkT K x qual st) (S:FnScope N ps (defScope st)) (len:∀ vs H Q E,sp vs H Q E->vs.length=ps.length)
  (hb:∀ (kV doc pm:Value) (an:Option Addr) (cdv ct:Value) (us:List Value),us.length=ps.length->bindArgs (fnOf "__init__" qual (defArgs st) (defBody st) (defScope st) .none kV doc pm an cdv ct) ⟨us,[]⟩=pure (ps.zip us))
  (hbody:∀ (f:Addr) (cdv:Value) (A:Around) (outer:List Env) (s:Shared) (H:Hp) (vs:List V) (Q:VK) (E:XK),Room k (A.deeper (envOfC qual (defScope st) s.heap.objs.size f cdv))->sp vs H Q E ->
   ∃ t,PSs (cxOf CX0 P w K mg base N qual (defScope st) f cdv A outer s H E).nox (defBody st) t/\t { nx:=fun _ H'=>Q .non H',rt:=Q } (start N vs) H):KCal P w K mg base (k+1) x ps sp:=by
 obtain ⟨f,fd,M,F⟩:=F;exact ⟨f,fd,F.ok S len (hbody f),F.binds hb,M⟩
section
variable {X:Cx} {k:Nat} {x m:Str} {ps:List Str} {sp:Sp} {p pos apos:Pos} {e o:Expr} {es:List Expr} {ta:TE} {t:TA}
theorem pC {pl:Sem Bool} (C:ClsT X.K X.mg x) (M:MCal X.prog X.w X.K X.mg X.base k x m ps sp) (hr:Room k X.A) (he:PE X o ta) (ha:PA X (e::es) t)
  (hst:starEach (e::es) X.env=(false,eval e X.env)::starEach es X.env:=by rfl) (hpl:(backTo pos (starEach es X.env)).any (·.1)=false:=by rfl)
  (ht:eval (.Call (.Attribute o m apos) (e::es) [] pos) X.env=(do
   let ov <- eval o X.env
   standAt apos.atName
   let (f,first) <- holding [ov] (getMethod ov m pl)
   callWith pos f first (backTo pos (starEach (e::es) X.env)) (backToKw pos (keywordEach [] X.env))):=by rfl):
  PE X (.Call (.Attribute o m apos) (e::es) [] pos) (tMeth (xA X.K x) m sp [] E0 ta t):=by
 obtain ⟨f,fd,F,b,M⟩:=M;exact xW (pl:=pl) he C.c M F hr b .nil pass0 ha hst hpl ht
theorem yS {C:Addr} {E:XK} {dvs:List V} {σ:St} {H:Hp} {Q:VK}:tMeth C m sp dvs E ta t σ H Q=ta σ H fun x H1=>∃ a dx fs,x=.ref a/\H1 a=some (.ins C dx fs)/\fs.lookup m=none/\t σ H1 fun vs H2=>sp (x::(vs++dvs)) H2 Q E:=rfl
theorem ye {C:Addr} {E:XK} {dvs:List V} {σ:St} {H:Hp} {Q:VK}:tMake C sp dvs E t σ H Q=t σ H fun vs H1=>∀ x dx,H1 x=none->H1 dx=none->dx≠x->sp (.ref x::(vs++dvs)) (upd (upd H1 dx (.own x)) x (.ins C dx [])) (fun v H2=>v=.non/\Q (.ref x) H2) E:=rfl
theorem AL {K:Frag} {f:Str} {σ:St} {H:Hp} {Q:VK}:tFld K ta f σ H Q=ta σ H fun x H1=>∃ a C dx fs v,x=.ref a/\H1 a=some (.ins C dx fs)/\Cls K C/\NoAttr K C f/\fs.lookup f=some v/\Q v H1:=rfl
theorem zV {K:Frag} {tv:TE} {f:Str} {D:Ends} {σ:St} {H:Hp}:sFld K ta tv f D σ H=tv σ H fun y H1=>ta σ H1 fun x H2=>∃ a C dx fs,x=.ref a/\H2 a=some (.ins C dx fs)/\Cls K C/\NoAttr K C f/\fs.length < 1000/\D.nx σ (upd H2 a (.ins C dx (putF f y fs))):=rfl
noncomputable def kTupL (K:Frag):List V->Hp->VK->Prop:=fun xs H Q=>match xs with
 | [.ref p]=>∃ ys,SqL K H p ys/\∀ l,H l=none->Q (.ref l) (upd H l (.tup ys))
 | _=>False
theorem vp (K:Frag) (hK:X.K=K):CallR X (.type "tuple") (kTupL K):=by
 subst hK;intro pins s σ H xs us Q I r q;unfold kTupL at q;split at q
 ·obtain ⟨ys,h,q⟩:=q;exact nW pins s σ H _ us Q I r ⟨_,ys,rfl,.inl ⟨h,q⟩⟩
 ·exact q.elim
theorem zf {K:Frag} {p:Addr} {H:Hp} {Q:VK}:kTupL K [.ref p] H Q=∃ ys,SqL K H p ys/\∀ l,H l=none->Q (.ref l) (upd H l (.tup ys)):=rfl
end
section
variable {X:Cx}
noncomputable def kMin2:List V->Hp->VK->Prop:=fun xs H Q=>match xs with
 | [.int a,.int b]=>Q (.int (if b < a then b else a)) H
 | _=>False
theorem gp (hc:X.calm=true):CallR X (.builtin "min") kMin2:=by
 intro pins s σ H xs us Q I r q;unfold kMin2 at q;split at q
 ·exact ur hc pins s σ H _ us Q I r ⟨_,_,rfl,q⟩
 ·exact q.elim
theorem xR {a b:Int} {H:Hp} {Q:VK}:kMin2 [.int a,.int b] H Q=Q (.int (if b < a then b else a)) H:=rfl
noncomputable def cListRng2 (te tf:TE):TE:=fun σ H Q=>te σ H fun x H1=>tf σ H1 fun y H2=>match x,y with
 | .int i,.int j=>-1000<=i/\i<=1000 /\ -1000<=j/\j<=100000/\∀ p,H2 p=none->Q (.ref p) (upd H2 p (.lst ((List.range (j - i).toNat).map fun (k:Nat)=>V.int (i+k))))
 | _,_=>False
theorem qi {acc:Array Value} {n:Nat} {a:Int} (h:ItemsOf (fun i v=>∃ t,v=Value.int (a+(i:Int)*1) t) acc n):Vals ((List.range n).map fun (i:Nat)=>V.int (a+i)) acc.toList:=by
 obtain ⟨hs,hi⟩:=h;have:∀ (l:List Value) (k:Nat),(∀ (j:Nat) (v:Value),l[j]? = some v->∃ t,v=Value.int (a+((k+j:Nat):Int)) t)->Vals ((List.range' k l.length).map fun (i:Nat)=>V.int (a+i)) l:=by
  intro l
  induction l with
  | nil=>intro k _; exact .nil
  | cons v l ih=>
   intro k hv;rw [List.length_cons,List.range'_succ,List.map_cons];refine .cons ?_ (ih (k+1) fun j u hu=>?_)
   ·obtain ⟨t,e⟩:=hv 0 v rfl;exact ⟨t,by simpa using e⟩
   ·obtain ⟨t,e⟩:=hv (j+1) u (by simpa using hu);exact ⟨t,by rw [e]; congr 3; omega⟩
 have:=this acc.toList 0 fun j v hv=>by
  obtain ⟨t,e⟩:=hi j v (by simpa using hv);exact ⟨t,by rw [e]; simp⟩
 rw [Array.length_toList,hs,<- List.range_eq_range'] at this;exact this
theorem qF {e f:Expr} {te tf:TE} {p p2 pos pos2:Pos} (hc:X.calm=true) (hg:Gl X "list") (hm:X.mg "list" = none) (hg2:Gl X "range") (hm2:X.mg "range" = none) (he:PE X e te) (hf:PE X f tf)
  (hs:starEach [e,f] X.env=[(false,eval e X.env),(false,eval f X.env)]:=by rfl)
  (hs2:starEach [Expr.Call (.Name "range" p2) [e,f] [] pos2] X.env=[(false,eval (Expr.Call (.Name "range" p2) [e,f] [] pos2) X.env)]:=by rfl)
  (hs3:starEach [e,f] X.env=(false,eval e X.env)::starEach [f] X.env:=by rfl) (hs4:(backTo pos2 (starEach [f] X.env)).any (·.1)=false:=by rfl):
  PE X (.Call (.Name "list" p) [.Call (.Name "range" p2) [e,f] [] pos2] [] pos) (cListRng2 te tf):=by
 intro pins s σ H Q I h;refine wpAny_Call_Name_kw (cR I hg hm jy ?_ (by decide) (by decide));refine PyProof.Rows.callWith_type1 ?_ hs2 rfl;rw [hs2];show wpAny _ _ (spliced [(false,eval (Expr.Call (.Name "range" p2) [e,f] [] pos2) X.env)]) _ _ s;refine Calls.spliced_cons ?_;refine wpAny_Call_Name_kw (cR I hg2 hm2 boot_range ?_ (by decide) (by decide));refine PyProof.Rows.callWith_type1 ?_ hs3 hs4;rw [hs];show wpAny _ _ (spliced [(false,eval e X.env),(false,eval f X.env)]) _ _ s;refine Calls.spliced_cons (thn (he pins s σ H _ I h) fun u s1 ⟨x,H1,I1,r1,q1⟩=>Calls.spliced_cons (thn (hf pins s1 σ H1 _ I1 q1) fun u2 s2 ⟨y,H2,I2,r2,q2⟩=>Calls.spliced_nil ?_));have key:∃ i j,x=.int i/\y=.int j:=by
  cases x <;> cases y <;> first | exact ⟨_,_,rfl,rfl⟩ | exact False.elim q2
 obtain ⟨i,j,rfl,rfl⟩:=key;obtain ⟨t,ht⟩:=r1;obtain ⟨t2,ht2⟩:=r2;obtain ⟨a0,a1,a2,a3,a4⟩:=q2;subst ht;subst ht2;refine call_range_2 (Calls.spliced_nil ?_);have I3:Inv X pins σ H2 { s2 with heap:=s2.heap.push { cls:=.type "range",data:=.fields #[.int i t,.int j t2,.int 1 s2.toks] },toks:=s2.toks+1 }:=I2.kept fun b o q=>Heap.get?_push_of_some _ q
 have hsz:Builtin.Range.rangeSize i j 1=(((j - i).toNat:Nat):Int):=by rw [rangeSize_one]; split <;> omega
 refine tokQ I3.tk (call_list_range (n:=(j - i).toNat) (I.ok.hd hc) (IsRange.new ..) (small_one (by omega) (by omega) (by omega) (by omega)) hsz (by omega) fun h' tk acc c' old ho hi (htk:0 < tk)=>?_);exact ⟨.ref _,_,I3.laid (o:=.lst ((List.range (j - i).toNat).map fun (k:Nat)=>V.int (i+k))) (t':=tk) old (Nat.le_refl _) ⟨by rw [List.length_map,List.length_range,sizeLine_eq]; omega,acc.toList,c',qi hi,by simpa using ho⟩,rfl,a4 _ (I3.hok.fresh (Nat.le_refl _))⟩
theorem qE {te tf:TE} {σ:St} {H:Hp} {Q:VK}:cListRng2 te tf σ H Q=te σ H fun x H1=>tf σ H1 fun y H2=>match x,y with
 | .int i,.int j=>-1000<=i/\i<=1000 /\ -1000<=j/\j<=100000/\∀ p,H2 p=none->Q (.ref p) (upd H2 p (.lst ((List.range (j - i).toNat).map fun (k:Nat)=>V.int (i+k))))
 | _,_=>False:=rfl
end
section
variable {X:Cx} {a b c:Expr} {ta tb tc:TE} {pos:Pos}
theorem x5 {te:TE} {σ:St} {H:Hp} {Q:Bool->Hp->Prop}:tTest te σ H Q=te σ H fun z H3=>∃ k,z=.bl k/\Q k H3:=rfl
end
section
variable {K:Frag} {α:Type} {xs:List α} {item:α -> V} {h:α -> List V} {H:Hp} {D:Addr} {σc:St} {Q:VK}
end
end L2
namespace L2
open PySem
section
variable {K:Frag} {h:Heap} {mg:Str->Option Value} {x m qual:Str} {C f:Addr} {fd:FuncData} {st:Stmt}
theorem zc (X:K.In h) (G:h.Ns mainGlobals mg) (n:nsIn K mainGlobals x=some (some (.ref C))) (pg:PySem.W.plainGet K C Str.empty=true) (hd:PySem.W.hasDictIn K C=true) (po:PySem.W.plainOver K C=true)
  (sa:findIn K (.ref C) "__setattr__" = some (some (.builtin "object.__setattr__"))):ClsT K mg x:=⟨by rw [qO n]; exact mg_of X G n,by rw [qO n]; exact ⟨pg,hd,po,sa⟩⟩
theorem iJ {a:Str} (n:nsIn K mainGlobals x=some (some (.ref C))) (e:findIn K (.ref C) a=some none):NoAttr K (xA K x) a:=by rw [qO n]; exact e
theorem ni (n:nsIn K mainGlobals x=some (some (.ref C))) (a:findIn K (.ref C) m=some (some (.ref f))) (w:PySem.W.isFn K (.ref f)=true) (kp:keepIn K (.ref f)=true) (F:Fun K m qual st f fd):MethT K x m qual st:=
 ⟨f,fd,by rw [qO n]; exact ⟨a,w,kp⟩,F⟩
theorem zw (n:nsIn K mainGlobals x=some (some (.ref C))) (mk:PySem.W.makesIn K C=true) (kc:keepIn K (.ref C)=true) (a:findIn K (.ref C) "__init__" = some (some (.ref f))) (w:PySem.W.isFn K (.ref f)=true) (F:Fun K "__init__" qual st f fd):MkT K x qual st:=
 ⟨f,fd,by rw [qO n]; exact ⟨mk,a,w,kc⟩,F⟩
end
end L2
namespace L2
open PySem PySem.Spec PyProof.Rows
section
variable {X:Cx} {o e f:Expr} {to te tf:TE} {apos cpos:Pos}
noncomputable def insAt (xs:List V) (k:Nat) (y:V):List V:=xs.take k++y::xs.drop k
noncomputable def rInsert:V->List V->Hp->VK->Prop:=fun x vs H Q=>∃ (l:Addr) (xs:List V) (i:Int) (k:Nat) (y:V),x=.ref l/\vs=[.int i,y]/\i=(k:Int)/\H l=some (.lst xs)/\k<=xs.length/\xs.length < 100000/\Q .non (upd H l (.lst (insAt xs k y)))
theorem yh (l:List Value) (k:Nat) (y:Value):(l.toArray.extract 0 k).push y++l.toArray.extract k=(l.take k++y::l.drop k).toArray:=by
 apply Array.toList_inj.mp;have:(l.drop k).take (l.length - k)=l.drop k:=List.take_of_length_le (by simp);simp [this]
theorem vv:MtM X "list.insert" rInsert:=by
 intro pins s σ H x vs v us Q I rx rv h;obtain ⟨l,xs,i,k,y,rfl,rfl,hi,hH,hk,hz,q⟩:=h;cases rx;obtain ⟨u,u2,rfl,ru,ru2⟩:=Vals.two rv;obtain ⟨t,rfl⟩:=ru;obtain ⟨z,its,n,r,hl,e⟩:=I.lstM hH;have hb:=big5;have h1:-(2 ^ 63)<=i:=by rw [hi]; exact Int.le_trans (by decide) (Int.natCast_nonneg k)
 have h2:i < 2 ^ 63:=by rw [hi]; exact Int.lt_of_le_of_lt (Int.ofNat_le.mpr (Nat.le_trans hk (Nat.le_of_lt hz))) (by decide)
 have h3:¬(!Builtin.List.listFitsIndex i)=true:=by rw [show Builtin.List.listFitsIndex i=true from fitsIndex_both h1 h2]; decide
 have h4:its.toArray.size<=sizeLine:=by rw [List.size_toArray]; omega
 refine call_meets F.slot_list_insert ⟨_,e,rfl⟩ F.entry_list_insert (F.args_list_insert_3 _ _ _) (AutoSeq1.list_insert_list_int_val_1 l its.toArray n i t u2 h3 h4) ⟨e,?_⟩;refine ⟨.non,_,I.lset (its':=its.take k++u2::its.drop k) hH e ?_ ((r.take k).append (.cons ru2 (r.drop k))) ?_,rfl,q⟩
 ·show (its.toArray.extract 0 (if i < 0 then (i+(its.toArray.size:Int)).toNat else min i.toNat its.toArray.size)).push u2++its.toArray.extract (if i < 0 then (i+(its.toArray.size:Int)).toNat else min i.toNat its.toArray.size)=_;rw [if_neg (by omega),show min i.toNat its.toArray.size=k by rw [List.size_toArray]; omega,yh]
 ·rw [List.length_append,List.length_cons,List.length_take,List.length_drop];omega
noncomputable def cInsert (to te tf:TE):TE:=fun σ H Q=>to σ H fun x H1=>match x with
 | .ref l=>(∃ xs,H1 l=some (.lst xs))/\te σ H1 fun y H2=>tf σ H2 fun z H3=>match y with
  | .int i=>∃ (xs:List V) (k:Nat),i=(k:Int)/\H3 l=some (.lst xs)/\k<=xs.length/\xs.length < 100000/\Q .non (upd H3 l (.lst (insAt xs k z)))
  | _=>False
 | _=>False
theorem kA (ho:PE X o to) (he:PE X e te) (hf:PE X f tf) (hbase:attributeBase o "insert" X.env (eval o X.env)=eval o X.env:=by rfl)
  (hfew:((backTo cpos (starEach [e,f] X.env)).all (fun x=>!x.1) && (backToKw cpos (keywordEach [] X.env)).all (fun x=>x.1.isSome) && decide ([e,f].length+([]:List Keyword).length+(if ([]:List Keyword).isEmpty then 0 else 1) < 30))=true:=by rfl)
  (hline:(apos.endLine == cpos.line)=true:=by rfl) (hs:starEach [e,f] X.env=(false,eval e X.env)::starEach [f] X.env:=by rfl) (hs2:starEach [f] X.env=(false,eval f X.env)::starEach [] X.env:=by rfl) (hplain:(backTo cpos (starEach [f] X.env)).any (·.1)=false:=by rfl):PE X (.Call (.Attribute o "insert" apos) [e,f] [] cpos) (cInsert to te tf):=
 (rf PySem.F.plainAttrs_list PySem.F.slot_list_insert PySem.F.type_list_insert vv ho.mono (aa he.mono (aa hf.mono ab hs2) hs) hbase hfew hline hs hplain).imp fun σ H Q q=>⟨_,q,fun x H1 z=>by
  split at z
  ·rename_i l;obtain ⟨⟨xs,h⟩,z⟩:=z;refine ⟨.inl ⟨rfl,_,SqL.of h⟩,_,z,fun y H2 z2=>⟨_,z2,fun w H3 z3=>?_⟩⟩;split at z3
   ·obtain ⟨xs2,k,rfl,h2,h3,h4,z4⟩:=z3;exact ⟨l,xs2,_,k,w,rfl,rfl,rfl,h2,h3,h4,z4⟩
   ·exact z3.elim
  ·exact z.elim⟩
theorem uF {σ:St} {H:Hp} {Q:VK}:cInsert to te tf σ H Q=to σ H fun x H1=>match x with
 | .ref l=>(∃ xs,H1 l=some (.lst xs))/\te σ H1 fun y H2=>tf σ H2 fun z H3=>match y with
  | .int i=>∃ (xs:List V) (k:Nat),i=(k:Int)/\H3 l=some (.lst xs)/\k<=xs.length/\xs.length < 100000/\Q .non (upd H3 l (.lst (insAt xs k z)))
  | _=>False
 | _=>False:=rfl
noncomputable def kAll (K:Frag):List V->Hp->VK->Prop:=fun xs H Q=>match xs with
 | [.ref p]=>∃ bs:List Bool,SqL K H p (bs.map V.bl)/\Q (.bl (bs.all id)) H
 | _=>False
theorem oO (K:Frag) (hK:X.K=K) (hc:X.calm=true):CallR X (.builtin "all") (kAll K):=by
 subst hK;intro pins s σ H xs us Q I r q;unfold kAll at q;split at q
 ·rename_i p;obtain ⟨bs,hq,q⟩:=q;obtain ⟨u,rfl,ru⟩:=vals1 r;cases ru;obtain ⟨its,rv,pl,_⟩:=I.list hq;obtain rfl:=lT rv;have hl:s.heap.IsList p (bs.map Value.bool).toArray:=pl.isList;have hp:p < s.heap.objs.size:=by obtain ⟨o,ho,_⟩:=hl; exact Heap.lt_size ho
  refine tokQ I.tk (call_all_walk (wpAny_pyIter_list hl ?_));refine ⟨_,_,_,_,_,_,fun i=>(bs[i]?).getD true,rfl,Walks.list (A:=X.A.in1) (I.ok.hd hc) _ p (Nat.ne_of_lt hp) (bs.map Value.bool).toArray,⟨⟨_,Heap.get?_push_size _ rfl,rfl,rfl⟩,hl.push _⟩,?_,fun h' tk k (htk:0 < tk)=>?_⟩
  ·intro i v s' Q' E' hP hQ';have hi:bs[i]?.map Value.bool=some v:=by simpa using hP
   cases hb:bs[i]? with
   | none=>rw [hb] at hi; cases hi
   | some b=>
    have e:(fun i=>(bs[i]?).getD true) i=b:=by simp [hb]
    rw [e] at hQ';rw [hb] at hi;cases hi;exact wpAny_truthy_bool hQ'
  ·have e:((List.range (bs.map Value.bool).toArray.size).all fun i=>(bs[i]?).getD true)=bs.all id:=by
    simp only [List.size_toArray,List.length_map];rw [Bool.eq_iff_iff,List.all_eq_true,List.all_eq_true];constructor
    ·intro h b hb;obtain ⟨i,hi,rfl⟩:=List.getElem_of_mem hb;have:=h i (by simpa using hi);rw [List.getElem?_eq_getElem hi] at this;exact this
    ·intro h i hi;have hi:i < bs.length:=by simpa using hi
     rw [List.getElem?_eq_getElem hi];exact h _ (List.getElem_mem hi)
   rw [e];refine ⟨.bl _,H,I.kept (fun b o q=>k b o ?_ (Heap.get?_push_of_some _ q)),rfl,q⟩;intro z;have:=Heap.lt_size q;rw [List.mem_singleton.mp z] at this;exact Nat.lt_irrefl _ this
 ·exact q.elim
theorem zG {K:Frag} {p:Addr} {H:Hp} {Q:VK}:kAll K [.ref p] H Q=∃ bs:List Bool,SqL K H p (bs.map V.bl)/\Q (.bl (bs.all id)) H:=rfl
noncomputable def kStr:List V->Hp->VK->Prop:=fun xs H Q=>match xs with
 | [.int i]=>(i=0\/i=1)/\Q (.str (st [48+i.toNat])) H
 | _=>False
theorem oj:CallR X (.type "str") kStr:=by
 intro pins s σ H xs us Q I r q;unfold kStr at q;split at q
 ·rename_i i;obtain ⟨hi,q⟩:=q;obtain ⟨u,rfl,t,rfl⟩:=vals1 r;refine P.str_of_int ?_ ⟨.str (st [48+i.toNat]),H,I.tok _,⟨s.toks,?_⟩,q⟩
  ·rcases hi with rfl | rfl <;> decide
  ·rcases hi with rfl | rfl
   ·exact congrArg (Value.str · s.toks) (by decide +kernel)
   ·exact congrArg (Value.str · s.toks) (by decide +kernel)
 ·exact q.elim
theorem zW {i:Int} {H:Hp} {Q:VK}:kStr [.int i] H Q=((i=0\/i=1)/\Q (.str (st [48+i.toNat])) H):=rfl
end
section
variable {X:Cx} {e:Expr} {te:TE} {lo hi:Option Expr} {st:Expr} {tl th ts:TO} {p2 pos:Pos}
end
def Rise (xs:Array Nat):Prop:=∀ a b,a < b->∀ (hb:b < xs.size) (ha:a < xs.size),xs[a] < xs[b]
theorem nq {xs:Array Nat} {j:Nat} (hr:Rise xs):∀ (fuel lo hi:Nat),hi - lo<=fuel->lo<=hi->hi<=xs.size->(∀ i (h:i < xs.size),i < lo->xs[i] < j)->(∀ i (h:i < xs.size),hi<=i->j<=xs[i]) ->
  SetTable.below.go xs j fuel lo hi<=xs.size/\(∀ i (h:i < xs.size),i < SetTable.below.go xs j fuel lo hi->xs[i] < j)/\(∀ i (h:i < xs.size),SetTable.below.go xs j fuel lo hi<=i->j<=xs[i])
 | 0,lo,hi,hf,h1,h2,h3,h4=>by
  have:lo=hi:=by omega
  subst this;unfold SetTable.below.go;exact ⟨h2,h3,h4⟩
 | fuel+1,lo,hi,hf,h1,h2,h3,h4=>by
  unfold SetTable.below.go;by_cases hlt:lo < hi
  ·rw [if_pos hlt];have hm:(lo+hi) / 2 < xs.size:=by omega
   have hg:xs.getD ((lo+hi) / 2) j=xs[(lo+hi) / 2]:=by simp [hm]
   simp only [hg];by_cases hx:xs[(lo+hi) / 2] < j
   ·rw [if_pos hx];refine nq hr fuel _ hi (by omega) (by omega) h2 (fun i h hi'=>?_) h4;rcases Nat.lt_or_ge i ((lo+hi) / 2) with z | z
    ·exact Nat.lt_trans (hr i _ z hm h) hx
    ·obtain rfl:i=(lo+hi) / 2:=by omega
     exact hx
   ·rw [if_neg hx];refine nq hr fuel lo _ (by omega) (by omega) (by omega) h3 (fun i h hi'=>?_);rcases Nat.lt_or_ge ((lo+hi) / 2) i with z | z
    ·have:=hr _ i z h hm;omega
    ·obtain rfl:i=(lo+hi) / 2:=by omega
     omega
  ·rw [if_neg hlt];obtain rfl:lo=hi:=by omega
   exact ⟨h2,h3,h4⟩
theorem lV {xs:Array Nat} (hr:Rise xs) (j:Nat):SetTable.below xs j<=xs.size/\(∀ i (h:i < xs.size),i < SetTable.below xs j->xs[i] < j)/\(∀ i (h:i < xs.size),SetTable.below xs j<=i->j<=xs[i]):=by
 unfold SetTable.below;exact nq hr xs.size 0 xs.size (by omega) (by omega) (Nat.le_refl _) (fun i _ h=>absurd h (by omega)) (fun i h z=>absurd h (by omega))
theorem xj {xs:Array Nat} (hr:Rise xs) {i:Nat} (h:i < xs.size):SetTable.below xs (xs[i]+1)=i+1:=by
 obtain ⟨b0,b1,b2⟩:=lV hr (xs[i]+1);rcases Nat.lt_trichotomy (SetTable.below xs (xs[i]+1)) (i+1) with z | z | z
 ·have:=b2 i h (by omega);omega
 ·exact z
 ·have h1:i+1 < xs.size:=by omega
  have:=b1 (i+1) h1 z;have:=hr i (i+1) (by omega) h1 h;omega
theorem tz {xs:Array Nat} (hr:Rise xs):SetTable.below xs 0=0:=by
 obtain ⟨b0,b1,b2⟩:=lV hr 0;rcases Nat.eq_zero_or_pos (SetTable.below xs 0) with z | z
 ·exact z
 ·exact absurd (b1 0 (by omega) z) (by omega)
theorem oC {xs:Array Nat}:Rise xs ↔ xs.toList.Pairwise (· < ·):=by
 rw [List.pairwise_iff_getElem];constructor
 ·intro h a b ha hb hab;have:=h a b hab (by simpa using hb) (by simpa using ha);simpa using this
 ·intro h a b hab hb ha;have:=h a b (by simpa using ha) (by simpa using hb) hab;simpa using this
theorem qN {xs:Array Nat} (hr:Rise xs) {j:Nat} (hj:¬ xs[SetTable.below xs j]? = some j):Rise (SetTable.insertAt xs (SetTable.below xs j) j):=by
 obtain ⟨b0,b1,b2⟩:=lV hr j;generalize SetTable.below xs j=p at *;have hlt:∀ i (h:i < xs.size),p<=i->j < xs[i]:=fun i h z=>by
  have h0:=b2 i h z;rcases Nat.lt_or_ge j xs[i] with q | q
  ·exact q
  ·exfalso;have e:xs[i]=j:=by omega
   rcases Nat.lt_or_ge p i with z2 | z2
   ·have hp:p < xs.size:=by omega
    have:=hr p i z2 h hp;have:=b2 p hp (Nat.le_refl _);omega
   ·obtain rfl:i=p:=by omega
    exact hj (by rw [Array.getElem?_eq_getElem h,e])
 have hl:=oC.mp hr;rw [oC,SetTable.toList_insertAt];have A:∀ a ∈ xs.toList.take p,a < j:=fun a ha=>by
  obtain ⟨i,hi,rfl⟩:=List.mem_take_iff_getElem.mp ha;have:=b1 i (by simp at hi; omega) (by omega);simpa using this
 have B:∀ b ∈ xs.toList.drop p,j < b:=fun b hb=>by
  obtain ⟨i,hi,rfl⟩:=List.mem_drop_iff_getElem.mp hb;have:=hlt (p+i) (by simp at hi; omega) (by omega);simpa using this
 have hl':=hl;rw [<- List.take_append_drop p xs.toList,List.pairwise_append] at hl';refine List.pairwise_append.mpr ⟨hl'.1,List.pairwise_cons.mpr ⟨B,hl'.2.1⟩,fun a ha b hb=>?_⟩;rcases List.mem_cons.mp hb with rfl | hb
 ·exact A a ha
 ·exact Nat.lt_trans (A a ha) (B b hb)
def Laid0 (t:SetTable):Prop:=Rise t.place/\t.dummies=#[]
theorem uc (j:Nat):SetTable.has #[] j=false:=by
 unfold SetTable.has;simp
theorem m4 {t:SetTable} (h0:t.dummies=#[]) (f:Nat->Int) (h:Int):∀ (n:Nat) (p:SetTable.Probe) (j:Nat) (d:Option Nat),p.dummy=none->SetTable.probe.go t f h n p=some (.empty j d)->d=none/\¬ t.place[SetTable.below t.place j]? = some j
 | 0,p,j,d,_,e=>by simp [SetTable.probe.go] at e
 | n+1,p,j,d,hp,e=>by
  unfold SetTable.probe.go at e;have hs:t.slot p.j=if t.place[SetTable.below t.place p.j]? == some p.j then .live (SetTable.below t.place p.j) else .empty:=by
   unfold SetTable.slot;rw [h0,uc];rfl
  rw [hs] at e;by_cases z:t.place[SetTable.below t.place p.j]? = some p.j
  ·rw [if_pos (by rw [z]; exact beq_self_eq_true _)] at e;dsimp only at e;split at e
   ·cases e
   ·refine m4 h0 f h n _ j d ?_ e;unfold SetTable.advance;split
    ·exact hp
    ·exact hp
  ·rw [if_neg (by simpa using z)] at e;dsimp only at e;injection e with e
   injection e with e1 e2
   subst e1 e2;exact ⟨hp,z⟩
theorem sI (n:Nat):Rise (Array.range n):=fun a b h hb ha=>by simpa using h
theorem c8 (t:SetTable) (n:Nat):Laid0 (t.standIn n):=⟨sI n,rfl⟩
theorem w6 {t:SetTable} (h:Laid0 t) (n:Nat):Laid0 (t.orStandIn n):=by
 unfold SetTable.orStandIn;split
 ·exact h
 ·exact c8 t n
theorem uH {t:SetTable} (L:Laid0 t) (es:Array (Int × Value)) (h:Int) (x:Value):Laid0 (layNew t es h x).2.1:=by
 unfold layNew;split
 ·rename_i slot wd e;refine w6 ?_ _;unfold SetTable.freeSlot at e;split at e
  ·rename_i j d e2;obtain ⟨rfl,hj⟩:=m4 L.2 _ h _ _ j d rfl e2;cases e;refine ⟨qN L.1 hj,?_⟩;show (if SetTable.has t.dummies _ then _ else t.dummies)=#[];rw [L.2,uc];rfl
  ·cases e
 ·exact c8 t _
theorem rW {mask finger moves:Nat} {led plain:Bool} {hs:Array Int} {r:SetTable × Array Nat} (h:SetTable.laid mask finger moves led plain hs=some r):Laid0 r.1:=by
 unfold SetTable.laid at h;cases q:SetTable.layClean mask hs with
 | none=>rw [q] at h; cases h
 | some ow=>
  rw [q] at h;cases h;refine ⟨?_,rfl⟩;have:(((List.range (mask+1)).filterMap fun j=>(ow.getD j none).map (j,·)).map (·.1)).Pairwise (· < ·):=by
   rw [List.pairwise_map,List.pairwise_filterMap];refine List.pairwise_lt_range.imp fun {a b} hab x hx y hy=>?_
   obtain ⟨_,_,rfl⟩:=Option.map_eq_some_iff.mp hx;obtain ⟨_,_,rfl⟩:=Option.map_eq_some_iff.mp hy;exact hab
  intro a b hab hb ha;have:=List.pairwise_iff_getElem.mp this a b (by simpa using ha) (by simpa using hb) hab;simpa using this
theorem kR {t:SetTable} (es:Array (Int × Value)) (n:Nat):Laid0 (relayAll t es n).2.1:=by
 unfold relayAll;split
 ·rename_i t' order e;have q:=rW e;dsimp only;split
  ·exact q
  ·exact c8 t _
 ·exact c8 t _
noncomputable def intOf:Value->Int
 | .int x _=>x
 | _=>0
def IsInts (w:World) (h:Heap) (a:Addr) (led:Bool) (ss:List Int):Prop:=
 ∃ es ep t,h.get? a=some { cls:=.type "set",dict:=none,data:=.set es ep t,slots:=#[] }/\(∀ e ∈ es.toList,∃ x u,e=(hashInt x,Value.int x u)) /\
  (es.toList.map fun e=>intOf e.2).Perm ss/\t.fits es.size=true/\t.led=led/\Laid0 t
section
variable {prog:Program} {w:World} {A:Around} {E:Value->Shared->Prop} {s:Shared}
theorem i5 (x:Int) (u:Tok):Value.isInt x (Value.int x u)=true:=by simp [Value.isInt]
theorem tw {es:Array (Int × Value)} (h:∀ e ∈ es.toList,∃ x u,e=(hashInt x,Value.int x u)):ElemsOf (PySem.intKind prog w) es.toList:=fun e he=>by
 obtain ⟨x,u,rfl⟩:=h e he;exact ⟨⟨x,i5 x u,rfl⟩,rfl⟩
theorem vK {es:List (Int × Value)} (h:∀ e ∈ es,∃ x u,e=(hashInt x,Value.int x u)) (x:Int):
  (es.findIdx? fun e=>(PySem.intKind prog w).is x e.2)=none ↔ x ∉ es.map fun e=>intOf e.2:=by
 rw [List.findIdx?_eq_none_iff];constructor
 ·intro q hm;obtain ⟨e,he,rfl⟩:=List.mem_map.mp hm;obtain ⟨y,u,rfl⟩:=h e he;have:=q _ he;rw [show (PySem.intKind prog w).is (intOf (hashInt y,Value.int y u).2) (hashInt y,Value.int y u).2=true from i5 y u] at this;cases this
 ·intro q e he;obtain ⟨y,u,rfl⟩:=h e he;cases hb:(PySem.intKind prog w).is x (Value.int y u) with
  | false=>rfl
  | true=>
   have e2:y=x:=by
    obtain ⟨t,q⟩:=Value.isInt_shape (v:=Value.int y u) hb;injection q
   exact absurd (List.mem_map.mpr ⟨_,he,by rw [<- e2]; rfl⟩) q
noncomputable def addI (ss:List Int) (x:Int):List Int:=if x ∈ ss then ss else ss++[x]
theorem add_int {a:Addr} {led:Bool} {ss:List Int} {x:Int} {u:Tok} {Q:Bool->Shared->Prop} (hS:IsInts w s.heap a led ss) (room:ss.length+1 < scanBound)
  (h:∀ h' b,Heap.SameBut a s.heap h'->IsInts w h' a led (addI ss x)->Q b { s with heap:=h' }):
  wpAny (model prog w) A (setAddHashed a (.int x u) (hashInt x)) Q E s:=by
 obtain ⟨es,ep,t,ho,hel,hp,hf,hl,hL⟩:=hS;have hE:=tw (prog:=prog) (w:=w) hel;have hk:(PySem.intKind prog w).is x (Value.int x u)=true:=i5 x u;have hsz:es.size=ss.length:=by have:=hp.length_eq; simpa using this
 have hb:es.size < scanBound:=by omega
 unfold setAddHashed setAddHashedIn;refine wpAny_holding (wpAny_bind (wpAny_setState_of ho rfl hf ?_));dsimp only;rw [byScan_of (knd:=PySem.intKind prog w) rfl hb hE,if_pos rfl];unfold setAddByScan;refine wpAny_bind (wpAny_bind (wpAny_rule (wpAny_bind (wpAny_setScan_of (knd:=PySem.intKind prog w) hk ho rfl hf hE ?_))));have hfind:=vK (prog:=prog) (w:=w) hel x;cases hr:es.toList.findIdx? (fun e=>(PySem.intKind prog w).is x e.2) with
 | some j=>
  have hin:x ∈ ss:=by
   rw [<- hp.mem_iff];apply Classical.byContradiction;intro z;rw [hfind.mpr z] at hr;cases hr
  refine wpAny_pure (wpAny_pure ?_);have:=h s.heap false (Heap.SameBut.refl a s.heap) ⟨es,ep,t,ho,hel,by unfold addI; rw [if_pos hin]; exact hp,hf,hl,hL⟩;exact this
 | none=>
  have hin:x ∉ ss:=by
   rw [<- hp.mem_iff];exact hfind.mp hr
  dsimp only;have p1:=layNew_perm t es (hashInt x) (Value.int x u);have p2:=layNew_fits t es (hashInt x) (Value.int x u);have p3:=sC t es (hashInt x) (Value.int x u);have p4:=uH hL es (hashInt x) (Value.int x u);generalize layNew t es (hashInt x) (Value.int x u)=L at p1 p2 p3 p4 ⊢;obtain ⟨es1,t1,wd,gave⟩:=L;dsimp only at p1 p2 p3 p4 ⊢;rw [Array.toList_push] at p1;have hel1:∀ e ∈ es1.toList,∃ x u,e=(hashInt x,Value.int x u):=fun e he=>by
   rcases List.mem_append.mp (p1.mem_iff.mp he) with q | q
   ·exact hel e q
   ·rw [List.mem_singleton.mp q]; exact ⟨x,u,rfl⟩
  have hp1:(es1.toList.map fun e=>intOf e.2).Perm (addI ss x):=by
   refine (p1.map _).trans ?_;unfold addI;rw [if_neg hin,List.map_append];exact hp.append_right _
  have hz1:es1.size=ss.length+1:=by
   have:=p1.length_eq;simp only [Array.length_toList,List.length_append,List.length_singleton] at this;omega
  have gw:∀ (b:Bool) (s₁:Shared) (Q':Unit->Shared->Prop),Q' () s₁ -> wpAny (model prog w) A (match b with | true=>rule "set.scan.the-table-gave-way" | false=>pure ()) Q' E s₁:=fun b s₁ Q' q=>by
   cases b
   ·exact wpAny_pure q
   ·exact wpAny_rule q
  refine wpAny_bind (gw _ _ _ ?_);split
  ·refine wpAny_bind ?_;rw [hashByValue_scannable 8 (x:=Value.int x u) rfl];refine wpAny_pure ?_;have pk:plainKind (Value.int x u)=true:=rfl;simp only [pk,↓reduceIte];obtain ⟨t2,et,f2,l2,L2'⟩:∃ t2:SetTable,t2=t1/\t2.fits es1.size=true/\t2.led=led/\Laid0 t2:=⟨_,rfl,p2,p3.1.trans hl,p4⟩;rw [<- et];refine wpAny_bind (wpAny_storeSet_of ho rfl ?_ (fits_of_scanBound (by omega)));have o1:=lO (es':=es1) (t':=t2) ho;have sb1:=Heap.SameBut.update s.heap a (Obj.putSet es1 t2);refine wpAny_ite_split (fun _=>?_) fun _=>?_
   ·have q1:=relayAll_perm t2 es1 (SetTable.grown es1.size);have q2:=relayAll_fits t2 es1 (SetTable.grown es1.size);have q3:=oN t2 es1 (SetTable.grown es1.size);have q4:=kR (t:=t2) es1 (SetTable.grown es1.size);generalize relayAll t2 es1 (SetTable.grown es1.size)=R at q1 q2 q3 q4 ⊢;obtain ⟨es2,t3,g2⟩:=R;dsimp only at q1 q2 q3 q4 ⊢;have z2:es2.size=es1.size:=by have:=q1.length_eq; simpa using this
    refine wpAny_bind (gw _ _ _ ?_);refine wpAny_bind (wpAny_storeSet_of o1 rfl ?_ (fits_of_scanBound (by omega)));have o2:=lO (s:={ s with heap:=s.heap.update a (Obj.putSet es1 t2) }) (es':=es2) (t':=t3) o1;exact wpAny_pure (wpAny_pure (h _ _ (sb1.trans (Heap.SameBut.update _ a _)) ⟨es2,_,t3,o2,fun e he=>hel1 e (q1.mem_iff.mp he),(q1.map _).trans hp1,q2,q3.1.trans l2,q4⟩))
   ·exact wpAny_pure (wpAny_pure (h _ _ sb1 ⟨es1,_,t2,o1,hel1,hp1,f2,l2,L2'⟩))
  ·rename_i np;refine wpAny_bind (wpAny_pure ?_);simp only [↓reduceIte];obtain ⟨t2,et,f2,l2,L2'⟩:∃ t2:SetTable,t2=t1/\t2.fits es1.size=true/\t2.led=led/\Laid0 t2:=⟨_,rfl,p2,p3.1.trans hl,p4⟩;rw [<- et];refine wpAny_bind (wpAny_storeSet_of ho rfl ?_ (fits_of_scanBound (by omega)));have o1:=lO (es':=es1) (t':=t2) ho;have sb1:=Heap.SameBut.update s.heap a (Obj.putSet es1 t2);refine wpAny_ite_split (fun _=>?_) fun _=>?_
   ·have q1:=relayAll_perm t2 es1 (SetTable.grown es1.size);have q2:=relayAll_fits t2 es1 (SetTable.grown es1.size);have q3:=oN t2 es1 (SetTable.grown es1.size);have q4:=kR (t:=t2) es1 (SetTable.grown es1.size);generalize relayAll t2 es1 (SetTable.grown es1.size)=R at q1 q2 q3 q4 ⊢;obtain ⟨es2,t3,g2⟩:=R;dsimp only at q1 q2 q3 q4 ⊢;have z2:es2.size=es1.size:=by have:=q1.length_eq; simpa using this
    refine wpAny_bind (gw _ _ _ ?_);refine wpAny_bind (wpAny_storeSet_of o1 rfl ?_ (fits_of_scanBound (by omega)));have o2:=lO (s:={ s with heap:=s.heap.update a (Obj.putSet es1 t2) }) (es':=es2) (t':=t3) o1;exact wpAny_pure (wpAny_pure (h _ _ (sb1.trans (Heap.SameBut.update _ a _)) ⟨es2,_,t3,o2,fun e he=>hel1 e (q1.mem_iff.mp he),(q1.map _).trans hp1,q2,q3.1.trans l2,q4⟩))
   ·exact wpAny_pure (wpAny_pure (h _ _ sb1 ⟨es1,_,t2,o1,hel1,hp1,f2,l2,L2'⟩))
end
noncomputable def dI (l:List Int):List Int:=l.foldl addI []
theorem wX (ss:List Int) (x:Int):(addI ss x).length<=ss.length+1:=by
 unfold addI;split <;> simp
theorem yB {l:List Int} {i:Nat} {x:Int} (h:l[i]? = some x):dI (l.take (i+1))=addI (dI (l.take i)) x:=by
 unfold dI;rw [List.take_add_one,h,List.foldl_append];rfl
theorem mx (l:List Int):∀ ss:List Int,(l.foldl addI ss).length<=ss.length+l.length:=by
 induction l with
 | nil=>intro ss; simp
 | cons x l ih=>
  intro ss;have h1:=ih (addI ss x);have h2:=wX ss x;simp only [List.foldl_cons,List.length_cons];omega
theorem vY (l:List Int):(dI l).length<=l.length:=by
 have:=mx l [];simpa [dI] using this
theorem vR {ss:List Int} {x y:Int}:y ∈ addI ss x ↔ y ∈ ss\/y=x:=by
 unfold addI;split
 ·rename_i h;exact ⟨.inl,fun q=>q.elim id fun e=>e ▸ h⟩
 ·simp
theorem mF (l:List Int):∀ (ss:List Int) (y:Int),y ∈ l.foldl addI ss ↔ y ∈ ss\/y ∈ l:=by
 induction l with
 | nil=>intro ss y; simp
 | cons x l ih=>
  intro ss y;rw [List.foldl_cons,ih,vR,List.mem_cons];exact ⟨fun q=>q.elim (fun z=>z.elim .inl fun e=>.inr (.inl e)) fun z=>.inr (.inr z),fun q=>q.elim (fun z=>.inl (.inl z)) fun z=>z.elim (fun e=>.inl (.inr e)) .inr⟩
theorem zZ {l:List Int} {y:Int}:y ∈ dI l ↔ y ∈ l:=by
 unfold dI;rw [mF];simp
theorem rV {ss:List Int} (h:ss.Nodup) (x:Int):(addI ss x).Nodup:=by
 unfold addI;split
 ·exact h
 ·rename_i n;rw [List.nodup_append];exact ⟨h,by simp,fun a ha b hb=>by rw [List.mem_singleton.mp hb]; exact fun e=>n (e ▸ ha)⟩
theorem kq (l:List Int):∀ ss:List Int,ss.Nodup->(l.foldl addI ss).Nodup:=by
 induction l with
 | nil=>intro ss h; exact h
 | cons x l ih=>intro ss h; exact ih _ (rV h x)
theorem v3 (l:List Int):(dI l).Nodup:=kq l [] List.nodup_nil
theorem IsInts.at {w:World} {h h':Heap} {a:Addr} {led:Bool} {ss:List Int} (x:IsInts w h a led ss) (k:∀ o,h.get? a=some o->h'.get? a=some o):IsInts w h' a led ss:=by
 obtain ⟨es,ep,t,ho,r⟩:=x;exact ⟨es,ep,t,k _ ho,r⟩
section
variable {prog:Program} {w:World} {A:Around} {R:Result->Shared->Prop} {I:Addr} {fp wr:List Addr} {G:Array GenState->Array GenState->Prop} {n:Nat} {P:Nat->Value->Prop} {St:Nat->Shared->Prop}
theorem uD (W:WalksS prog w A.in1 I fp wr G n P St) (S:Addr) (hSf:S ∉ fp) (ss:List Int) (led:Bool) (hn:ss.length=n)
  (hval:∀ i v,P i v->∃ x t,ss[i]? = some x/\v=.int x t) (hb:n+1 < scanBound):
  ∀ (k i:Nat) (s:Shared),n - i=k->i<=n->St i s->IsInts w s.heap S led (dI (ss.take i)) ->
   (∀ s',Moved (S::wr) G s s'->IsInts w s'.heap S led (dI ss)->R (.ok (.ret .none)) s') ->
   codeAny (model prog w) A (.builtin "set.update.loop" ⟨[.ref S,.ref I],[]⟩) R s:=by
 have hSw:S ∉ wr:=fun h=>hSf (W.sub _ h)
 have up:∀ b ∈ wr,b ∈ S::wr:=fun b hb=>List.mem_cons_of_mem _ hb
 intro k
 induction k with
 | zero=>
  intro i s hk hi hst hS hR;obtain rfl:i=n:=by omega
  refine codeAny_builtin PyProof.Rows.F.entry_set_update_loop ?_;rw [Around.under_plainId PyProof.Rows.F.plain_set_update_loop _];show wpAny _ A.in1 (pyNext (.ref I)>>=_) _ _ s;refine wpAny_bind (W.done s _ _ hst fun s' hm=>?_);rw [List.take_of_length_le (Nat.le_of_eq hn)] at hS;exact wpAny_pure (hR s' (hm.mono up) (hS.at fun o e=>hm.heap S o hSw e))
 | succ k ih=>
  intro i s hk hi hst hS hR;have hlt:i < n:=by omega
  refine codeAny_builtin PyProof.Rows.F.entry_set_update_loop ?_;rw [Around.under_plainId PyProof.Rows.F.plain_set_update_loop _];show wpAny _ A.in1 (pyNext (.ref I)>>=_) _ _ s;refine wpAny_bind (W.item i s _ _ hlt hst fun v s' hP hst' hm=>?_);obtain ⟨x,t,hx,rfl⟩:=hval i v hP;have hS':IsInts w s'.heap S led (dI (ss.take i)):=hS.at fun o e=>hm.heap S o hSw e
  show wpAny _ A.in1 (holding [Value.int x t] (setAdd S (.int x t))>>=_) _ _ s';refine wpAny_bind (wpAny_holding ?_);unfold setAdd;refine wpAny_holding (wpAny_bind (wpAny_pyHash_int ?_));have hroom:(dI (ss.take i)).length+1 < scanBound:=by
   have h1:=vY (ss.take i);rw [List.length_take] at h1;omega
  refine add_int (s:={ s' with toks:=s'.toks+1 }) hS' hroom fun h' b hsb hS2=>?_
  rw [<- yB hx] at hS2;refine wpAny_pure ⟨plainId_quiet PyProof.Rows.F.plain_set_update_loop _,ih (i+1) _ (by omega) hlt (W.frame _ s' _ _ hst' (Nat.le_succ _) fun b hb o e=>?_) hS2 fun s'' hm'' hS''=>?_⟩
  ·rw [hsb.2 b (fun h:b=S=>hSf (h ▸ hb))];exact e
  ·refine hR s'' (Moved.trans W.gtrans ((hm.mono up).then_heap (Nat.le_succ _) fun b o hb e=>?_) hm'') hS'';rw [hsb.2 b (fun h:b=S=>hb (h ▸ List.mem_cons_self))];exact e
end
section
variable {prog:Program} {w:World} {A:Around} {E:Value->Shared->Prop} {s:Shared}
theorem isInts0 {w:World} {h:Heap} {a:Addr} (ho:h.get? a=some (setObj0 w)):IsInts w h a (ledW w) []:=
 ⟨#[],0,_,ho,fun e he=>by simp at he,by simp,rfl,rfl,⟨fun a b _ hb _=>absurd hb (by simp [SetTable.fresh]),rfl⟩⟩
set_option maxHeartbeats 3200000 in
theorem rh {l:Addr} {items:Array Value} {ss:List Int} {Q:Value->Shared->Prop} (hh:A.handled=none) (hl:s.heap.IsList l items) (hn:ss.length=items.size)
  (hv:∀ (i:Nat) (v:Value),items[i]? = some v->∃ x t,ss[i]? = some x/\v=.int x t) (hb:items.size+1 < scanBound)
  (h:∀ (h':Heap) (tk:Nat),IsInts w h' s.heap.objs.size (ledW w) (dI ss)->(∀ b o,s.heap.get? b=some o->h'.get? b=some o)->Q (.ref s.heap.objs.size) { s with heap:=h',toks:=tk }):
  wpAny (model prog w) A (call (.type "set") [.ref l]) Q E s:=by
 apply nN;intro A₁ _;apply uG;have hS:(s.heap.push (setObj0 w)).get? s.heap.objs.size=some (setObj0 w):=Heap.get?_push_size _ rfl;have hT:Shared.TypeIs { s with heap:=s.heap.push (setObj0 w) } (.ref s.heap.objs.size) "set" := ⟨_,hS,rfl⟩;refine ⟨⟨_,rfl⟩,hT,fun A₂ h2=>?_⟩;apply codeAny_call_builtin PySem.F.called_set.init.plain PySem.F.entry_set_init;apply check_set_init_1 hT;obtain ⟨⟨ocls,odict,odata,oslots⟩,hol,hcl,nl,hdl⟩:=hl;change ocls=.type "list" at hcl;change odata=.seq items nl at hdl;subst hcl hdl;have hol':(s.heap.push (setObj0 w)).get? l=some { cls:=.type "list",dict:=odict,data:=.seq items nl,slots:=oslots }:=Heap.get?_push_of_some _ hol;have k1:=PySem.F.sub_list_set;have k2:=PySem.F.sub_list_frozenset;have k3:(Value.type "list" == Value.type "dict")=false:=by decide
 have hl1:(s.heap.push (setObj0 w)).IsList l items:=⟨_,hol',rfl,nl,rfl⟩;unfold Builtin.«set.__init__» noKeywords Builtin.Frozenset.updateFrom;generalize hPI:pyIter=PI
 wp_walk
 subst hPI;refine wpAny_pyIter_list hl1 ?_;apply wpAny_bind;apply wpAny_runValue;have hlS:l < s.heap.objs.size:=Heap.lt_size hol;have hsz:(s.heap.push (setObj0 w)).objs.size=s.heap.objs.size+1:=Heap.size_push ..;have hSf:s.heap.objs.size ∉ [(s.heap.push (setObj0 w)).objs.size,l]:=by
  rw [hsz];intro z;rcases List.mem_cons.mp z with z | z
  ·exact Nat.succ_ne_self _ z.symm
  ·exact Nat.ne_of_gt hlS (List.mem_singleton.mp z)
 have W:=Walks.list (prog:=prog) (w:=w) (A:=A₂.in1.in1) (by simp [h2,hh]) (s.heap.push (setObj0 w)).objs.size l (by rw [hsz]; exact Nat.ne_of_lt (Nat.lt_succ_of_lt hlS)) items;refine uD W.toS s.heap.objs.size hSf ss (ledW w) hn hv hb (items.size - 0) 0 _ (by omega) (Nat.zero_le _) ⟨⟨_,Heap.get?_push_size _ rfl,rfl,rfl⟩,hl1.push _⟩ (isInts0 (Heap.get?_push_of_some _ hS)) fun s' hm hS'=>?_
 obtain ⟨h',g',d',tk',os'⟩:=s';obtain rfl:g'=s.gens:=hm.gens;obtain rfl:d'=s.drawn:=hm.drawn;obtain rfl:os'=s.os:=hm.os;apply wpAny_pure;apply wpAny_pure;refine ⟨rfl,h h' tk' hS' fun b o e=>?_⟩;have hbs:=Heap.lt_size e;apply hm.heap b o
 ·intro z;rcases List.mem_cons.mp z with z | z
  ·exact Nat.ne_of_lt hbs z
  ·have z:=List.mem_singleton.mp z;rw [hsz] at z;exact Nat.ne_of_lt (Nat.lt_succ_of_lt hbs) z
 ·exact Heap.get?_push_of_some _ (Heap.get?_push_of_some _ e)
section
variable {it a:Addr} {es:Array (Int × Value)} {n ep i:Nat} {t:SetTable}
theorem iM {slot:Nat} {Q:Option (Value × Nat)->Shared->Prop} (hb:w.params.followText "set-order" = false) (ha:s.heap.get? a=some (setObj es ep t)) (hf:t.fits es.size=true) (hl:t.led=true) (h1:(!t.plain && decide (es.size > 1))=false)
  (h:Q (match es[SetTable.below t.place slot]?,t.place[SetTable.below t.place slot]? with | some (_,x),some j=>some (x,j+1) | _,_=>none) s):wpAny (model prog w) A (setNext a slot i ep) Q E s:=by
 unfold setNext;refine wpAny_bind (wpAny_setState_of ha rfl hf ?_);dsimp only;refine wpAny_bind (lR ?_);rw [hb];show wpAny _ _ (if (!t.plain && decide (es.size > 1))=true then _ else _) _ _ _;rw [h1];have d2:(!t.led && !es.isEmpty)=false:=by rw [hl]; rfl
 show wpAny _ _ ((if (!t.led && !es.isEmpty)=true then _ else pure ())>>=_) _ _ _;rw [d2];exact wpAny_bind (wpAny_pure (wpAny_pure h))
theorem pF (hh:A.handled=none) (hne:a≠it) (hb:w.params.followText "set-order" = false) (hf:t.fits es.size=true) (hz:es.size=n) (hl:t.led=true) (h1:(!t.plain && decide (es.size > 1))=false) (hL:Laid0 t):
  Walks prog w A it [it,a] [it] n (fun i v=>(es[i]?).map (·.2)=some v) (fun i h=>(∃ sl,h.get? it=some (itObj (.int (sl:Nat) 0) i a n ep)/\SetTable.below t.place sl=i)/\h.get? a=some (setObj es ep t)) where
 sub:=fun b hb=>by simp at hb; simp [hb]
 frame:=fun _ _ _ ⟨⟨sl,st,r⟩,st2⟩ k=>⟨⟨sl,k it (by simp) _ st,r⟩,k a (by simp) _ st2⟩
 item:=fun i s Q E hi ⟨⟨sl,st,r⟩,st2⟩ hQ=>by
  have hp:i < t.place.size:=by rw [vw hf]; omega
  have hi':i < es.size:=by omega
  have e1:es[i]? = some es[i]:=Array.getElem?_eq_getElem hi';have e2:t.place[i]? = some t.place[i]:=Array.getElem?_eq_getElem hp;refine iP (slot:=sl) (nx:=t.place[i]+1) (x:=es[i].2) st st2 hf hz (fun E' Q' q=>iM hb st2 hf hl h1 ?_) fun h' g sb=>?_
  ·rw [r,e1,e2];exact q
  ·exact hQ _ h' s.toks (by rw [e1]; rfl) ⟨⟨_,g,xj hL.1 hp⟩,sb.extBut _ _ hne st2⟩ fun b o hb e=>sb.extBut b o (fun z=>hb (by simp [z])) e
 done:=fun s Q E ⟨⟨sl,st,r⟩,st2⟩ hQ=>by
  refine jL (slot:=sl) hh st st2 hf hz (fun E' Q' q=>iM hb st2 hf hl h1 ?_) fun h' k=>hQ h' s.toks fun b o hb e=>k b o (fun z=>hb (by simp [z])) e
  rw [r,Array.getElem?_eq_none (by omega)];exact q
 self:=fun i s Q E ⟨⟨sl,st,_⟩,_⟩ hQ=>jt ⟨_,st,rfl⟩ hQ
end
structure WalkedI (prog:Program) (w:World) (A:Around) (h:Heap) (a:Addr) (ss:List Int) (it:Addr) (h':Heap):Prop where
 old:∀ b o,h.get? b=some o->h'.get? b=some o
 new:h.objs.size<=it
 walk:∃ fp St,∃ xs:List Value,Walks prog w A it fp [it] xs.length (fun i v=>xs[i]? = some v) St/\St 0 h'/\(∀ b ∈ fp,b=a\/h.objs.size<=b)/\(∀ v ∈ xs,∃ x u,v=Value.int x u)/\(xs.map intOf).Perm ss
theorem uB {a:Addr} {ss:List Int} {Q:Value->Shared->Prop} (hh:A.handled=none) (hS:IsInts w s.heap a (ledW w) ss) (hb:ss.length<=100000)
  (h:∀ it h' d,WalkedI prog w A s.heap a ss it h'->Q (.ref it) { s with heap:=h',drawn:=d }):wpAny (model prog w) A (pyIter (.ref a)) Q E s:=by
 obtain ⟨es,ep,t,ho,hel,hp,hf,hl,hpl⟩:=hS;have hT:s.TypeIs (.ref a) "set" := ⟨_,ho,rfl⟩;have hlt:=Heap.lt_size ho;have hsz:es.size=ss.length:=by have:=hp.length_eq; simpa using this
 have hvs:∀ v ∈ es.toList.map (·.2),∃ x u,v=Value.int x u:=fun v hv=>by
  obtain ⟨e,he,rfl⟩:=List.mem_map.mp hv;obtain ⟨x,u,rfl⟩:=hel e he;exact ⟨x,u,rfl⟩
 have hps:((es.toList.map (·.2)).map intOf).Perm ss:=by rw [List.map_map]; exact hp
 have mk:∀ (xs:List Value),xs.Perm (es.toList.map (·.2))->(∀ v ∈ xs,∃ x u,v=Value.int x u)/\(xs.map intOf).Perm ss:=fun xs q=>
  ⟨fun v hv=>hvs v (q.mem_iff.mp hv),(q.map _).trans hps⟩
 refine wpAny_pyIter_slot hT PySem.F.slot_set_iter (wpAny_call_entry PySem.F.slot_set_iter hT mr ?_ (PySem.F.args_set_iter_1 _));unfold Builtin.«frozenset.__iter__» Builtin.Frozenset.slot0 slotArgs;simp only [List.isEmpty_nil,Bool.not_true,Bool.false_eq_true,↓reduceIte,bind_assoc,List.length_nil,bne_self_eq_false];unfold Builtin.Frozenset.addrOf Builtin.Frozenset.sizeOf;refine wpAny_bind (wpAny_pure ?_)
 try dsimp only
 refine wpAny_bind (wpAny_pure ?_);refine wpAny_bind (wpAny_bind (wpAny_setEntries_of ho rfl hf (wpAny_pure ?_)));unfold setDrawn;refine wpAny_bind (wpAny_bind (wpAny_setState_of ho rfl hf ?_));dsimp only;refine wpAny_bind (lR (wpAny_pure ?_));change wpAny _ _ (if (!w.params.followText "set-order" && (!t.plain && decide (es.size > 1)))=true then _ else _) _ _ _;have ne1:∀ (h1:Heap),s.heap.objs.size<=h1.objs.size->a≠h1.objs.size:=fun h1 q=>Nat.ne_of_lt (Nat.lt_of_lt_of_le hlt q)
 by_cases hd:(!w.params.followText "set-order" && (!t.plain && decide (es.size > 1)))=true
 ·rw [if_pos hd];refine wpAny_bind (rT es.size (List.range es.size) s _ (by simp) fun ys d hy=>?_);have hyl:ys.length=es.size:=by have:=hy.length_eq; simpa using this
  refine wpAny_bind (wpAny_newTuple ?_ (by rw [List.length_map,hyl,sizeLine_eq]; omega));refine wpAny_bind (wpAny_setEpoch_of (Heap.get?_push_of_some _ ho) rfl hf ?_);refine wpAny_bind (wpAny_newObj_type (wpAny_pure ⟨_,rfl, "set_iterator",_,⟨_,Heap.get?_push_size _ rfl,rfl⟩,bI.lookup,?_⟩));have hq:(atPlaces es ys).Perm (es.toList.map (·.2)):=by
   rw [<- rK];exact hy.map _
  have hlen:es.size=(atPlaces es ys).length:=by unfold atPlaces; rw [List.length_map,hyl]
  have e1:(s.heap.push (seqObj "tuple" (ys.map fun (k:Nat)=>rawInt k).toArray 0)).objs.size=s.heap.objs.size+1:=size_push' ..;refine h _ _ d ⟨fun b o e=>Heap.get?_push_of_some _ (Heap.get?_push_of_some _ e),Nat.le_trans (Nat.le_succ _) (Nat.le_of_eq e1.symm),_,_,_,
   Walks.cast (rB (A:=A) (a:=a) (T:=s.heap.objs.size) (ep:=ep) hh (ne1 _ (Nat.le_trans (Nat.le_succ _) (Nat.le_of_eq e1.symm))) ?_ hf rfl hy) hlen fun _ _=>Iff.rfl,?_,?_,(mk _ hq).1,(mk _ hq).2⟩
  ·exact Nat.ne_of_lt (Nat.lt_of_lt_of_le (Nat.lt_succ_self _) (Nat.le_of_eq e1.symm))
  ·exact ⟨Heap.get?_push_size _ rfl,Heap.get?_push_of_some _ (Heap.get?_push_of_some _ ho),Heap.get?_push_of_some _ (Heap.get?_push_size _ rfl)⟩
  ·intro b hb;simp only [List.mem_cons,List.not_mem_nil,or_false] at hb;rcases hb with rfl | rfl | rfl
   ·exact .inr (Nat.le_trans (Nat.le_succ _) (Nat.le_of_eq e1.symm))
   ·exact .inl rfl
   ·exact .inr (Nat.le_refl _)
 ·rw [if_neg hd];refine wpAny_bind (wpAny_pure ?_);refine wpAny_bind (wpAny_setEpoch_of ho rfl hf ?_);refine wpAny_bind (wpAny_newObj_type (wpAny_pure ⟨_,rfl, "set_iterator",_,⟨_,Heap.get?_push_size _ rfl,rfl⟩,bI.lookup,?_⟩));have fpo:∀ b ∈ [s.heap.objs.size,a],b=a\/s.heap.objs.size<=b:=fun b hb=>by
   simp only [List.mem_cons,List.not_mem_nil,or_false] at hb;rcases hb with rfl | rfl
   ·exact .inr (Nat.le_refl _)
   ·exact .inl rfl
  refine h _ _ s.drawn ⟨fun b o e=>Heap.get?_push_of_some _ e,Nat.le_refl _,?_⟩;cases hbt:w.params.followText "set-order" with
  | true=>
   have hq:((pickOrder (w.params.setOrder a ep) es).toList.map (·.2)).Perm (es.toList.map (·.2)):=(km (w.params.setOrder a ep) es).map _;refine ⟨_,_,_,Walks.cast (rX (A:=A) (a:=a) (ep:=ep) (t:=t) hh (ne1 _ (Nat.le_refl _)) hbt hf rfl) (by have:=hq.length_eq; simpa using this.symm) (fun i v=>?_),⟨Heap.get?_push_size _ rfl,Heap.get?_push_of_some _ ho⟩,fpo,(mk _ hq).1,(mk _ hq).2⟩;rw [List.getElem?_map,Array.getElem?_toList]
  | false=>
   have h1:(!t.plain && decide (es.size > 1))=false:=by
    rw [hbt] at hd;simpa using hd
   have hq:=List.Perm.refl (es.toList.map (·.2));refine ⟨_,_,_,Walks.cast (pF (A:=A) (a:=a) (ep:=ep) (t:=t) hh (ne1 _ (Nat.le_refl _)) hbt hf rfl (by rw [hl]; unfold ledW; rw [hbt]; rfl) h1 hpl) (by simp) (fun i v=>?_),⟨⟨0,Heap.get?_push_size _ rfl,tz hpl.1⟩,Heap.get?_push_of_some _ ho⟩,fpo,(mk _ hq).1,(mk _ hq).2⟩;rw [List.getElem?_map,Array.getElem?_toList]
theorem p9 {a:Addr} {ss:List Int} {R:List Value->Shared->Prop} (hh:A.handled=none) (hS:IsInts w s.heap a (ledW w) ss) (hb:ss.length<=100000)
  (h:∀ (h':Heap) (tk:Nat) (d:Drawn) (vs:List Value),s.heap.objs.size < h'.objs.size->(∀ b o,s.heap.get? b=some o->h'.get? b=some o)->(∀ v ∈ vs,∃ x u,v=Value.int x u)->(vs.map intOf).Perm ss->R vs { s with heap:=h',toks:=tk,drawn:=d }):
  wpAny (model prog w) A (collect (.ref a)) R E s:=by
 unfold collect;refine wpAny_bind (wpAny_runValue (codeAny_builtin entry_proto_collect' ?_));rw [Around.under_plainId PySem.F.plain_proto_collect _];show wpAny _ A.in1 (newList []>>=fun l=>again (.builtin "list.__iadd__" ⟨[l,.ref a],[]⟩)) _ _ s;refine wpAny_bind (wpAny_newObj_type ?_);refine wpAny_pure ⟨plainId_quiet PySem.F.plain_list_iadd _,codeAny_builtin entry_list_iadd' ?_⟩;rw [Around.under_plainId PySem.F.plain_list_iadd _];generalize hL:s.heap.objs.size=S;have hS1:(s.heap.push { cls:=.type "list",data:=.seq ([]:List Value).toArray }).get? S=some { cls:=.type "list",data:=.seq #[] }:=hL ▸ Heap.get?_push_size _ rfl;have hkeep:∀ b o,s.heap.get? b=some o->(s.heap.push { cls:=.type "list",data:=.seq ([]:List Value).toArray }).get? b=some o:=fun b o e=>Heap.get?_push_of_some _ e
 have haS:a < S:=by obtain ⟨es,ep,t,ho,_⟩:=hS; rw [<- hL]; exact Heap.lt_size ho
 have hz1:(s.heap.push { cls:=.type "list",data:=.seq ([]:List Value).toArray }).objs.size=S+1:=by rw [size_push',hL]
 have hS':IsInts w (s.heap.push { cls:=.type "list",data:=.seq ([]:List Value).toArray }) a (ledW w) ss:=hS.at fun o e=>hkeep _ _ e
 generalize hg:s.heap.push { cls:=.type "list",data:=.seq ([]:List Value).toArray }=g at hS1 hkeep hz1 hS';have hT:Shared.TypeIs { s with heap:=g } (.ref a) "set" := by obtain ⟨es,ep,t,ho,_⟩:=hS'; exact ⟨_,ho,rfl⟩
 show wpAny _ A.in1 (Builtin.List.listExtendWith (.ref S) (.ref a) (.ref S)) _ _ { s with heap:=g };unfold Builtin.List.listExtendWith;refine wpAny_bind (wpAny_typeOf (T := "set") hT ?_);have h1:Builtin.List.listSameRef (.ref S) (.ref a)=false:=by simp [Builtin.List.listSameRef,Nat.ne_of_gt haS]
 have h2:(Value.type "set" == Value.type "list")=false:=by decide
 have h3:(Value.type "set" == Value.type "tuple")=false:=by decide
 simp only [h1,h2,h3,Bool.or_false,Bool.false_eq_true,if_false];refine wpAny_bind (uB (A:=A.in1) (s:={ s with heap:=g }) hh hS' hb fun it g' d W=>?_);obtain ⟨old,new,fp,St,xs,Wk,st,hfp,hxs,hpx⟩:=W;have hxl:xs.length=ss.length:=by have:=hpx.length_eq; simpa using this
 have hS2:=old _ _ hS1;have hSf:S ∉ fp:=fun z=>by
  rcases hfp S z with q | q
  ·exact Nat.lt_irrefl _ (q ▸ haS)
  ·rw [show ({ s with heap:=g }:Shared).heap.objs.size=S+1 from hz1] at q;exact absurd q (Nat.not_le.mpr (Nat.lt_succ_self _))
 have itS:it≠S:=fun z=>by
  subst z;rw [show ({ s with heap:=g }:Shared).heap.objs.size=it+1 from hz1] at new;exact absurd new (Nat.not_le.mpr (Nat.lt_succ_self _))
 have key:∀ (h:Heap) (c₁ tk:Nat),St 0 h->(∀ b o,b≠S->g'.get? b=some o->h.get? b=some o)->h.get? S=some { cls:=.type "list",data:=.seq #[] c₁ } ->
   codeAny (model prog w) A (.builtin "list.extend.loop" ⟨[.ref S,.ref it,.ref S],[]⟩) (fun r s'=>∃ vs c' k1 k2,r=.ok (.ret (.ref S))/\s'={ s with heap:=k1,toks:=k2,drawn:=d }/\k1.get? S=some { cls:=.type "list",dict:=none,data:=.seq vs c',slots:=#[] }/\vs.toList=xs /\
    (∀ b o,s.heap.get? b=some o->k1.get? b=some o)) { s with heap:=h,toks:=tk,drawn:=d }:=by
  intro h c₁ tk hst hk hl;refine codeAny_extend_loopS (Wk.toS) (by rw [hxl,sizeLine_eq]; omega) S hSf (.ref S) xs.length 0 _ #[] c₁ rfl (Nat.zero_le _) hst hl (ItemsOf.nil _) fun s' acc c' hm hl' hacc=>?_
  obtain ⟨k1,gg,dd',k2,oo⟩:=s';obtain rfl:gg=s.gens:=hm.gens;obtain rfl:dd'=d:=hm.drawn;obtain rfl:oo=s.os:=hm.os;refine ⟨acc,c',k1,k2,rfl,rfl,hl',?_,fun b o e=>hm.heap b o (fun z=>?_) (hk b o (fun z=>?_) (old b o (hkeep b o e)))⟩
  ·apply List.ext_getElem?;intro j;by_cases hj:j < xs.length
   ·have hj':j < acc.size:=by rw [hacc.1]; exact hj
    have:=hacc.2 j _ (Array.getElem?_eq_getElem hj');rw [this,Array.getElem?_toList,Array.getElem?_eq_getElem hj']
   ·rw [List.getElem?_eq_none (by rw [Array.length_toList,hacc.1]; omega),List.getElem?_eq_none (by omega)]
  ·have hbs:=Heap.lt_size e;rw [hL] at hbs;rcases List.mem_cons.mp z with q | q
   ·exact Nat.lt_irrefl _ (q ▸ hbs)
   ·rw [List.mem_singleton.mp q] at hbs;rw [show ({ s with heap:=g }:Shared).heap.objs.size=S+1 from hz1] at new;exact absurd (Nat.lt_of_le_of_lt new hbs) (Nat.not_lt.mpr (Nat.le_succ _))
  ·have hbs:=Heap.lt_size e;rw [hL] at hbs;exact Nat.lt_irrefl _ (z ▸ hbs)
 have hT2:Shared.TypeIs { s with heap:=g',drawn:=d } (.ref a) "set" := by obtain ⟨es,ep,t,ho,_⟩:=hS'; exact ⟨_,old _ _ ho,rfl⟩
 refine wpAny_bind (wpAny_holding (wH hT2 ?_));have last:∀ (r:Result) (s':Shared),(∃ vs c' k1 k2,r=.ok (.ret (.ref S))/\s'={ s with heap:=k1,toks:=k2,drawn:=d }/\k1.get? S=some { cls:=.type "list",dict:=none,data:=.seq vs c',slots:=#[] }/\vs.toList=xs /\
    (∀ b o,s.heap.get? b=some o->k1.get? b=some o))->∃ vs c' k1 k2,r=.ok (.ret (.ref S))/\s'={ s with heap:=k1,toks:=k2,drawn:=d }/\k1.get? S=some { cls:=.type "list",dict:=none,data:=.seq vs c',slots:=#[] }/\R vs.toList s':=by
  rintro r s' ⟨vs,c',k1,k2,rfl,rfl,hl,hv,hk⟩;exact ⟨vs,c',k1,k2,rfl,rfl,hl,h k1 k2 d vs.toList (hL ▸ Heap.lt_size hl) hk (hv ▸ hxs) (hv ▸ hpx)⟩
 refine wpAny_ite_split (fun _=>?_) (fun _=>wpAny_pure ⟨plainId_quiet PySem.F.plain_extend_loop _,codeAny_mono (key g' 0 s.toks st (fun _ _ _ e=>e) hS2) fun r s' q=>?_⟩)
 ·refine wpAny_bind (wpAny_rule ?_);refine wpAny_bind ?_;show wpAny _ _ (updateSeq S (·.push .none)>>=fun _=>updateSeq S (·.pop)) _ _ _;refine wpAny_bind (wpAny_updateSeq hS2 rfl ?_);have hS3:=Heap.get?_update_self (Obj.mapSeq (·.push Value.none)) hS2 rfl;refine wpAny_updateSeq (hz:=by seq_fits) hS3 rfl ?_;have hS4:=Heap.get?_update_self (Obj.mapSeq (·.pop)) hS3 rfl;have up:∀ b o,b≠S->g'.get? b=some o->((g'.update S (Obj.mapSeq (·.push Value.none))).update S (Obj.mapSeq (·.pop))).get? b=some o:=fun b o nb e=>
   (Heap.get?_update_other _ _ (Ne.symm nb)).trans ((Heap.get?_update_other _ _ (Ne.symm nb)).trans e)
  refine wpAny_pure ⟨plainId_quiet PySem.F.plain_extend_loop _,codeAny_mono (key _ _ s.toks (Wk.frame 0 _ _ st fun b hb o e=>up b o (fun z=>hSf (z ▸ hb)) e) up hS4) fun r s' q=>?_⟩;obtain ⟨vs,c',k1,k2,rfl,rfl,hl,hr⟩:=last r s' q;exact wpAny_bind (wpAny_load hl (wpAny_pure hr))
 ·obtain ⟨vs,c',k1,k2,rfl,rfl,hl,hr⟩:=last r s' q;exact wpAny_bind (wpAny_load hl (wpAny_pure hr))
end
section
variable {prog:Program} {w:World} {A:Around} {E:Value->Shared->Prop} {s:Shared}
theorem jv:∀ {vs:List Value},(∀ v ∈ vs,∃ x u,v=Value.int x u)->IntsAre vs (vs.map intOf)
 | [],_=>.nil
 | v::vs,h=>by
  obtain ⟨x,u,rfl⟩:=h v List.mem_cons_self;exact .cons x u (jv fun v hv=>h v (List.mem_cons_of_mem _ hv))
theorem nP {a:Addr} {ss:List Int} {Q:Value->Shared->Prop} (hh:A.handled=none) (hS:IsInts w s.heap a (ledW w) ss) (hb:ss.length < 64)
  (h:∀ (D:Addr) (h':Heap) (tk:Nat) (d:Drawn) (out:List Value) (ss':List Int) (e:Nat),(∀ b o,s.heap.get? b=some o->h'.get? b=some o)->s.heap.objs.size<=D->h'.get? D=some (seqObj "list" out.toArray e) ->
   IntsAre out ss'->ss'.Perm ss->ss'.Pairwise (· <= ·)->Q (.ref D) { s with heap:=h',toks:=tk,drawn:=d }):
  wpAny (model prog w) A (call (.builtin "sorted") [.ref a]) Q E s:=by
 refine Calls.call_function_entry kind_sorted plain_sorted entry_sorted (args_sorted1 _) ?_;unfold Builtin.«sorted»;refine wpAny_bind (m:=checkCount "sorted" 1 1 _) (wpAny_pure ?_);refine wpAny_bind (p9 (A:=A.in1) hh hS (by omega) fun h1 tk d vs more old hv hp=>?_);have hl:vs.length=ss.length:=by have:=hp.length_eq; simpa using this
 refine wpAny_bind (wpAny_newList ?_ (by rw [hl,sizeLine_eq]; omega));have hD:(h1.push (seqObj "list" vs.toArray 0)).get? h1.objs.size=some (seqObj "list" vs.toArray 0):=Heap.get?_push_size _ rfl;have hSA:=jv hv;refine wpAny_bind (wpAny_holding (wpAny_call_entry slot_list_sort ⟨_,hD,rfl⟩ entry_list_sort (list_sort_tree hD hSA (by omega) fun out ns' a1 a2 a3=>⟨_,rfl,?_⟩) (args_list_sort _)));obtain ⟨e,he⟩:=sortedHeap_at (out:=out) hD;refine wpAny_pure ⟨_,rfl,h _ _ tk d out.toList ns' e (fun b o q=>?_) ?_ (by rw [Array.toArray_toList]; exact he) a1 (a2.trans hp) a3⟩
 ·have hb1:=Heap.lt_size (old b o q);rw [sortedHeap_old (Nat.ne_of_lt hb1) (by rw [size_push']; exact Nat.lt_succ_of_lt hb1)];exact Heap.get?_push_of_some _ (old b o q)
 ·exact Nat.le_of_lt more
end
section
variable {X:Cx}
theorem uf:∀ {vs:List Value} {ys:List Int},IntsAre vs ys->∀ (i:Nat) (v:Value),vs[i]? = some v->∃ x t,ys[i]? = some x/\v=.int x t
 | _,_,.nil,i,v,h=>by simp at h
 | _,_,.cons y t r,0,v,h=>by simp at h; exact ⟨y,t,rfl,h.symm⟩
 | _,_,.cons y t r,i+1,v,h=>by simpa using uf r i v (by simpa using h)
noncomputable def cSortInts (K:Frag) (te:TE):TE:=fun σ H Q=>te σ H fun x H1=>match x with
 | .ref p=>∃ ns:List Int,SqL K H1 p (ns.map V.int)/\ns.length < 64/\∀ (q:Addr) (ms:List Int),H1 q=none->(∀ n,n ∈ ms ↔ n ∈ ns)->ms.length<=ns.length->ms.Pairwise (· <= ·)->ms.Nodup->Q (.ref q) (upd H1 q (.lst (ms.map V.int)))
 | _=>False
theorem kx {K:Frag} (hK:X.K=K) (hc:X.calm=true) {pins:List (Addr × Obj)} {s:Shared} {σ:St} {H:Hp} {p:Addr} {ns:List Int} {Q:VK} (I:Inv X pins σ H s)
  (h:SqL K H p (ns.map V.int)) (h1:ns.length < 64) (q:∀ (q:Addr) (ms:List Int),H q=none->(∀ n,n ∈ ms ↔ n ∈ ns)->ms.length<=ns.length->ms.Pairwise (· <= ·)->ms.Nodup->Q (.ref q) (upd H q (.lst (ms.map V.int)))):
  wpAny (model X.prog X.w) X.A (call (.type "set") [.ref p]) (fun v s1=>wpAny (model X.prog X.w) X.A (call (.builtin "sorted") [v]) (EP X pins σ Q) X.xe s1) X.xe s:=by
 subst hK;obtain ⟨its,rv,pl,_⟩:=I.list h;have hss:IntsAre its ns:=m8 rv;have hlen:its.length=ns.length:=by have:=rv.length; simpa using this.symm
 have e63:scanBound=4096:=rfl;refine tokQ I.tk (rh (items:=its.toArray) (ss:=ns) (I.ok.hd hc) pl.isList (by simp [hlen]) (fun i v hv=>uf hss i v (by simpa using hv)) (by simp only [List.size_toArray,hlen,e63]; omega) fun h' tk hS old (htk:0 < tk)=>?_);have I1:Inv X pins σ H { s with heap:=h',toks:=tk }:=I.kept old;have hdl:=vY ns;refine tokQ I1.tk (nP (s:={ s with heap:=h',toks:=tk }) (I.ok.hd hc) hS (by omega) fun D h2 tk2 d out ss' e old2 hD ho hso hp hsd (htk2:0 < tk2)=>?_);have hl2:ss'.length=(dI ns).length:=hp.length_eq;have I2:=I1.laid (a:=D) (o:=.lst (ss'.map V.int)) (t':=tk2) old2 hD ⟨by rw [List.length_map,sizeLine_eq]; omega,out,e,j7 hso,ho⟩;exact ⟨.ref D,_,I2.drew d,rfl,q D ss' (I1.hok.fresh hD) (fun n=>by rw [hp.mem_iff,zZ]) (by omega) hsd (hp.nodup_iff.mpr (v3 ns))⟩
theorem qJ {K:Frag} {e:Expr} {te:TE} {p p2 pos pos2:Pos} (hK:X.K=K) (hc:X.calm=true) (hg:Gl X "sorted") (hm:X.mg "sorted" = none) (hg2:Gl X "set") (hm2:X.mg "set" = none) (he:PE X e te)
  (hs:starEach [e] X.env=[(false,eval e X.env)]:=by rfl)
  (hs2:starEach [Expr.Call (.Name "set" p2) [e] [] pos2] X.env=[(false,eval (Expr.Call (.Name "set" p2) [e] [] pos2) X.env)]:=by rfl):
  PE X (.Call (.Name "sorted" p) [.Call (.Name "set" p2) [e] [] pos2] [] pos) (cSortInts K te):=by
 intro pins s σ H Q I h;refine wpAny_Call_Name_kw (cR I hg hm n4 ?_ (by decide) (by decide));refine PyProof.Rows.callWith_builtin1 ?_ hs2 rfl;rw [hs2];show wpAny _ _ (spliced [(false,eval (Expr.Call (.Name "set" p2) [e] [] pos2) X.env)]) _ _ s;refine Calls.spliced_cons ?_;refine wpAny_Call_Name_kw (cR I hg2 hm2 zA ?_ (by decide) (by decide));refine PyProof.Rows.callWith_type1 ?_ hs rfl;rw [hs];show wpAny _ _ (spliced [(false,eval e X.env)]) _ _ s;refine Calls.spliced_cons (thn (he pins s σ H _ I h) fun u s1 ⟨x,H1,I1,r1,q1⟩=>Calls.spliced_nil ?_)
 match x,r1,q1 with
 | .ref p,rfl,⟨ls,a1,a2,a3⟩=>exact thn (kx hK hc I1 a1 a2 a3) fun v s2 q=>Calls.spliced_nil q
theorem qQ {K:Frag} {te:TE} {σ:St} {H:Hp} {Q:VK}:cSortInts K te σ H Q=te σ H fun x H1=>match x with
 | .ref p=>∃ ns:List Int,SqL K H1 p (ns.map V.int)/\ns.length < 64/\∀ (q:Addr) (ms:List Int),H1 q=none->(∀ n,n ∈ ms ↔ n ∈ ns)->ms.length<=ns.length->ms.Pairwise (· <= ·)->ms.Nodup->Q (.ref q) (upd H1 q (.lst (ms.map V.int)))
 | _=>False:=rfl
end
section
variable {prog:Program} {w:World} {A:Around} {E:Value->Shared->Prop} {s:Shared}
theorem mP {it:Addr} {Q:Value->Shared->Prop} (ty:s.TypeIs (.ref it) "tuple_iterator")
  (q:wpAny (model prog w) A.in1 (Builtin.«tuple_iterator.__next__» ⟨[.ref it],[]⟩) (fun fin s'=>∃ v,fin=.done (.ret v)/\Q v s') E s):wpAny (model prog w) A (Builtin.SmallTypes.nextOf (.ref it)) Q E s:=by
 have sl:=F.slot_tuple_iterator_next;unfold Builtin.SmallTypes.nextOf;refine wpAny_bind (wpAny_callSpecial?_slot (name:=Str.ofString "__next__") ty sl (wpAny_call_entry sl ty F.entry_tuple_iterator_next (wpAny_mono q (fun fin s' ⟨v,e,z⟩=>⟨v,e,wpAny_pure z⟩) fun _ _ z=>z) (F.args_tuple_iterator_next_1 _)))
theorem lq {it t:Addr} {i:Nat} {ys:Array Value} {x:Value} {Q:Value->Shared->Prop} (st:s.heap.IsTupleIter it t i) (tu:s.heap.IsTuple t ys) (e:ys[i]? = some x)
  (q:∀ h',h'.IsTupleIter it t (i+1)->Heap.SameBut it s.heap h'->Q x { s with heap:=h' }):wpAny (model prog w) A (Builtin.SmallTypes.nextOf (.ref it)) Q E s:=by
 apply mP st.typeIs;obtain ⟨ob,g1,g2,g3⟩:=st;obtain ⟨tb,k1,_,kn,k2⟩:=tu;change wpAny _ _ (field (.ref it) 0>>=_) _ _ _;apply wpAny_bind;apply wpAny_field g1 g3 (x:=.ref t) rfl;have nn:(Value.ref t == Value.none)=false:=rfl;simp only [nn,Bool.false_eq_true,if_false];apply wpAny_bind;apply wpAny_field g1 g3 (x:=.int i 0) rfl;apply wpAny_bind;apply wpAny_seqItems k1 k2;simp only [Int.toNat_natCast,e];apply wpAny_bind;apply wpAny_setField g1 g3 (by simp);apply wpAny_pure;refine ⟨x,rfl,q _ ⟨_,Heap.get?_update_self _ g1 (Obj.isFreed_of_fields (Obj.data_mapFields g3 _)),(Obj.cls_mapFields ..).trans g2,?_⟩ (Heap.SameBut.update ..)⟩;rw [Obj.data_mapFields g3];simp [rawInt]
theorem mm {it t:Addr} {i:Nat} {ys:Array Value} {Q:Value->Shared->Prop} (hh:A.handled=none) (st:s.heap.IsTupleIter it t i) (tu:s.heap.IsTuple t ys) (e:ys[i]? = none)
  (q:∀ h' e,Heap.ExtBut it s.heap h'->(∃ o,h'.get? e=some o/\o.cls=.type "StopIteration")->E (.ref e) { s with heap:=h' }):wpAny (model prog w) A (Builtin.SmallTypes.nextOf (.ref it)) Q E s:=by
 apply mP st.typeIs;obtain ⟨ob,g1,g2,g3⟩:=st;obtain ⟨tb,k1,_,kn,k2⟩:=tu;change wpAny _ _ (field (.ref it) 0>>=_) _ _ _;apply wpAny_bind;apply wpAny_field g1 g3 (x:=.ref t) rfl;have nn:(Value.ref t == Value.none)=false:=rfl;simp only [nn,Bool.false_eq_true,if_false];apply wpAny_bind;apply wpAny_field g1 g3 (x:=.int i 0) rfl;apply wpAny_bind;apply wpAny_seqItems k1 k2;simp only [Int.toNat_natCast,e];apply wpAny_bind;apply wpAny_rule;apply wpAny_bind;apply wpAny_setField g1 g3 (by simp);have hh1:A.in1.handled=none:=hh;exact i4 hh1 fun h2 x k c=>q h2 x (fun b o nb z=>k b o ((Heap.SameBut.update s.heap it _).extBut b o nb z)) c
end
def TGo (H:Hp) (a:Addr) (i:Nat):Prop:=∃ xs v,H a=some (.tup xs)/\xs[i]? = some v
def TAt (H:Hp) (a:Addr) (i:Nat) (v:V):Prop:=∀ xs,H a=some (.tup xs)->xs[i]? = some v
def TEnd (H:Hp) (a:Addr) (i:Nat):Prop:=∃ xs,H a=some (.tup xs)/\xs.length<=i
theorem fQ {h:Heap} {a it:Addr} {i:Nat} (st:h.IsTupleIter it a i):∃ o,h.get? it=some o/\(∀ v,o.data≠.cell v)/\o.cls≠.type "list" /\ o.cls≠.type "zip" /\ o.cls≠.type "tuple" := by
 obtain ⟨o,e,c,d⟩:=st;refine ⟨o,e,(fun v z=>by rw [d] at z; cases z),?_⟩;rw [c];decide
section
variable {X:Cx} {pins:List (Addr × Obj)} {σ:St} {H:Hp} {s:Shared} {A:Around}
theorem rQ (I:Inv X pins σ H s) {a it:Addr} {i:Nat} (st:s.heap.IsTupleIter it a i) (go:TGo H a i):
  ∃ (f:List Addr) (Sa Sb:Heap->Prop) (P:Value->Prop),Nx X.prog X.w A it f Sa Sb P/\Sa s.heap/\(∀ c ∈ f,c=it\/((∃ o,s.heap.get? c=some o/\o.cls=.type "tuple")/\H c≠none))/\(∀ h,Sb h->h.IsTupleIter it a (i+1))/\∀ v,P v->∃ x,RelV x v/\TAt H a i x:=by
 obtain ⟨xs,v,hq,hv⟩:=go;obtain ⟨its,rv,pl,hz⟩:=I.tuple (SqT.of hq);obtain ⟨u,hu,ru⟩:=rv.get hv;have pl:s.heap.IsTuple a its.toArray:=pl;obtain ⟨o,e,c,n,hd⟩:=id pl;have hne:a≠it:=by
  rintro rfl;obtain ⟨o',e',c',_⟩:=st;rw [e] at e';cases e';rw [c] at c';exact absurd c' (by decide)
 refine ⟨[it,a],fun h=>h.IsTupleIter it a i/\h.IsTuple a its.toArray,fun h=>h.IsTupleIter it a (i+1)/\h.IsTuple a its.toArray,fun z=>z=u,⟨?_,?_,?_⟩,⟨st,pl⟩,?_,fun h q=>q.1,?_⟩
 ·rintro h h' ⟨⟨o1,s1,r1⟩,⟨o2,s2,r2⟩⟩ k;exact ⟨⟨o1,k it (by simp) o1 s1,r1⟩,⟨o2,k a (by simp) o2 s2,r2⟩⟩
 ·rintro h h' ⟨⟨o1,s1,r1⟩,⟨o2,s2,r2⟩⟩ k;exact ⟨⟨o1,k it (by simp) o1 s1,r1⟩,⟨o2,k a (by simp) o2 s2,r2⟩⟩
 ·intro s Q E st hQ;exact lq st.1 st.2 (x:=u) (by simpa using hu) fun h' st' sb=>hQ _ h' s.toks rfl ⟨st',st.2.extBut sb.extBut hne⟩ sb
 ·intro c' hc;rcases (by simpa using hc:c'=it\/c'=a) with z | z
  ·exact .inl z
  ·subst z;exact .inr ⟨⟨o,e,c⟩,by rw [hq]; simp⟩
 ·rintro z rfl;exact ⟨v,ru,fun ys hy=>by rw [hq] at hy; cases hy; exact hv⟩
theorem xl (I:Inv X pins σ H s) (hh:A.handled=none) {a it:Addr} {i:Nat} (st:s.heap.IsTupleIter it a i) (en:TEnd H a i):
  ∃ (f:List Addr) (Sa:Heap->Prop),Nd X.prog X.w A it f Sa/\Sa s.heap/\(∀ c ∈ f,c=it\/((∃ o,s.heap.get? c=some o/\o.cls=.type "tuple")/\H c≠none)):=by
 obtain ⟨xs,hq,hv⟩:=en;obtain ⟨its,rv,pl,hz⟩:=I.tuple (SqT.of hq);have pl:s.heap.IsTuple a its.toArray:=pl;obtain ⟨o,e,c,n,hd⟩:=id pl;have hl:=rv.length;refine ⟨[it,a],fun h=>h.IsTupleIter it a i/\h.IsTuple a its.toArray,⟨?_,?_⟩,⟨st,pl⟩,?_⟩
 ·rintro h h' ⟨⟨o1,s1,r1⟩,⟨o2,s2,r2⟩⟩ k;exact ⟨⟨o1,k it (by simp) o1 s1,r1⟩,⟨o2,k a (by simp) o2 s2,r2⟩⟩
 ·intro s Q E st hE;exact mm hh st.1 st.2 (by simp; omega) hE
 ·intro c' hc;rcases (by simpa using hc:c'=it\/c'=a) with z | z
  ·exact .inl z
  ·subst z;exact .inr ⟨⟨o,e,c⟩,by rw [hq]; simp⟩
end
noncomputable def ItzT (a b:Addr):It:=⟨fun i H=>TGo H a i/\TGo H b i,fun i H v H'=>∃ T x y,v=.ref T/\H T=none/\H'=upd H T (.tup [x,y])/\TAt H a i x/\TAt H b i y,
 fun i H=>TEnd H a i\/(TGo H a i/\TEnd H b i)⟩
def ZipTt (z TI TO i1 i2:Addr) (S1 S2:Addr) (i:Nat) (h:Heap):Prop:=∃ a b,IsZip h z TI TO .none/\IsPair h TI (.ref i1) (.ref i2)/\IsPair h TO a b/\h.IsTupleIter i1 S1 i/\h.IsTupleIter i2 S2 i
theorem jx {H:Hp} {h:Heap} {f:List Addr} {z TI TO i1 i2:Addr} {S2:Addr} {k:Nat} (hTn:H TO=none) (hz:IsZip h z TI TO .none) (h2:h.IsTupleIter i2 S2 k) (n1:i1≠z) (n2:i1≠TO) (n3:i1≠i2)
  (m:∀ c ∈ f,c=i1\/((∃ o,h.get? c=some o/\o.cls=.type "tuple")/\H c≠none)):∀ c ∈ f,c≠z/\c≠TO/\c≠i2:=fun c hc=>by
 rcases m c hc with e | ⟨⟨o,e,c1⟩,hn⟩
 ·subst e;exact ⟨n1,n2,n3⟩
 ·refine ⟨?_,?_,?_⟩
  ·rintro rfl;rw [hz] at e;cases e;exact absurd (show Value.type "zip" = Value.type "tuple" from c1) (by decide)
  ·rintro rfl;exact hn hTn
  ·rintro rfl;obtain ⟨o',e',_,_,_,q⟩:=fQ h2;rw [e] at e';cases e';exact q c1
theorem uq {P:Program} {w:World} {K:Frag} {elts:List Expr} {kk:Nat} {pos:Pos} {z TI TO i1 i2:Addr} (D:ZAp z TI TO i1 i2) (S1 S2:Addr):
  Turn P w K (.Tuple elts kk pos) (ItzT S1 S2) [z,TI,TO,i1,i2] z (ZipTt z TI TO i1 i2 S1 S2) where
 mem:=by simp
 obj:=fun i h st b hb=>by
  obtain ⟨a,c,hz,hTI,hTO,h1,h2⟩:=st;simp only [List.mem_cons,List.not_mem_nil,or_false] at hb;rcases hb with rfl | rfl | rfl | rfl | rfl
  ·exact ⟨_,hz,fun v q=>by have q':Data.fields _=Data.cell v:=q; cases q'⟩
  ·exact ⟨_,hTI,fun v q=>by have q':Data.seq _ _=Data.cell v:=q; cases q'⟩
  ·exact ⟨_,hTO,fun v q=>by have q':Data.seq _ _=Data.cell v:=q; cases q'⟩
  ·obtain ⟨o,e,q,_⟩:=(fQ h1);exact ⟨o,e,q⟩
  ·obtain ⟨o,e,q,_⟩:=(fQ h2);exact ⟨o,e,q⟩
 keep:=fun i h h' st k=>by
  obtain ⟨a,c,hz,hTI,hTO,h1,h2⟩:=st;exact ⟨a,c,k z (by simp) _ hz,k TI (by simp) _ hTI,k TO (by simp) _ hTO,h1.at fun o e=>k i1 (by simp) o e,h2.at fun o e=>k i2 (by simp) o e⟩
 item:=by
  intro X hP hw hK hc i pins s σ H E I hf st hg;subst hP hw hK;obtain ⟨a,b,hz,hTI,hTO,h1,h2⟩:=st;have hTn:H TO=none:=(hf TO (by simp)).1;obtain ⟨g1,g2⟩:=hg;obtain ⟨f1,Sa,Sb,P1,n1,a1,m1,b1,r1⟩:=rQ (A:=X.A.in1) I h1 g1;obtain ⟨f2,Sc,Sd,P2,n2,a2,m2,b2,r2⟩:=rQ (A:=X.A.in1) I h2 g2;refine tokQ I.tk (gR hz rfl (im D n1 n2 (jx hTn hz h2 D.i1z D.TOi1.symm D.i12 m1) (jx hTn hz h1 D.i2z D.TOi2.symm D.i12.symm m2) hz hTI hTO a1 a2 fun x y h' tk p1 p2 z1 z2 q1 q2 z3 z4 kp (htk:0 < tk)=>?_));obtain ⟨vx,rx,ax⟩:=r1 x p1;obtain ⟨vy,ry,ay⟩:=r2 y p2;have fresh:H s.heap.objs.size=none:=I.hok.fresh (Nat.le_refl _);have off:∀ {c o},s.heap.get? c=some o->c≠s.heap.objs.size:=fun e=>Nat.ne_of_lt (Heap.lt_size e)
  refine ⟨_,rfl,wpAny_letOwnedTupleGo_zip z1 fun h'' z1' sb=>?_⟩
  replace sb:Heap.SameBut z h' h'':=sb
  have hT:IsPair h'' s.heap.objs.size x y:=sb.extBut _ _ (Ne.symm (off hz)) z3;have I1:Inv X pins σ (upd H s.heap.objs.size (.tup [vx,vy])) { s with heap:=h'',toks:=tk }:=by
   refine I.turnedLaid (its:=[z,TO,i1,i2]) (fun c o hc' e=>?_) (fun c hc'=>hf c ?_) (Nat.le_refl _) ?_
   ·simp only [List.mem_cons,List.not_mem_nil,or_false,not_or] at hc';exact sb.extBut _ _ hc'.1 (kp c o hc'.1 hc'.2.1 hc'.2.2.1 hc'.2.2.2 e)
   ·simp only [List.mem_cons,List.not_mem_nil,or_false] at hc' ⊢;rcases hc' with q | q | q | q
    ·exact .inl q
    ·exact .inr (.inr (.inl q))
    ·exact .inr (.inr (.inr (.inl q)))
    ·exact .inr (.inr (.inr (.inr q)))
   ·exact ⟨by show 2<=sizeLine; decide,[x,y],.cons rx (.cons ry .nil),_,hT,rfl,_,rfl⟩
  refine ⟨.ref s.heap.objs.size,_,I1,rfl,⟨_,vx,vy,rfl,fresh,rfl,ax,ay⟩,⟨x,y,z1',?_,?_,?_,?_⟩,fun c hc'=>?_⟩
  ·exact sb.extBut _ _ D.TIz (kp _ _ D.TIz D.TITO D.TIi1 D.TIi2 hTI)
  ·exact sb.extBut _ _ D.TOz z2
  ·exact (b1 h' q1).at fun o e=>sb.extBut _ _ D.i1z e
  ·exact (b2 h' q2).at fun o e=>sb.extBut _ _ D.i2z e
  ·have ne:c≠s.heap.objs.size:=by
    simp only [List.mem_cons,List.not_mem_nil,or_false] at hc';rcases hc' with rfl | rfl | rfl | rfl | rfl
    ·exact off hz
    ·exact off hTI
    ·exact off hTO
    ·obtain ⟨o,e,_⟩:=(fQ h1);exact off e
    ·obtain ⟨o,e,_⟩:=(fQ h2);exact off e
   rw [ao ne];exact (hf c hc').1
 done:=by
  intro X hP hw hK hc i pins s σ H E I hf st hg;subst hP hw hK;obtain ⟨a,b,hz,hTI,hTO,h1,h2⟩:=st;have hTn:H TO=none:=(hf TO (by simp)).1;have hh:X.A.in1.handled=none:=I.ok.hd hc;have fin:∀ (h':Heap) (tk:Nat),0 < tk->(∀ c o,c≠z->c≠TO->c≠i1->c≠i2->s.heap.get? c=some o->h'.get? c=some o)->Inv X pins σ H { s with heap:=h',toks:=tk }:=fun h' tk htk kp=>
   I.turnedL (its:=[z,TO,i1,i2]) (fun c o hc' e=>by
    simp only [List.mem_cons,List.not_mem_nil,or_false,not_or] at hc';exact kp c o hc'.1 hc'.2.1 hc'.2.2.1 hc'.2.2.2 e) (fun c hc'=>hf c (by
    simp only [List.mem_cons,List.not_mem_nil,or_false] at hc' ⊢;rcases hc' with q | q | q | q
    ·exact .inl q
    ·exact .inr (.inr (.inl q))
    ·exact .inr (.inr (.inr (.inl q)))
    ·exact .inr (.inr (.inr (.inr q)))))
  rcases hg with e1 | ⟨g1,e2⟩
  ·obtain ⟨f1,Sa,n1,a1,m1⟩:=xl I hh h1 e1;exact tokQ I.tk (cG hz rfl (iU D n1 (jx hTn hz h2 D.i1z D.TOi1.symm D.i12 m1) hz hTI a1 fun h' e tk kp he=>⟨e,rfl,he,fun htk=>⟨rfl,fin h' tk htk kp⟩⟩))
  ·obtain ⟨f1,Sa,Sb,P1,n1,a1,m1,b1,r1⟩:=rQ (A:=X.A.in1) I h1 g1;obtain ⟨f2,Sc,n2,a2,m2⟩:=xl I hh h2 e2;exact tokQ I.tk (cG hz rfl (iS D n1 n2 (jx hTn hz h2 D.i1z D.TOi1.symm D.i12 m1) (jx hTn hz h1 D.i2z D.TOi2.symm D.i12.symm m2) hz hTI hTO a1 a2 fun h' e tk kp he=>⟨e,rfl,he,fun htk=>⟨rfl,fin h' tk htk kp⟩⟩))
 self:=fun _ _ _ _ _ st h=>by
  obtain ⟨a,b,hz,_⟩:=st;exact wpAny_pyIter_zip hz h
noncomputable abbrev tupIt0 (a:Addr):Obj:={ cls:=.type "tuple_iterator",data:=.fields #[.ref a,.int 0 0] }
noncomputable abbrev yH1 (h:Heap) (a:Addr):Heap:=h.push (tupIt0 a)
noncomputable abbrev yH2 (h:Heap) (a b:Addr):Heap:=(yH1 h a).push (tupIt0 b)
noncomputable abbrev yH3 (h:Heap) (a b:Addr):Heap:=(yH2 h a b).push { cls:=.type "tuple",data:=.seq #[.ref h.objs.size,.ref (yH1 h a).objs.size] }
noncomputable abbrev yH4 (h:Heap) (a b:Addr):Heap:=(yH3 h a b).push { cls:=.type "tuple",data:=.seq #[.none,.none] }
noncomputable abbrev yH5 (h:Heap) (a b:Addr):Heap:=(yH4 h a b).push { cls:=.type "zip",data:=.fields #[.none,.bool false,.bool false,.ref (yH2 h a b).objs.size,.ref (yH3 h a b).objs.size] }
theorem lZ (a b:Addr):
  Meets (Builtin.«zip.__new__» ⟨[.type "zip",.ref a,.ref b],[]⟩) (fun _ R s=>(∃ x,s.heap.IsTuple a x)/\(∃ x,s.heap.IsTuple b x) /\
   R (.ok (.ret (.ref (yH4 s.heap a b).objs.size))) { s with heap:=yH5 s.heap a b }):=
 .of_wp fun prog w A R s h=>by
  obtain ⟨hp,g,d,tk,os⟩:=s; obtain ⟨⟨x1,hl1⟩,⟨x2,hl2⟩,h⟩:=h;have hsub:=sub_zip;have hL1:Heap.IsTuple (Shared.heap ⟨hp,g,d,tk,os⟩) a x1:=hl1;have hL2:Heap.IsTuple (Shared.heap ⟨hp.push (tupIt0 a),g,d,tk,os⟩) b x2:=hl2.push _
  wp_walk using wpAny_pyIter_tuple hL1,wpAny_pyIter_tuple hL2
  exact ⟨_,rfl,h⟩
section
variable {prog:Program} {w:World} {A:Around} {E:Value->Shared->Prop} {s:Shared}
theorem uS {a b:Addr} {Q:Value->Shared->Prop} (hl1:∃ x,s.heap.IsTuple a x) (hl2:∃ x,s.heap.IsTuple b x)
  (h:∀ h',ZipTt (s.heap.objs.size+4) (s.heap.objs.size+2) (s.heap.objs.size+3) s.heap.objs.size (s.heap.objs.size+1) a b 0 h'->(∀ c o,s.heap.get? c=some o->h'.get? c=some o)->Q (.ref (s.heap.objs.size+4)) { s with heap:=h' }):
  wpAny (model prog w) A (call (.type "zip") [.ref a,.ref b]) Q E s:=by
 refine callType_new F.called_zip (by decide) (F.typeCall_zip_2 _ _) (F.newCall_zip_2 _ _) (fun obj=>F.args_object_init_3 obj _ _) F.entry_zip_new
  (lZ a b) ⟨hl1,hl2,?_⟩
 have z1:(yH1 s.heap a).objs.size=s.heap.objs.size+1:=Heap.size_push ..;have z2:(yH2 s.heap a b).objs.size=s.heap.objs.size+2:=by rw [Heap.size_push,z1]
 have z3:(yH3 s.heap a b).objs.size=s.heap.objs.size+3:=by rw [Heap.size_push,z2]
 have z4:(yH4 s.heap a b).objs.size=s.heap.objs.size+4:=by rw [Heap.size_push,z3]
 have g5:(yH5 s.heap a b).get? (yH4 s.heap a b).objs.size=some _:=Heap.get?_push_size _ rfl;have g4:(yH5 s.heap a b).get? (yH3 s.heap a b).objs.size=some _:=Heap.get?_push_of_some _ (Heap.get?_push_size _ rfl);have g3:(yH5 s.heap a b).get? (yH2 s.heap a b).objs.size=some _:=Heap.get?_push_of_some _ (Heap.get?_push_of_some _ (Heap.get?_push_size _ rfl));have g2:(yH5 s.heap a b).get? (yH1 s.heap a).objs.size=some (tupIt0 b):=Heap.get?_push_of_some _ (Heap.get?_push_of_some _ (Heap.get?_push_of_some _ (Heap.get?_push_size _ rfl)));have g1:(yH5 s.heap a b).get? s.heap.objs.size=some (tupIt0 a):=Heap.get?_push_of_some _ (Heap.get?_push_of_some _ (Heap.get?_push_of_some _ (Heap.get?_push_of_some _ (Heap.get?_push_size _ rfl))));show _/\_;rw [z2,z3,z4] at g5;rw [z1,z2] at g3;rw [z3] at g4;rw [z1] at g2;rw [z4];exact ⟨⟨_,g5,rfl⟩,h _ ⟨_,_,g5,g3,g4,⟨_,g1,rfl,rfl⟩,⟨_,g2,rfl,rfl⟩⟩ fun c o x=>
  Heap.get?_push_of_some _ (Heap.get?_push_of_some _ (Heap.get?_push_of_some _ (Heap.get?_push_of_some _ (Heap.get?_push_of_some _ x))))⟩
end
section
variable {X:Cx}
noncomputable def cZipA (K:Frag) (ta tb:TE):TI:=fun σ H R=>ta σ H fun x H1=>tb σ H1 fun y H2=>(srcK K H2 x fun S1=>srcK K H2 y fun S2=>R (Itz K S1 S2) H2)\/∃ a b,x=.ref a/\y=.ref b/\(∃ xs,H2 a=some (.tup xs))/\(∃ xs,H2 b=some (.tup xs))/\R (ItzT a b) H2
theorem yx {a b:Expr} {ta tb:TE} {elts:List Expr} {kk:Nat} {tpos p pos:Pos} {K:Frag} (hK:X.K=K) (hg:Gl X "zip") (hm:X.mg "zip" = none) (ha:PE X a ta) (hb:PE X b tb) (hs:starEach [a,b] X.env=[(false,eval a X.env),(false,eval b X.env)]:=by rfl) (hs2:starEach [b] X.env=[(false,eval b X.env)]:=by rfl):
  PI X (.Tuple elts kk tpos) (.Call (.Name "zip" p) [a,b] [] pos) (cZipA K ta tb):=by
 subst hK;intro pins s σ H R I h;have hA:PA X [a,b] _:=aa ha.mono (aa hb.mono ab hs2) (by rw [hs,hs2]);refine Call_ (cR I hg hm qZ (PyProof.Rows.callWith_type1 (thn (hA pos pins s σ H (fun vs H2=>∃ x y,vs=[x,y]/\((srcK X.K H2 x fun S1=>srcK X.K H2 y fun S2=>R (Itz X.K S1 S2) H2)\/∃ a b,x=.ref a/\y=.ref b/\(∃ xs,H2 a=some (.tup xs))/\(∃ xs,H2 b=some (.tup xs))/\R (ItzT a b) H2)) I ⟨_,h,fun x H1 z=>⟨_,z,fun y H2 z=>⟨x,y,rfl,z⟩⟩⟩) fun us s1 ⟨vs,H1,I1,r1,q1⟩=>?_) (by rw [hs,hs2]) (by rw [hs2]; rfl)));obtain ⟨v1,v2,e,q⟩:=q1;subst e;cases r1 with
 | cons r rr=>
  cases rr with
  | cons r' rr=>
   cases rr;have fp:∀ c ∈ [s1.heap.objs.size+4,s1.heap.objs.size+2,s1.heap.objs.size+3,s1.heap.objs.size,s1.heap.objs.size+1],FpOk X pins H1 c:=fun c hc=>by
    have hc':s1.heap.objs.size<=c:=by
     simp only [List.mem_cons,List.not_mem_nil,or_false] at hc;rcases hc with rfl | rfl | rfl | rfl | rfl <;> omega
    exact I1.fpOk hc' (I1.hok.fresh hc')
   rcases q with q | ⟨a1,b1,rfl,rfl,⟨xs,e1⟩,⟨ys,e2⟩,q⟩
   ·obtain ⟨S1,o1,q⟩:=lK q;obtain ⟨S2,o2,q⟩:=lK q;obtain ⟨t1,rfl,k1⟩:=iF I1 o1 r;obtain ⟨t2,rfl,k2⟩:=iF I1 o2 r';refine oP k1 k2 fun h' st kp=>?_
    have st':=st;obtain ⟨_,_,hz,_⟩:=st';exact wpAny_pyIter_zip hz ⟨_,_,_,Itz X.K S1 S2,H1,rfl,I1.kept (t':=s1.toks) kp,qW (qa _) S1 S2,st,fp,q⟩
   ·cases r;cases r';obtain ⟨_,_,p1,_⟩:=I1.tuple (SqT.of e1);obtain ⟨_,_,p2,_⟩:=I1.tuple (SqT.of e2);refine uS ⟨_,p1⟩ ⟨_,p2⟩ fun h' st kp=>?_
    have st':=st;obtain ⟨_,_,hz,_⟩:=st';exact wpAny_pyIter_zip hz ⟨_,_,_,ItzT a1 b1,H1,rfl,I1.kept (t':=s1.toks) kp,uq (qa _) a1 b1,st,fp,q⟩
theorem xV {K:Frag} {ta tb:TE} {σ:St} {H:Hp} {R:It->Hp->Prop}:cZipA K ta tb σ H R=ta σ H fun x H1=>tb σ H1 fun y H2=>(srcK K H2 x fun S1=>srcK K H2 y fun S2=>R (Itz K S1 S2) H2)\/∃ a b,x=.ref a/\y=.ref b/\(∃ xs,H2 a=some (.tup xs))/\(∃ xs,H2 b=some (.tup xs))/\R (ItzT a b) H2:=rfl
end
theorem vN:bootBuiltins "all" = some (.builtin "all"):=by decide +kernel
section
variable {K:Frag} {J:It} {g:TG} {tc:TT} {te:TE} {σc:St} {D:Addr} {Q:VK} {H:Hp}
theorem oQ {α:Type} (xs:List α) (R:α -> V->Hp->Prop) (hfree:H D=none) (hn:xs.length<=100000) (hgo:∀ i H1,i < xs.length->Same H H1->J.go i H1) (hst:∀ H1,Same H H1->J.stop xs.length H1)
  (hy:∀ i H1 v H2,i < xs.length->J.yld i H1 v H2->Same H1 H2)
  (mono:∀ x v H1 H2 acc,H1 D=some (.lst acc)->(∀ b o,b≠D->H1 b=some o->H2 b=some o)->R x v H1->R x v H2)
  (hs:∀ i x v H1 H2 (out:VK) (non:Hp->Prop),xs[i]? = some x->Same H H1->(∀ b,H1 b=none->b≠D)->J.yld i H1 v H2->(∀ v H6,Same H2 H6->R x v H6->out v H6) ->
   g v σc H2 fun σ4 H4=>tc σ4 H4 fun b H5=>if b=true then te σ4 H5 out else non H5)
  (hq:∀ H' vs,Same H H'->H' D=some (.lst vs)->Paired (fun x v=>R x v H') xs vs->Q (.ref D) H'):compW J g tc te σc D Q H:=by
 refine ⟨fun i m acc H2=>m=xs.length - i/\i<=xs.length/\Paired (fun x v=>R x v H2) (xs.take i) acc/\Same H H2/\H2 D=some (.lst acc),⟨xs.length,by simp,Nat.zero_le _,.nil,ae hfree _,upd_same⟩,?_⟩;rintro i m acc H2 ⟨rfl,hi,pr,sm,hD⟩;have len:acc.length<=i:=by
  have a:=pr.length;rw [List.length_take] at a;omega
 by_cases hlt:i < xs.length
 ·refine .inr ⟨hgo i H2 hlt sm,fun x H3 y=>?_⟩;have s3:=hy i H2 x H3 hlt y;have hD3:=s3 _ _ hD;refine hs i xs[i] x _ _ _ _ (List.getElem?_eq_getElem hlt) sm (fun b hb z=>by rw [z,hD] at hb; cases hb) y fun v H6 s6 r=>?_
  refine ⟨s6 _ _ hD3,Nat.lt_of_le_of_lt len (sizeBig (by omega)),xs.length - (i+1),by omega,rfl,hlt,?_,aH (sm.trans (s3.trans s6)) hfree,upd_same⟩;rw [List.take_add_one,List.getElem?_eq_getElem hlt];have lift:∀ {l:List α} {vs:List V} {z:α} {u:V} {F G:α -> V->Prop},(∀ a b,F a b->G a b)->Paired F l vs->G z u->Paired G (l++[z]) (vs++[u]):=by
   intro l vs z u F G f pp r
   induction pp with
   | nil=>exact .cons r .nil
   | cons r' _ ih=>exact .cons (f _ _ r') ih
  exact lift (fun _ _ r'=>mono _ _ H2 _ acc hD (fun b o nb q=>by rw [ao nb]; exact s6 _ _ (s3 _ _ q)) r') pr (mono _ _ H6 _ acc (s6 _ _ hD3) (fun b o nb q=>by rw [ao nb]; exact q) r)
 ·have hi':i=xs.length:=by omega
  subst hi';rw [List.take_length] at pr;exact .inl ⟨hst H2 sm,hq H2 acc sm hD pr⟩
end
section
variable {X:Cx} {o e:Expr} {to te:TE} {apos cpos:Pos}
noncomputable def cExtend (to te:TE):TE:=fun σ H Q=>to σ H fun x H1=>match x with
 | .ref l=>(∃ xs,H1 l=some (.lst xs))/\te σ H1 fun y H2=>match y with
  | .ref b=>∃ xs zs,H2 l=some (.lst xs)/\H2 b=some (.lst zs)/\xs.length+zs.length<=sizeLine/\Q .non (upd H2 l (.lst (xs++zs)))
  | _=>False
 | _=>False
theorem vj (ho:PE X o to) (he:PE X e te) (hbase:attributeBase o "extend" X.env (eval o X.env)=eval o X.env:=by rfl)
  (hfew:((backTo cpos (starEach [e] X.env)).all (fun x=>!x.1) && (backToKw cpos (keywordEach [] X.env)).all (fun x=>x.1.isSome) && decide ([e].length+([]:List Keyword).length+(if ([]:List Keyword).isEmpty then 0 else 1) < 30))=true:=by rfl)
  (hline:(apos.endLine == cpos.line)=true:=by rfl) (hs:starEach [e] X.env=(false,eval e X.env)::starEach [] X.env:=by rfl) (hplain:(backTo cpos (starEach [] X.env)).any (·.1)=false:=by rfl):
  PE X (.Call (.Attribute o "extend" apos) [e] [] cpos) (cExtend to te):=
 (rf PySem.F.plainAttrs_list PySem.F.slot_list_extend PySem.F.type_list_extend uJ ho.mono (aa he.mono ab hs) hbase hfew hline hs hplain).imp fun σ H Q q=>⟨_,q,fun x H1 z=>by
  split at z
  ·rename_i l;obtain ⟨⟨xs,h⟩,z⟩:=z;refine ⟨.inl ⟨rfl,_,SqL.of h⟩,_,z,fun y H2 z2=>?_⟩;split at z2
   ·obtain ⟨xs2,zs,h2,h3,h4,z3⟩:=z2;exact ⟨l,_,xs2,zs,rfl,rfl,h2,h3,h4,z3⟩
   ·exact z2.elim
  ·exact z.elim⟩
theorem uI {σ:St} {H:Hp} {Q:VK}:cExtend to te σ H Q=to σ H fun x H1=>match x with
 | .ref l=>(∃ xs,H1 l=some (.lst xs))/\te σ H1 fun y H2=>match y with
  | .ref b=>∃ xs zs,H2 l=some (.lst xs)/\H2 b=some (.lst zs)/\xs.length+zs.length<=sizeLine/\Q .non (upd H2 l (.lst (xs++zs)))
  | _=>False
 | _=>False:=rfl
end
section
variable {prog:Program} {w:World} {A:Around} {E:Value->Shared->Prop} {s:Shared} {a:Addr} {δ:Type} {R:δ -> Value->Prop} {D:List (Str × δ)} {k:Str} {tk:Tok}
end
section
variable {X:Cx} {i:Expr} {p pos:Pos} {ty:TE} {x:Str}
end
section
variable {X:Cx} {k:Nat} {x:Str} {ps:List Str} {sp:Sp} {p pos:Pos} {e:Expr} {es:List Expr} {t:TA}
theorem Aa (C:ClsT X.K X.mg x) (M:KCal X.prog X.w X.K X.mg X.base k x ps sp) (hr:Room (k+1) X.A) (hg:Gl X x) (ha:PA X (e::es) t) (hd:(x == ("__debug__" : Str))=false:=by decide)
  (he:starEach (e::es) X.env=(false,eval e X.env)::starEach es X.env:=by rfl) (hpl:(backTo pos (starEach es X.env)).any (·.1)=false:=by rfl):PE X (.Call (.Name x p) (e::es) [] pos) (tMake (xA X.K x) sp [] E0 t):=by
 obtain ⟨f,fd,F,b,M⟩:=M;exact yp M F hr hg C.m b .nil pass0 ha hd he hpl
end
section
variable {X:Cx}
theorem yY {e:Expr} {f:Str} {pos:Pos} {ta:TE} (K:Frag) (hK:X.K=K) (he:PE X e ta) (hb:attributeBase e f X.env (eval e X.env)=eval e X.env):PE X (.Attribute e f pos) (tFld K ta f):=by
 subst hK;exact jm he hb
theorem Ar (b n:Nat) (h:b<=n):Builtin.Slice.sliceAdjust none (some (b:Int)) 1 (n:Int)=(0,(b:Int)):=by
 have g:¬ ((b:Int) < 0):=by omega
 simp only [Builtin.Slice.sliceAdjust,g,if_false,show ¬ ((1:Int) < 0) by decide];rw [Int.min_eq_left (by omega)]
theorem vM (b:Nat):Builtin.Slice.slicePlaces 0 (b:Int) 1=b:=by
 simp only [Builtin.Slice.slicePlaces,show (1:Int) > 0 by decide,if_true,Int.ediv_one];split <;> omega
theorem zj:∀ (l:List Value) (b:Nat),b<=l.length->((List.range b).filterMap fun (k:Nat)=>l.toArray[((0:Int)+(k:Int)*1).toNat]?)=l.take b:=by
 intro l b h
 induction b with
 | zero=>simp
 | succ b ih=>
  rw [List.range_succ,List.filterMap_append,ih (by omega),List.take_add_one,List.getElem?_eq_getElem (by omega)];congr 1;rw [List.filterMap_cons,List.filterMap_nil,show ((0:Int)+((b:Nat):Int)*1).toNat=b by omega,List.getElem?_toArray,List.getElem?_eq_getElem (by omega)];rfl
theorem m7 {prog:Program} {w:World} {A:Around} {E:Value->Shared->Prop} {s:Shared} {t sl:Addr} {l:List Value} {b:Nat} {u:Tok} {Q:Value->Shared->Prop} (ht:IsTup s.heap t l.toArray) (hs:s.heap.IsSliceOf sl .none (.int b u) .none) (hb:b < l.length) (hz:l.length<=sizeLine)
  (h:Q (.ref s.heap.objs.size) { s with heap:=s.heap.push { cls:=.type "tuple",data:=.seq (l.take b).toArray } }):wpAny (model prog w) A (getItem (.ref t) (.ref sl)) Q E s:=by
 have fit:sizeOk (.seq (l.take b).toArray):=by show (l.take b).toArray.size<=sizeLine; rw [List.size_toArray,List.length_take]; omega
 obtain ⟨os,hos,hcs,hds⟩:=id hs;have hTs:s.TypeIs (.ref sl) "slice" := ⟨os,hos,hcs⟩;have step:∀ {A':Around} {Q':Int × Int × Nat->Shared->Prop},Q' (0,1,b) s->wpAny (model prog w) A' (Builtin.Slice.sliceApplied (.ref sl) (pure ((l.toArray.size:Nat):Int))) Q' E s:=by
  intro A' Q' hQ;unfold Builtin.Slice.sliceApplied Builtin.Slice.sliceFields;refine wpAny_bind (wpAny_bind (wpAny_field hos hds (x:=.none) rfl (wpAny_bind (wpAny_field hos hds (x:=.int b u) rfl (wpAny_bind (wpAny_field hos hds (x:=.none) rfl (wpAny_pure (wpAny_bind (slicePart_none ?_)))))))));show wpAny _ _ (if ((1:Int) == 0)=true then _ else _) _ _ s;rw [if_neg (by decide)];refine wpAny_bind (slicePart_none (wpAny_bind (slicePart_int (wpAny_bind (wpAny_pure ?_)))));show wpAny _ _ (match Builtin.Slice.sliceAdjust none (some (b:Int)) 1 ((l.toArray.size:Nat):Int) with | (lo,hi)=>pure (lo,(1:Int),Builtin.Slice.slicePlaces lo hi 1)) _ _ s;rw [Ar b _ (by rw [List.size_toArray]; omega)];show wpAny _ _ (pure ((0:Int),(1:Int),Builtin.Slice.slicePlaces 0 (b:Int) 1)) _ _ s;rw [vM];exact wpAny_pure hQ
 unfold getItem
 try with_reducible refine wpAny_holding ?_
 first | refine wpAny_bind (wpAny_pure ?_) | skip
 refine wpAny_bind (wpAny_sequenceKey ht.typeIs (by decide) (wpAny_bind (wpAny_callSpecial?_slot (name:=Str.ofString "__getitem__") ht.typeIs slot_tuple_getitem (wpAny_call_entry slot_tuple_getitem ht.typeIs entry_tuple_getitem ?_ (args_tuple_getitem _ _)))));show wpAny _ _ (Builtin.Tuple.tupleItemsOf (.ref t)>>=_) _ _ s;refine wpAny_bind (tupleItemsOf_ ht (wpAny_bind (wpAny_typeOf hTs ?_)));rw [if_pos (by decide)];refine wpAny_bind (step ?_);have no:¬ (((0:Int) == 0 && (1:Int) == 1 && b == l.toArray.size)=true):=by
  rw [List.size_toArray];simp;omega
 show wpAny _ _ (if ((0:Int) == 0 && (1:Int) == 1 && b == l.toArray.size)=true then _ else _) _ _ s;rw [if_neg no,zj l b (by omega)]
 first
  | exact wpAny_bind (m:=Builtin.Tuple.tupleExact _) (wpAny_newObj_type (wpAny_pure ⟨_,rfl,wpAny_pure h⟩) fit)
  | exact wpAny_bind (m:=Builtin.Tuple.tupleExact _) (wpAny_newObj_type (wpAny_bind (wpAny_pure (wpAny_pure ⟨_,rfl,wpAny_pure h⟩))) fit)
  | exact wpAny_bind (wpAny_bind (m:=Builtin.Tuple.tupleExact _) (wpAny_newObj_type (wpAny_pure (wpAny_pure ⟨_,rfl,wpAny_pure h⟩)) fit))
  | exact wpAny_bind (wpAny_bind (m:=Builtin.Tuple.tupleExact _) (wpAny_newObj_type (wpAny_pure ⟨_,rfl,wpAny_pure h⟩) fit))
noncomputable def kSlT (K:Frag):V->Option Int->Option Int->Hp->VK->Prop:=fun x lo hi H Q=>match x,lo,hi with
 | .ref p,none,some b=>∃ (xs:List V) (n:Nat),SqT K H p xs/\b=(n:Int)/\n < xs.length/\∀ q,H q=none->Q (.ref q) (upd H q (.tup (xs.take n)))
 | _,_,_=>False
theorem slTE (K:Frag) (hK:X.K=K):SlR X (kSlT K):=by
 subst hK;intro pins s σ H x v vl vu lo hi sl Q I rx hs pl pu q;cases x with
 | ref p=>
  cases lo with
  | some _=>exact q.elim
  | none=>
   cases hi with
   | none=>exact q.elim
   | some b=>
    obtain ⟨xs,n,hx,rfl,hn,q⟩:=q;cases rx;cases pl;cases pu;obtain ⟨its,r,ht,hz⟩:=I.tuple hx;have hl:=r.length;refine ⟨"tuple",_,slot_tuple_getitem.lookup,ht.typeIs,m7 ht hs (by omega) (by omega) ?_⟩;refine ⟨.ref s.heap.objs.size,_,I.laid (t':=s.toks) (o:=.tup (xs.take n)) (fun b ob q=>Heap.get?_push_of_some _ q) (Nat.le_refl _) ⟨by rw [List.length_take]; omega,its.take n,r.take n,_,Heap.get?_push_size _ rfl,rfl,0,rfl⟩,rfl,q _ (I.hok.fresh (Nat.le_refl _))⟩
 | _=>exact q.elim
theorem Aq {K:Frag} {p:Addr} {b:Int} {H:Hp} {Q:VK}:kSlT K (.ref p) none (some b) H Q=∃ (xs:List V) (n:Nat),SqT K H p xs/\b=(n:Int)/\n < xs.length/\∀ q,H q=none->Q (.ref q) (upd H q (.tup (xs.take n))):=rfl
end
section
variable {K:Frag}
theorem fL {cl:Value} {od:Option Addr} {cd:ClassData} {sl:Array (Option Value)}:isTab ⟨cl,od,.cls cd,sl⟩=false:=by
 unfold isTab;cases cl <;> rfl
theorem yG {x:Str} {v:Value} {r:Option Value} (h:PySem.W.ownIn K x v=some r):PySem.W.ownIn (cut K) x v=some r:=by
 unfold PySem.W.ownIn at h ⊢;cases v with
 | ref a=>
  cases q:K.lookup a with
  | none=>simp only [q] at h; cases h
  | some o=>
   obtain ⟨cl,od,da,sl⟩:=o;cases da with
   | cls cd=>
    simp only [q] at h;simp only [cut_lookup q fL];exact cut_ns h
   | _=>simp only [q] at h; cases h
 | _=>exact h
theorem ol {x:Str}:∀ {l:List Value} {r:Option Value},PySem.W.alongIn K x l=some r->PySem.W.alongIn (cut K) x l=some r
 | [],r,h=>h
 | c::l,r,h=>by
  unfold PySem.W.alongIn at h ⊢;cases q:PySem.W.ownIn K x c with
  | none=>simp only [q] at h; cases h
  | some y=>
   simp only [q] at h;simp only [yG q];cases y with
   | none=>exact ol h
   | some v=>exact h
theorem cut_find {t:Value} {x:Str} {r:Option Value} (h:findIn K t x=some r):findIn (cut K) t x=some r:=by
 unfold findIn at h ⊢;cases t with
 | ref a=>
  cases q:K.lookup a with
  | none=>simp only [q] at h; cases h
  | some o=>
   obtain ⟨cl,od,da,sl⟩:=o;cases da with
   | cls cd=>
    simp only [q] at h;simp only [cut_lookup q fL];exact ol h
   | _=>simp only [q] at h; cases h
 | _=>exact h
theorem ua {C:Addr} {cd:ClassData} (h:PySem.W.clsIn K C=some cd):PySem.W.clsIn (cut K) C=some cd:=by
 unfold PySem.W.clsIn at h ⊢;cases q:K.lookup C with
 | none=>simp only [q] at h; cases h
 | some o=>
  obtain ⟨cl,od,da,sl⟩:=o;cases da with
  | cls cd=>
   simp only [q] at h;simp only [cut_lookup q fL];exact h
  | _=>simp only [q] at h; cases h
theorem tO {C:Addr} {f:ClassData->Bool} (h:(PySem.W.clsIn K C).any f=true):(PySem.W.clsIn (cut K) C).any f=true:=by
 cases q:PySem.W.clsIn K C with
 | none=>rw [q] at h; cases h
 | some cd=>rw [q] at h; rw [ua q]; exact h
theorem cut_hasDict {C:Addr} (h:PySem.W.hasDictIn K C=true):PySem.W.hasDictIn (cut K) C=true:=tO h
theorem cut_over {C:Addr} (h:PySem.W.plainOver K C=true):PySem.W.plainOver (cut K) C=true:=tO h
theorem cut_get {C:Addr} (h:PySem.W.plainGet K C Str.empty=true):PySem.W.plainGet (cut K) C Str.empty=true:=by
 unfold PySem.W.plainGet at h ⊢;rw [Bool.and_eq_true,beq_iff_eq,beq_iff_eq] at h;rw [cut_find h.1,cut_find h.2];simp
theorem mK {v t:Value} (h:PySem.W.typeIn K v=some t) (n:t≠.none):PySem.W.typeIn (cut K) v=some t:=by
 unfold PySem.W.typeIn at h ⊢;cases v with
 | ref a=>
  obtain ⟨o,ho,e⟩:=Option.map_eq_some_iff.mp h;have e:o.cls=t:=e;exact Option.map_eq_some_iff.mpr ⟨o,cut_lookup ho (pM (by rw [e]; exact n)),e⟩
 | _=>exact h
theorem cut_isFn {v:Value} (h:PySem.W.isFn K v=true):PySem.W.isFn (cut K) v=true:=by
 unfold PySem.W.isFn at h ⊢;rw [beq_iff_eq] at h;rw [mK h (by nofun)];simp
theorem kY {v:Value} {x:Str} {r:Option Value} (h:PySem.W.specialIn K v x=some r):PySem.W.specialIn (cut K) v x=some r:=by
 unfold PySem.W.specialIn at h ⊢;obtain ⟨t,a,b⟩:=Option.bind_eq_some_iff.mp h;exact Option.bind_eq_some_iff.mpr ⟨t,mK a (fun z=>by rw [z] at b; cases b),cut_find b⟩
theorem yz {C:Addr} {b:Value} {r:Bool} (h:PySem.W.mroIn K C b=some r):PySem.W.mroIn (cut K) C b=some r:=by
 unfold PySem.W.mroIn at h ⊢;obtain ⟨cd,a,e⟩:=Option.bind_eq_some_iff.mp h;exact Option.bind_eq_some_iff.mpr ⟨cd,ua a,e⟩
theorem xb {v b:Value} {r:Bool} (h:PySem.W.instIn K v b=some r):PySem.W.instIn (cut K) v b=some r:=by
 unfold PySem.W.instIn at h ⊢;obtain ⟨t,a,e⟩:=Option.bind_eq_some_iff.mp h;refine Option.bind_eq_some_iff.mpr ⟨t,mK a (fun z=>by rw [z] at e; cases e),?_⟩;cases t with
 | ref C=>exact yz e
 | _=>exact e
theorem cut_makes {C:Addr} (h:PySem.W.makesIn K C=true):PySem.W.makesIn (cut K) C=true:=by
 unfold PySem.W.makesIn at h ⊢;cases q:K.lookup C with
 | none=>simp only [q] at h; cases h
 | some o=>
  obtain ⟨cl,od,da,sl⟩:=o;cases da with
  | cls cd=>
   simp only [q] at h;simp only [cut_lookup q fL];simp only [Bool.and_eq_true,beq_iff_eq] at h ⊢;exact ⟨⟨h.1.1,kY h.1.2⟩,xb h.2⟩
  | _=>simp only [q] at h; cases h
theorem uO {C:Addr} {cd:ClassData} (hc:PySem.W.clsIn K C=some cd) (h:keepIn K (.ref C)=true):keepIn (cut K) (.ref C)=true:=by
 unfold PySem.W.clsIn at hc;unfold keepIn at h ⊢;cases q:K.lookup C with
 | none=>simp only [q] at hc; cases hc
 | some o=>
  obtain ⟨cl,od,da,sl⟩:=o;cases da with
  | cls cd=>
   simp only [q] at h;simp only [cut_lookup q fL];rw [beq_iff_eq] at h;rw [kY h];simp
  | _=>simp only [q] at hc; cases hc
theorem ul {C:Addr} (h:PySem.W.makesIn K C=true):∃ cd,PySem.W.clsIn K C=some cd:=by
 unfold PySem.W.makesIn at h;unfold PySem.W.clsIn;cases q:K.lookup C with
 | none=>simp only [q] at h; cases h
 | some o=>
  obtain ⟨cl,od,da,sl⟩:=o;cases da with
  | cls cd=>exact ⟨cd,rfl⟩
  | _=>simp only [q] at h; cases h
theorem cut_keepM {C:Addr} (m:PySem.W.makesIn K C=true) (h:keepIn K (.ref C)=true):keepIn (cut K) (.ref C)=true:=by
 obtain ⟨cd,hc⟩:=ul m;exact uO hc h
end
class LenSp (sp:Sp) (n:outParam Nat):Prop where
 h:∀ vs H Q E,sp vs H Q E->vs.length=n
noncomputable def aA (f:Addr->Sp):Sp:=fun vs H Q E=>match vs with
 | .ref x::r=>f x r H Q E
 | _=>False
theorem aA.el {f:Addr->Sp} {vs:List V} {H:Hp} {Q:VK} {E:XK} (h:aA f vs H Q E):∃ x r,vs=.ref x::r/\f x r H Q E:=by
 unfold aA at h;split at h
 ·exact ⟨_,_,rfl,h⟩
 ·exact h.elim
noncomputable def bB (f:Int->Sp):Sp:=fun vs H Q E=>match vs with
 | .int x::r=>f x r H Q E
 | _=>False
theorem bB.el {f:Int->Sp} {vs:List V} {H:Hp} {Q:VK} {E:XK} (h:bB f vs H Q E):∃ x r,vs=.int x::r/\f x r H Q E:=by
 unfold bB at h;split at h
 ·exact ⟨_,_,rfl,h⟩
 ·exact h.elim
noncomputable def be (f:Str->Sp):Sp:=fun vs H Q E=>match vs with
 | .str x::r=>f x r H Q E
 | _=>False
theorem be.el {f:Str->Sp} {vs:List V} {H:Hp} {Q:VK} {E:XK} (h:be f vs H Q E):∃ x r,vs=.str x::r/\f x r H Q E:=by
 unfold be at h;split at h
 ·exact ⟨_,_,rfl,h⟩
 ·exact h.elim
noncomputable def on (f:Bool->Sp):Sp:=fun vs H Q E=>match vs with
 | .bl x::r=>f x r H Q E
 | _=>False
theorem on.el {f:Bool->Sp} {vs:List V} {H:Hp} {Q:VK} {E:XK} (h:on f vs H Q E):∃ x r,vs=.bl x::r/\f x r H Q E:=by
 unfold on at h;split at h
 ·exact ⟨_,_,rfl,h⟩
 ·exact h.elim
noncomputable def iQ (f:V->Sp):Sp:=fun vs H Q E=>match vs with
 | x::r=>f x r H Q E
 | []=>False
theorem iQ.el {f:V->Sp} {vs:List V} {H:Hp} {Q:VK} {E:XK} (h:iQ f vs H Q E):∃ x r,vs=x::r/\f x r H Q E:=by
 cases vs with
 | nil=>exact h.elim
 | cons x r=>exact ⟨x,r,rfl,h⟩
noncomputable def aD (f:Hp->VK->XK->Prop):Sp:=fun vs H Q E=>match vs with
 | []=>f H Q E
 | _::_=>False
theorem aD.el {f:Hp->VK->XK->Prop} {vs:List V} {H:Hp} {Q:VK} {E:XK} (h:aD f vs H Q E):vs=[]/\f H Q E:=by
 cases vs with
 | nil=>exact ⟨rfl,h⟩
 | cons x r=>exact h.elim
instance {f:Hp->VK->XK->Prop}:LenSp (aD f) 0:=⟨fun vs H Q E h=>by rw [(aD.el h).1]; rfl⟩
instance {f:Addr->Sp} {n:Nat} [i:∀ x,LenSp (f x) n]:LenSp (aA f) (n+1):=⟨fun vs H Q E h=>by
 obtain ⟨x,r,e,h⟩:=aA.el h;rw [e,List.length_cons,(i x).h r H Q E h]⟩
instance {f:Int->Sp} {n:Nat} [i:∀ x,LenSp (f x) n]:LenSp (bB f) (n+1):=⟨fun vs H Q E h=>by
 obtain ⟨x,r,e,h⟩:=bB.el h;rw [e,List.length_cons,(i x).h r H Q E h]⟩
instance {f:Str->Sp} {n:Nat} [i:∀ x,LenSp (f x) n]:LenSp (be f) (n+1):=⟨fun vs H Q E h=>by
 obtain ⟨x,r,e,h⟩:=be.el h;rw [e,List.length_cons,(i x).h r H Q E h]⟩
instance {f:Bool->Sp} {n:Nat} [i:∀ x,LenSp (f x) n]:LenSp (on f) (n+1):=⟨fun vs H Q E h=>by
 obtain ⟨x,r,e,h⟩:=on.el h;rw [e,List.length_cons,(i x).h r H Q E h]⟩
instance {f:V->Sp} {n:Nat} [i:∀ x,LenSp (f x) n]:LenSp (iQ f) (n+1):=⟨fun vs H Q E h=>by
 obtain ⟨x,r,e,h⟩:=iQ.el h;rw [e,List.length_cons,(i x).h r H Q E h]⟩
end L2
set_option maxHeartbeats 4000000
namespace L2
open PySem PySem.Spec PyProof.Rows
theorem lc {c:Scope} {x:Str} (h:Loc c x:=by first | exact Or.inl rfl | exact Or.inr rfl):Loc c x:=h
theorem Room.m {j k:Nat} {A:Around} (r:Room k A) (h:j<=k:=by first | decide | omega):Room j A:=r.mono h
end L2
namespace Law
open PySem L2 Mir
noncomputable def top (i:Nat):Stmt:=PySem.Challenge.pw_throng_k31_house_shares.main.body.getD i (.Pass ⟨0,0,0,0⟩)
noncomputable abbrev jd:Stmt:=top 1
theorem fc:FnScope ["one", "other", "signs", "mine", "its"] ["one", "other"] (defScope jd):=⟨rfl,rfl,rfl,by decide +kernel,rfl,by decide +kernel,by decide +kernel⟩
noncomputable abbrev ja:Stmt:=top 2
theorem qK:FnScope ["row", "place", "sign"] ["row", "place", "sign"] (defScope ja):=⟨rfl,rfl,rfl,by decide +kernel,rfl,by decide +kernel,by decide +kernel⟩
noncomputable abbrev cM:Stmt:=top 3
theorem lC:FnScope ["row", "places"] ["row", "places"] (defScope cM):=⟨rfl,rfl,rfl,by decide +kernel,rfl,by decide +kernel,by decide +kernel⟩
noncomputable abbrev f8:Stmt:=top 5
theorem nB:FnScope ["heap"] ["heap"] (defScope f8):=⟨rfl,rfl,rfl,by decide +kernel,rfl,by decide +kernel,by decide +kernel⟩
noncomputable abbrev dh:Stmt:=top 6
theorem eH:FnScope ["heap", "places", "place"] ["heap"] (defScope dh):=⟨rfl,rfl,rfl,by decide +kernel,rfl,by decide +kernel,by decide +kernel⟩
noncomputable abbrev cF:Stmt:=top 12
theorem lB:FnScope ["layout"] ["layout"] (defScope cF):=⟨rfl,rfl,rfl,by decide +kernel,rfl,by decide +kernel,by decide +kernel⟩
noncomputable abbrev gE:Stmt:=top 13
theorem ck:FnScope ["layout", "name", "first", "field", "size"] ["layout", "name"] (defScope gE):=⟨rfl,rfl,rfl,by decide +kernel,rfl,by decide +kernel,by decide +kernel⟩
noncomputable abbrev cV:Stmt:=top 15
theorem gu:FnScope ["heap", "row", "rows", "met", "places"] ["heap", "row"] (defScope cV):=⟨rfl,rfl,rfl,by decide +kernel,rfl,by decide +kernel,by decide +kernel⟩
noncomputable abbrev hU:Stmt:=top 16
theorem dJ:FnScope ["pairs", "width", "firsts", "signs", "number"] ["pairs", "width"] (defScope hU):=⟨rfl,rfl,rfl,by decide +kernel,rfl,by decide +kernel,by decide +kernel⟩
noncomputable abbrev gz:Stmt:=top 17
theorem bJ:FnScope ["firsts", "places", "no_firsts", "yes_firsts", "no", "yes"] ["firsts", "places"] (defScope gz):=⟨rfl,rfl,rfl,by decide +kernel,rfl,by decide +kernel,by decide +kernel⟩
noncomputable abbrev de:Stmt:=top 18
theorem mH:FnScope ["firsts", "sign", "width"] ["firsts", "sign", "width"] (defScope de):=⟨rfl,rfl,rfl,by decide +kernel,rfl,by decide +kernel,by decide +kernel⟩
noncomputable abbrev fX:Stmt:=top 19
theorem cf:FnScope ["fork", "row", "over", "place", "sign", "no_parts"] ["fork", "row", "over"] (defScope fX):=⟨rfl,rfl,rfl,by decide +kernel,rfl,by decide +kernel,by decide +kernel⟩
noncomputable abbrev gn:Stmt:=top 21
theorem nI:FnScope ["rules", "number"] ["rules", "number"] (defScope gn):=⟨rfl,rfl,rfl,by decide +kernel,rfl,by decide +kernel,by decide +kernel⟩
noncomputable abbrev dC:Stmt:=top 23
theorem kH:FnScope ["ways"] ["ways"] (defScope dC):=⟨rfl,rfl,rfl,by decide +kernel,rfl,by decide +kernel,by decide +kernel⟩
noncomputable abbrev kf:Stmt:=top 24
theorem rN:FnScope ["way", "size"] ["way", "size"] (defScope kf):=⟨rfl,rfl,rfl,by decide +kernel,rfl,by decide +kernel,by decide +kernel⟩
noncomputable abbrev j5:Stmt:=top 25
theorem rZ:FnScope ["ways", "number"] ["ways", "number"] (defScope j5):=⟨rfl,rfl,rfl,by decide +kernel,rfl,by decide +kernel,by decide +kernel⟩
noncomputable abbrev gh:Stmt:=top 27
theorem fu:FnScope ["house", "door", "gate", "rules"] ["house", "door"] (defScope gh):=⟨rfl,rfl,rfl,by decide +kernel,rfl,by decide +kernel,by decide +kernel⟩
noncomputable abbrev kL:Stmt:=top 28
theorem sK:FnScope ["door", "thing"] ["door", "thing"] (defScope kL):=⟨rfl,rfl,rfl,by decide +kernel,rfl,by decide +kernel,by decide +kernel⟩
noncomputable abbrev d4:Stmt:=top 29
theorem lu:FnScope ["layout", "house", "door", "row"] ["layout", "house", "door", "row"] (defScope d4):=⟨rfl,rfl,rfl,by decide +kernel,rfl,by decide +kernel,by decide +kernel⟩
noncomputable abbrev mS:Stmt:=top 30
theorem oy:FnScope ["layout", "way", "first"] ["layout", "way"] (defScope mS):=⟨rfl,rfl,rfl,by decide +kernel,rfl,by decide +kernel,by decide +kernel⟩
noncomputable abbrev hJ:Stmt:=top 33
theorem dQ:FnScope ["_law_script", "_law_k", "_law_many", "_law_cell", "_law_mixed"] ["_law_script", "_law_k", "_law_many"] (defScope hJ):=⟨rfl,rfl,rfl,by decide +kernel,rfl,by decide +kernel,by decide +kernel⟩
noncomputable abbrev cN:Stmt:=top 34
theorem bt:FnScope ["_law_script", "_law_k", "_law_many", "_law_letters_here", "_law_start", "_law_body", "_law_j", "_law_at", "_law_step"] ["_law_script", "_law_k", "_law_many"] (defScope cN):=⟨rfl,rfl,rfl,by decide +kernel,rfl,by decide +kernel,by decide +kernel⟩
noncomputable abbrev di:Stmt:=top 35
theorem aZ:FnScope ["_law_script", "_law_size_here", "_law_ahead", "_law_behind", "_law_names_here", "_law_layout_here"] ["_law_script"] (defScope di):=⟨rfl,rfl,rfl,by decide +kernel,rfl,by decide +kernel,by decide +kernel⟩
noncomputable abbrev dM:Stmt:=top 36
theorem nK:FnScope ["_law_layout_here"] ["_law_layout_here"] (defScope dM):=⟨rfl,rfl,rfl,by decide +kernel,rfl,by decide +kernel,by decide +kernel⟩
noncomputable abbrev ia:Stmt:=top 37
theorem cK:FnScope ["_law_layout_here", "_law_first", "_law_name", "_law_size_here"] ["_law_layout_here"] (defScope ia):=⟨rfl,rfl,rfl,by decide +kernel,rfl,by decide +kernel,by decide +kernel⟩
noncomputable abbrev io:Stmt:=top 38
theorem bY:FnScope ["_law_script", "_law_layout_here", "_law_width_here", "_law_first", "_law_behind", "_law_places", "_law_k"] ["_law_script", "_law_layout_here"] (defScope io):=⟨rfl,rfl,rfl,by decide +kernel,rfl,by decide +kernel,by decide +kernel⟩
noncomputable abbrev cP:Stmt:=top 39
theorem dD:FnScope ["_law_script", "_law_told_here", "_law_turn", "_law_count"] ["_law_script", "_law_told_here"] (defScope cP):=⟨rfl,rfl,rfl,by decide +kernel,rfl,by decide +kernel,by decide +kernel⟩
noncomputable abbrev gH:Stmt:=top 40
theorem df:FnScope ["_law_number", "_law_places", "_law_width_here", "_law_menu", "_law_signs_here", "_law_place"] ["_law_number", "_law_places", "_law_width_here", "_law_menu"] (defScope gH):=⟨rfl,rfl,rfl,by decide +kernel,rfl,by decide +kernel,by decide +kernel⟩
noncomputable abbrev ik:Stmt:=top 41
theorem dS:FnScope ["_law_script", "_law_k", "_law_told_here", "_law_over_at_here", "_law_width_here", "_law_row", "_law_number", "_law_over"] ["_law_script", "_law_k", "_law_told_here", "_law_over_at_here", "_law_width_here"] (defScope ik):=⟨rfl,rfl,rfl,by decide +kernel,rfl,by decide +kernel,by decide +kernel⟩
noncomputable abbrev fe:Stmt:=top 42
theorem bj:FnScope ["_law_script", "_law_k", "_law_doors", "_law_size_here", "_law_ways_here", "_law_j", "_law_number", "_law_beginning", "_law_door"] ["_law_script", "_law_k", "_law_doors", "_law_size_here"] (defScope fe):=⟨rfl,rfl,rfl,by decide +kernel,rfl,by decide +kernel,by decide +kernel⟩
noncomputable abbrev cS:Stmt:=top 43
theorem aI:FnScope ["_law_script", "_law_k", "_law_told_here", "_law_layout_here", "_law_pool", "_law_width_here", "_law_first", "_law_behind", "_law_over_at_here", "_law_turn", "_law_count", "_law_doors", "_law_gates", "_law_g", "_law_many", "_law_rules", "_law_over"] ["_law_script", "_law_k", "_law_told_here", "_law_layout_here", "_law_pool"] (defScope cS):=⟨rfl,rfl,rfl,by decide +kernel,rfl,by decide +kernel,by decide +kernel⟩
noncomputable abbrev bG:Stmt:=top 44
theorem aG:FnScope ["_law_script", "_law_told_here", "_law_width_here", "_law_filler", "_law_size_here", "_law_place", "_law_letters_here", "_law_number", "_law_bits", "_law_rest"] ["_law_script", "_law_told_here", "_law_width_here"] (defScope bG):=⟨rfl,rfl,rfl,by decide +kernel,rfl,by decide +kernel,by decide +kernel⟩
noncomputable abbrev h7:Stmt:=top 45
theorem gC:FnScope ["_law_row", "_law_letter", "_law_sign", "_law_own"] ["_law_row", "_law_letter"] (defScope h7):=⟨rfl,rfl,rfl,by decide +kernel,rfl,by decide +kernel,by decide +kernel⟩
noncomputable abbrev cO:Stmt:=top 46
theorem lF:FnScope ["_law_letter", "_law_over"] ["_law_letter", "_law_over"] (defScope cO):=⟨rfl,rfl,rfl,by decide +kernel,rfl,by decide +kernel,by decide +kernel⟩
noncomputable abbrev gX:Stmt:=top 47
theorem bq:FnScope ["_law_layout_here", "_law_ways_here", "_law_letter", "_law_first", "_law_behind", "_law_longest", "_law_what", "_law_beginning", "_law_door"] ["_law_layout_here", "_law_ways_here", "_law_letter"] (defScope gX):=⟨rfl,rfl,rfl,by decide +kernel,rfl,by decide +kernel,by decide +kernel⟩
noncomputable abbrev hZ:Stmt:=top 48
theorem bH:FnScope ["_law_layout_here", "_law_house_here", "_law_door", "_law_letter", "_law_rules", "_law_name", "_law_some", "_law_number", "_law_rule_here"] ["_law_layout_here", "_law_house_here", "_law_door", "_law_letter"] (defScope hZ):=⟨rfl,rfl,rfl,by decide +kernel,rfl,by decide +kernel,by decide +kernel⟩
noncomputable abbrev eS:Stmt:=top 49
theorem jT:FnScope ["_law_found", "_law_due"] ["_law_found", "_law_due"] (defScope eS):=⟨rfl,rfl,rfl,by decide +kernel,rfl,by decide +kernel,by decide +kernel⟩
noncomputable abbrev dq:Stmt:=top 50
theorem jA:FnScope ["_law_thing"] ["_law_thing"] (defScope dq):=⟨rfl,rfl,rfl,by decide +kernel,rfl,by decide +kernel,by decide +kernel⟩
noncomputable abbrev dg:Stmt:=top 51
theorem mD:FnScope ["_law_thing", "_law_width_here"] ["_law_thing", "_law_width_here"] (defScope dg):=⟨rfl,rfl,rfl,by decide +kernel,rfl,by decide +kernel,by decide +kernel⟩
noncomputable abbrev gD:Stmt:=top 52
theorem fE:FnScope ["_law_one", "_law_other", "_law_sign", "_law_own"] ["_law_one", "_law_other"] (defScope gD):=⟨rfl,rfl,rfl,by decide +kernel,rfl,by decide +kernel,by decide +kernel⟩
noncomputable abbrev cX:Stmt:=top 53
theorem bP:FnScope ["_law_rows", "_law_at", "_law_row", "_law_other"] ["_law_rows"] (defScope cX):=⟨rfl,rfl,rfl,by decide +kernel,rfl,by decide +kernel,by decide +kernel⟩
noncomputable abbrev ic:Stmt:=top 54
theorem dP:FnScope ["_law_row", "_law_size_here", "_law_sign"] ["_law_row"] (defScope ic):=⟨rfl,rfl,rfl,by decide +kernel,rfl,by decide +kernel,by decide +kernel⟩
noncomputable abbrev cE:Stmt:=top 55
theorem jh:FnScope ["_law_what", "_law_letter", "_law_due"] ["_law_what", "_law_letter", "_law_due"] (defScope cE):=⟨rfl,rfl,rfl,by decide +kernel,rfl,by decide +kernel,by decide +kernel⟩
noncomputable abbrev bD:Stmt:=top 56
theorem cy:FnScope ["_law_found", "_law_row", "_law_share", "_law_parts"] ["_law_found", "_law_row"] (defScope bD):=⟨rfl,rfl,rfl,by decide +kernel,rfl,by decide +kernel,by decide +kernel⟩
noncomputable abbrev cH:Stmt:=top 57
theorem bh:FnScope ["_law_script", "_law_told_here", "_law_width_here", "_law_over_at_here", "_law_some", "_law_j", "_law_row", "_law_over"] ["_law_script", "_law_told_here", "_law_width_here"] (defScope cH):=⟨rfl,rfl,rfl,by decide +kernel,rfl,by decide +kernel,by decide +kernel⟩
noncomputable abbrev aV:Stmt:=top 58
theorem aE:FnScope ["_law_script", "_law_k", "_law_house_here", "_law_letters_here", "_law_layout_here", "_law_most", "_law_first", "_law_behind", "_law_doors", "_law_j", "_law_letter", "_law_cut", "_law_beginning", "_law_at"] ["_law_script", "_law_k", "_law_house_here", "_law_letters_here", "_law_layout_here", "_law_most"] (defScope aV):=⟨rfl,rfl,rfl,by decide +kernel,rfl,by decide +kernel,by decide +kernel⟩
noncomputable abbrev kN:Stmt:=top 59
theorem cL:FnScope ["_law_script", "_law_layout_here", "_law_width_here", "_law_told_here", "_law_house_here", "_law_letters_here", "_law_row", "_law_handed", "_law_door", "_law_rules", "_law_found", "_law_letter", "_law_whats", "_law_due"] ["_law_script"] (defScope kN):=⟨rfl,rfl,rfl,by decide +kernel,rfl,by decide +kernel,by decide +kernel⟩
noncomputable abbrev aU:Stmt:=inClass (top 31) 0
theorem eX:FnScope ["self", "layout", "house", "door", "every"] ["self", "layout", "house", "door"] (defScope aU):=⟨rfl,rfl,rfl,by decide +kernel,rfl,by decide +kernel,by decide +kernel⟩
noncomputable abbrev bi:Stmt:=inClass (top 31) 1
theorem jz:FnScope ["self", "row"] ["self", "row"] (defScope bi):=⟨rfl,rfl,rfl,by decide +kernel,rfl,by decide +kernel,by decide +kernel⟩
noncomputable abbrev bd:Stmt:=inClass (top 31) 2
theorem bC:FnScope ["self", "row", "parts", "part", "number"] ["self", "row"] (defScope bd):=⟨rfl,rfl,rfl,by decide +kernel,rfl,by decide +kernel,by decide +kernel⟩
noncomputable abbrev aT:Stmt:=inClass (top 31) 3
theorem ca:FnScope ["self", "row", "number", "over", "parts"] ["self", "row", "number"] (defScope aT):=⟨rfl,rfl,rfl,by decide +kernel,rfl,by decide +kernel,by decide +kernel⟩
structure Top (K:Frag) (mg:Str->Option Value):Prop where
 nv:Fn K mg "row_meet" jd
 nA:Fn K mg "row_with" ja
 iu:Fn K mg "row_narrowed" cM
 jZ:Fn K mg "heap_width" f8
 iZ:Fn K mg "heap_places" dh
 iA:Fn K mg "layout_width" cF
 jY:Fn K mg "field_span" gE
 o0:Fn K mg "fork_of" cV
 lh:Fn K mg "firsts_of" hU
 gK:Fn K mg "fork_below" gz
 iY:Fn K mg "firsts_side" de
 gJ:Fn K mg "fork_parts" fX
 jX:Fn K mg "is_dropped" gn
 gS:Fn K mg "longest_first" dC
 oX:Fn K mg "way_row" kf
 oW:Fn K mg "door_at" j5
 jV:Fn K mg "gate_rules" gh
 oY:Fn K mg "sent_by" kL
 iw:Fn K mg "house_shares" d4
 rE:Fn K mg "to_row" mS
 lf:Fn K mg "_law_draw" hJ
 j3:Fn K mg "_law_names" cN
 iX:Fn K mg "_law_layout" di
 j0:Fn K mg "_law_width" dM
 lg:Fn K mg "_law_span" ia
 lj:Fn K mg "_law_told" io
 ix:Fn K mg "_law_over_at" cP
 jW:Fn K mg "_law_signs" gH
 lb:Fn K mg "_law_rule" ik
 ll:Fn K mg "_law_ways" fe
 j4:Fn K mg "_law_house" cS
 iy:Fn K mg "_law_letters" bG
 k9:Fn K mg "_law_lies" h7
 iz:Fn K mg "_law_written" cO
 li:Fn K mg "_law_goes" gX
 lm:Fn K mg "_law_does" hZ
 ir:Fn K mg "_law_same" eS
 iB:Fn K mg "_law_copy" dq
 iW:Fn K mg "_law_is_row" dg
 jU:Fn K mg "_law_apart" gD
 fV:Fn K mg "_law_all_apart" cX
 ld:Fn K mg "_law_size" ic
 fj:Fn K mg "_law_what_alike" cE
 ff:Fn K mg "_law_are_shares" bD
 fh:Fn K mg "_law_more_rules" cH
 fT:Fn K mg "_law_long_ways" aV
 zq:Fn K mg "law" kN
 fU:MkT K "Gate" "Gate.__init__" aU
 fS:MethT K "Gate" "parts_of" "Gate.parts_of" bi
 dH:MethT K "Gate" "ruled_parts" "Gate.ruled_parts" bd
 eN:MethT K "Gate" "done_parts" "Gate.done_parts" aT
 c_Gate:ClsT K mg "Gate"
 a_Gate_rules:NoAttr K (xA K "Gate") "rules"
 a_Gate_ways:NoAttr K (xA K "Gate") "ways"
 a_Gate_rules_fork:NoAttr K (xA K "Gate") "rules_fork"
 a_Gate_ways_fork:NoAttr K (xA K "Gate") "ways_fork"
 oZ:mg "zip" = none
 bc:mg "len" = none
 bE:mg "range" = none
 zr:mg "any" = none
 ug:mg "sum" = none
 fg:mg "enumerate" = none
 aB:mg "isinstance" = none
 oV:mg "int" = none
 ny:mg "sorted" = none
 kM:mg "list" = none
 zp:mg "set" = none
 rD:mg "min" = none
 oU:mg "str" = none
 gI:mg "tuple" = none
 xu:mg "all" = none
 nz:mg "bool" = none
 lam_longest_first:∃ c T,LamFn K mg "longest_first" c T
local macro_rules | `(tactic| walk_at "rd")=>`(tactic| try simp only [Ae,Bj,AX,ya,zb,yl,Bi,A3,yT,yA,v5,wY,Ag,zk,yH,yW,A4,AG,Au,Az,AA,y0,yf,yQ,xS,yr,yZ,vm,Ab,A8,uK,ym,AS,wU,AR,Ty.isBl,Ty.isInt,Ty.isStr,Ty.isLst,Ty.isTup,yX,Bh,yK,zR,AH,A9,Ax,AM,A7,Af,xc,AU,zh,xX,A2,zC,Ah,yL,zx,yj,At,xI,AF,zF,yq,yD,zP,xZ,zi,AB,x4,yI,xD,compσ,L2.start,Bd,zL,CDiv,CPow,List.map_cons,List.map_nil,List.length_cons,List.length_nil,List.replicate_succ,List.replicate_zero,List.cons_append,List.nil_append,List.getElem?_cons_zero,List.getElem?_cons_succ,List.set_cons_zero,List.set_cons_succ,Option.getD_some,Option.getD_none,Nat.reduceAdd,Nat.reduceSub,Bool.false_bne,Bool.true_bne,Bool.false_xor,Bool.true_xor,Bool.not_eq_true',decide_eq_true_eq,decide_eq_false_iff_not,Bool.not_true,Bool.not_false,if_true,if_false,true_and,and_true,Int.reduceLT,Int.reduceLE,Nat.reduceLeDiff,Bool.false_eq_true,xM,Ay,zJ,zE,ut,v4,zN,sk,zB,wz,Ai,yy,zK,xU,An,yR,yd,zt,vc,yo,wu,wS,vB,Be,sq,yS,ye,AL,zV,zf,xR,qE,x5,uF,zG,zW,qQ,xV,uI,Aq,ite_not,ar,Bool.true_eq_false,Int.zero_add,reduceIte,ite_true,ite_false])
section
variable {P:Program} {w:World} {K:Frag} {mg:Str->Option Value} {base:Heap}
set_option hygiene false in
local macro_rules | `(tactic| walk_at "el")=>`(tactic| (repeat first | (replace h:=aA.el h; obtain ⟨_,_,rfl,h⟩:=h) | (replace h:=bB.el h; obtain ⟨_,_,rfl,h⟩:=h) | (replace h:=be.el h; obtain ⟨_,_,rfl,h⟩:=h) | (replace h:=on.el h; obtain ⟨_,_,rfl,h⟩:=h) | (replace h:=iQ.el h; obtain ⟨_,_,rfl,h⟩:=h) | (replace h:=aD.el h; obtain ⟨rfl,h⟩:=h)))
noncomputable def wSign (s o:Nat):Nat:=if o=45 then s else o
noncomputable def written (r o:List Nat):List Nat:=(r.zip o).map fun p=>wSign p.1 p.2
theorem eV {r o:List Nat} (h:r.length=o.length):(written r o).length=r.length:=by simp [written,h]
noncomputable def vcode:V->Nat
 | .str x=>x.cps.toList.headD 0
 | _=>0
theorem vI (r o:List Nat):((r.map fun c=>V.str (st [c])).zip (o.map fun c=>V.str (st [c]))).flatMap (fun p=>[V.str (st [wSign (vcode p.1) (vcode p.2)])])=(written r o).map fun k=>V.str (st [k]):=by
 unfold written
 induction r generalizing o with
 | nil=>rfl
 | cons a r ih=>
  cases o with
  | nil=>rfl
  | cons b o=>
   simp only [List.map_cons,List.zip_cons_cons,List.flatMap_cons,ih o];rfl
noncomputable def wayStep (s:List Nat) (a:Int × Option (List Nat)) (w:List Nat × List Nat):Int × Option (List Nat):=if (w.1.length:Int) > a.1/\w.1 <+: s then ((w.1.length:Int),some w.2) else a
noncomputable def wayL (ws:List (List Nat × List Nat)) (s:List Nat):Int × Option (List Nat):=ws.foldl (wayStep s) (-1,none)
noncomputable def doorAt (ws:List (List Nat × List Nat)) (s:List Nat) (n:Nat):Option (List Nat):=(ws.find? fun w=>decide (w.1=s.take n)).map Prod.snd
noncomputable def doorD (ws:List (List Nat × List Nat)) (s:List Nat):Nat->Option (List Nat)
 | 0=>none
 | n+1=>match doorAt ws s n with
  | some d=>some d
  | none=>doorD ws s n
theorem wk {b s:List Nat} {n:Nat} (h:n<=s.length):b=s.take n ↔ b <+: s/\b.length=n:=by
 constructor
 ·rintro rfl;exact ⟨List.take_prefix _ _,by rw [List.length_take]; omega⟩
 ·rintro ⟨h1,rfl⟩;exact List.prefix_iff_eq_take.mp h1
theorem bz (ws:List (List Nat × List Nat)) (w:List Nat × List Nat) (s:List Nat) (n:Nat):doorAt (ws++[w]) s n=(doorAt ws s n).or (if w.1=s.take n then some w.2 else none):=by
 unfold doorAt;rw [List.find?_append];cases h:ws.find? fun w=>decide (w.1=s.take n) with
 | some x=>simp
 | none=>
  by_cases q:w.1=s.take n
  ·simp [q]
  ·simp [q]
def WayOk (ws:List (List Nat × List Nat)) (s:List Nat) (a:Int × Option (List Nat)):Prop:=
 (a=(-1,none)/\∀ n,n<=s.length->doorAt ws s n=none) \/
 ∃ (m:Nat) (d:List Nat),a=((m:Int),some d)/\m<=s.length/\doorAt ws s m=some d/\∀ n,m < n->n<=s.length->doorAt ws s n=none
theorem su {ws:List (List Nat × List Nat)} {s:List Nat} {a:Int × Option (List Nat)} {w:List Nat × List Nat} (h:WayOk ws s a):WayOk (ws++[w]) s (wayStep s a w):=by
 unfold wayStep;by_cases hp:w.1 <+: s
 ·have hl:w.1.length<=s.length:=hp.length_le;have he:w.1=s.take w.1.length:=List.prefix_iff_eq_take.mp hp;have other:∀ n,n<=s.length->n≠w.1.length->¬ w.1=s.take n:=fun n h1 h2 q=>h2 ((wk h1).mp q).2.symm
  rcases h with ⟨rfl,h⟩ | ⟨m,d,rfl,hm,hd,h⟩
  ·rw [if_pos ⟨by show (-1:Int) < _; omega,hp⟩];refine .inr ⟨w.1.length,w.2,rfl,hl,?_,fun n h1 h2=>?_⟩
   ·rw [bz,h _ hl,if_pos he]; rfl
   ·rw [bz,h _ h2,if_neg (other n h2 (by omega))]; rfl
  ·by_cases g:(w.1.length:Int) > (m:Int)
   ·rw [if_pos ⟨g,hp⟩];refine .inr ⟨w.1.length,w.2,rfl,hl,?_,fun n h1 h2=>?_⟩
    ·rw [bz,h _ (by omega) hl,if_pos he]; rfl
    ·rw [bz,h _ (by omega) h2,if_neg (other n h2 (by omega))]; rfl
   ·rw [if_neg (fun q=>g q.1)];refine .inr ⟨m,d,rfl,hm,?_,fun n h1 h2=>?_⟩
    ·rw [bz,hd]; rfl
    ·rw [bz,h n h1 h2,if_neg (other n h2 (by omega))]; rfl
 ·rw [if_neg (fun q=>hp q.2)];have no:∀ n,¬ w.1=s.take n:=fun n q=>hp (q ▸ List.take_prefix _ _)
  rcases h with ⟨rfl,h⟩ | ⟨m,d,rfl,hm,hd,h⟩
  ·exact .inl ⟨rfl,fun n hn=>by rw [bz,h n hn,if_neg (no n)]; rfl⟩
  ·exact .inr ⟨m,d,rfl,hm,by rw [bz,hd]; rfl,fun n h1 h2=>by rw [bz,h n h1 h2,if_neg (no n)]; rfl⟩
theorem mJ (ws:List (List Nat × List Nat)) (s:List Nat):∀ i,WayOk (ws.take i) s (wayL (ws.take i) s)
 | 0=>.inl ⟨rfl,fun _ _=>rfl⟩
 | i+1=>by
  have ih:=mJ ws s i;rw [List.take_add_one];cases e:ws[i]? with
  | none=>simpa using ih
  | some w=>
   unfold wayL at ih ⊢;rw [Option.toList_some,List.foldl_append];exact su ih
theorem kF {ws:List (List Nat × List Nat)} {s:List Nat}:∀ k,(∀ n,n < k->doorAt ws s n=none)->doorD ws s k=none
 | 0,_=>rfl
 | k+1,h=>by
  rw [doorD,h k (by omega)];exact kF k fun n hn=>h n (by omega)
theorem kC {ws:List (List Nat × List Nat)} {s:List Nat} {m:Nat} {d:List Nat} (hd:doorAt ws s m=some d):∀ k,m < k->(∀ n,m < n->n < k->doorAt ws s n=none)->doorD ws s k=some d
 | 0,h,_=>absurd h (by omega)
 | k+1,h,q=>by
  rw [doorD];by_cases e:m=k
  ·subst e; rw [hd]
  ·rw [q k (by omega) (by omega)];exact kC hd k (by omega) fun n h1 h2=>q n h1 (by omega)
theorem wo (ws:List (List Nat × List Nat)) (s:List Nat):(wayL ws s).2=doorD ws s (s.length+1):=by
 have h:=mJ ws s ws.length;rw [List.take_length] at h;rcases h with ⟨e,h⟩ | ⟨m,d,e,hm,hd,h⟩
 ·rw [e,kF _ fun n hn=>h n (by omega)]
 ·rw [e,kC hd _ (by omega) fun n h1 h2=>h n h1 (by omega)]
noncomputable abbrev Fld:=List Nat × Nat
def FldAt (H:Hp) (x:Fld) (v:V):Prop:=∃ t,v=.ref t/\H t=some (.tup [tx x.1,.int x.2])
def Lay (H:Hp) (p:Addr) (ls:List Fld):Prop:=∃ vs,H p=some (.lst vs)/\Paired (FldAt H) ls vs
theorem j8 {H H':Hp} (k:∀ t vs,H t=some (.tup vs)->H' t=some (.tup vs)) {ls:List Fld} {vs:List V} (h:Paired (FldAt H) ls vs):Paired (FldAt H') ls vs:=
 L2.Paired.mapP h fun _ _ ⟨t,e,q⟩=>⟨t,e,k _ _ q⟩
theorem Lay.same {H H':Hp} {p:Addr} {ls:List Fld} (h:Lay H p ls) (s:Same H H'):Lay H' p ls:=by
 obtain ⟨vs,e,pr⟩:=h;exact ⟨vs,s _ _ e,j8 (fun t us q=>s _ _ q) pr⟩
noncomputable def fldD (x:Fld):D:=.t [.f (tx x.1),.f (.int x.2)]
noncomputable def widthL (ls:List Fld):Nat:=(ls.map (·.2)).sum
theorem bW {α β:Type} {F:α -> β -> Prop} {l:List α} {m:List β} (h:Paired F l m):(l.zip m).map (·.2)=m/\∀ x ∈ l.zip m,F x.1 x.2:=by
 induction h with
 | nil=>exact ⟨rfl,fun x hx=>by cases hx⟩
 | cons r _ ih=>exact ⟨by rw [List.zip_cons_cons,List.map_cons,ih.1],fun x hx=>by
   rw [List.zip_cons_cons] at hx;rcases List.mem_cons.mp hx with rfl | hx
   ·exact r
   ·exact ih.2 x hx⟩
theorem eR {α β:Type}:∀ {l:List α} {m:List β},l.length=m.length->(l.zip m).map (·.1)=l
 | [],_,_=>rfl
 | x::l,[],h=>by cases h
 | x::l,y::m,h=>by rw [List.zip_cons_cons,List.map_cons,eR (by simpa using h)]
theorem nu:∀ l:List Nat,(l.map fun n:Nat=>(n:Int)).sum=(l.sum:Nat)
 | []=>rfl
 | x::l=>by rw [List.map_cons,List.sum_cons,List.sum_cons,nu l]; omega
noncomputable def dB (K:Frag):Sp:=aA fun p=>aD fun H Q _=>∃ ls:List Fld,Lay H p ls/\ls.length<=1000/\∀ H',Same H H'->Q (.int (widthL ls:Nat)) H'
theorem gQ (T:Top K mg):Callee P w K mg base 1 "layout_width" ["layout"] (dB K):=by
 refine T.iA.cal lB (by unfold dB; exact LenSp.h) (fun _ _ _ _ _ _ us hl=>match us,hl with | [_],_=>rfl) (fun f cdv A outer s H vs Q E hr h=>?_);unfold dB at h;walk_at "el";refine ⟨_,(af (aq (au (kr K rfl rfl) rfl T.ug sh (aa (aX (nt:=2) (fi:=[]) (N':=["name", "size"]) rfl (cscope rfl (by decide +kernel)) (cnames (N:=["layout"]) (sc:=defScope cF) rfl rfl (by decide +kernel)) (dL (by decide) (by decide)) (iterE K rfl (qv 0)) (fun _ _ _ _ _=>(tupE K rfl rfl (n:=2) (ap (ag (i:=0) (by show (["name", "size"]:List Str).Nodup; decide +kernel) rfl lc) (ap (ag (i:=1) (by show (["name", "size"]:List Str).Nodup; decide +kernel) rfl lc) aP)))) (fun _ _ _ _ _=>aM) (fun _ _ _ _ _=>(qv 1))) ab)))),?_⟩;rename_i p;obtain ⟨ls,⟨vs,e0,pr⟩,hn,q⟩:=h;have hl:=pr.length;obtain ⟨z1,z2⟩:=bW pr;walk_at "rd";refine .inl ⟨⟨_,SqL.of e0⟩,fun D hD=>?_⟩;refine aW (item:=fun x:Fld × V=>x.2) (xs:=ls.zip vs) (h:=fun x=>[V.int x.1.2]) hD (by rw [z1]; exact SqL.of e0) (by rw [List.length_zip]; omega) (fun _=>by simp) ?_ ?_
 ·intro x H1 out non hx s1 ho _;obtain ⟨t,ex,et⟩:=z2 x hx;rw [ex];refine ⟨t,[_,_],rfl,SqT.of (s1 _ _ et),rfl,_,[_],rfl,_,[],rfl,rfl,?_⟩;walk_at "rd";exact ho _ _ rfl (Same.refl _)
 ·intro H1 s1 e1;rw [show (ls.zip vs).flatMap (fun x=>[V.int x.1.2])=(ls.map fun x:Fld=>(x.2:Int)).map V.int by
   rw [<- eR (l:=ls) (m:=vs) hl];simp only [List.map_map];rw [eR hl]
   induction ls.zip vs with
   | nil=>rfl
   | cons x r ih=>rw [List.flatMap_cons,ih]; rfl] at e1
  walk_at "rd";refine ⟨_,SqL.of e1,?_⟩;have:=q H1 s1;unfold widthL at this;rw [show (ls.map fun x:Fld=>(x.2:Int)).sum=((ls.map (·.2)).sum:Nat) by rw [<- nu,List.map_map]; rfl];exact this
noncomputable def spanF:List Fld->List Nat->Nat->Option (Nat × Nat)
 | [],_,_=>none
 | (f,z)::r,n,a=>if f=n then some (a,a+z) else spanF r n (a+z)
theorem dZ:∀ (l r:List Fld) (n:List Nat) (a:Nat),(∀ x ∈ l,¬ x.1=n)->spanF (l++r) n a=spanF r n (a+widthL l)
 | [],r,n,a,_=>rfl
 | (f,z)::l,r,n,a,h=>by
  have h0:¬ f=n:=h (f,z) List.mem_cons_self;rw [List.cons_append,spanF,if_neg h0,dZ l r n (a+z) fun x hx=>h x (List.mem_cons_of_mem _ hx)];unfold widthL;rw [List.map_cons,List.sum_cons,Nat.add_assoc]
noncomputable abbrev Rule:=List Nat × List Nat × List Nat
def RuleAt (H:Hp) (x:Rule) (v:V):Prop:=∃ t,v=.ref t/\H t=some (.tup [tx x.1,tx x.2.1,tx x.2.2])
def Rules (H:Hp) (p:Addr) (rs:List Rule):Prop:=∃ vs,H p=some (.lst vs)/\Paired (RuleAt H) rs vs
theorem cz {H H':Hp} (k:∀ t vs,H t=some (.tup vs)->H' t=some (.tup vs)) {rs:List Rule} {vs:List V} (h:Paired (RuleAt H) rs vs):Paired (RuleAt H') rs vs:=
 L2.Paired.mapP h fun _ _ ⟨t,e,q⟩=>⟨t,e,k _ _ q⟩
theorem cg {H:Hp} {g:Addr} {xs ys:List V} (h:H g=some (.lst xs)):∀ t vs,H t=some (.tup vs)->upd H g (.lst ys) t=some (.tup vs):=fun t vs q=>by
 rw [ao (fun e=>by rw [e,h] at q; cases q)];exact q
theorem Rules.same {H H':Hp} {p:Addr} {rs:List Rule} (h:Rules H p rs) (s:Same H H'):Rules H' p rs:=by
 obtain ⟨vs,e,pr⟩:=h;exact ⟨vs,s _ _ e,cz (fun t us q=>s _ _ q) pr⟩
noncomputable def ruleD (x:Rule):D:=.t [.f (tx x.1),.f (tx x.2.1),.f (tx x.2.2)]
noncomputable def firstR (rs:List Rule) (l:List Nat):Nat:=rs.findIdx fun r=>within l r.1
noncomputable def dropT:List Nat:=[100,114,111,112]
noncomputable def passT:List Nat:=[112,97,115,115]
noncomputable def dropB (rs:List Rule) (k:Nat):Bool:=match rs[k]? with
 | some r=>decide (r.2.1=dropT)
 | none=>true
noncomputable def fH (K:Frag):Sp:=aA fun p=>bB fun k=>aD fun H Q _=>∃ (rs:List Rule) (j:Nat),Rules H p rs/\k=(j:Int)/\j<=rs.length/\Q (.bl (dropB rs j)) H
theorem nJ (T:Top K mg):Callee P w K mg base 1 "is_dropped" ["rules", "number"] (fH K):=by
 refine T.jX.cal nI (by unfold fH; exact LenSp.h) (fun _ _ _ _ _ _ us hl=>match us,hl with | [_,_],_=>rfl) (fun f cdv A outer s H vs Q E hr h=>?_);unfold fH at h;walk_at "el";refine ⟨_,(af (aq (A6 (dY ba (qv 1) (au (lenE K rfl) rfl T.bc aL (aa (qv 0) ab))) (jb (dY ba (az (ixE K rfl) (az (ixE K rfl) (qv 0) (qv 1) (fun _ _=>rfl)) ad (fun _ _=>rfl)) (qs [100,114,111,112])))))),?_⟩;rename_i p k;obtain ⟨rs,j,⟨vs,e0,pr⟩,rfl,hj,q⟩:=h;have hlv:=pr.length;walk_at "rd";refine ⟨vs,.inl (SqL.of e0),ite2 (fun g=>?_) fun g=>?_⟩
 ·have e:rs[j]? = none:=List.getElem?_eq_none (by omega);have:dropB rs j=true:=by unfold dropB; rw [e]
  rw [this] at q;exact q
 have hjl:j < rs.length:=by omega
 obtain ⟨y,hy,t',ey,et⟩:=aN pr (List.getElem?_eq_getElem hjl);subst ey;refine ⟨vs,_,.inl (SqL.of e0),bR hy,?_⟩;walk_at "rd";refine ⟨_,_,.inr (SqT.of et),rfl,?_⟩;walk_at "rd";have:dropB rs j=decide (rs[j].2.1=dropT):=by unfold dropB; rw [List.getElem?_eq_getElem hjl]
 rw [this] at q;exact q
noncomputable abbrev Way:=List Nat × List Nat
def WayAt (H:Hp) (x:Way) (v:V):Prop:=∃ t,v=.ref t/\H t=some (.tup [tx x.1,tx x.2])
def Ways (H:Hp) (p:Addr) (ws:List Way):Prop:=∃ vs,H p=some (.lst vs)/\Paired (WayAt H) ws vs
theorem ku {H H':Hp} (k:∀ t vs,H t=some (.tup vs)->H' t=some (.tup vs)) {ws:List Way} {vs:List V} (h:Paired (WayAt H) ws vs):Paired (WayAt H') ws vs:=
 L2.Paired.mapP h fun _ _ ⟨t,e,q⟩=>⟨t,e,k _ _ q⟩
theorem Ways.same {H H':Hp} {p:Addr} {ws:List Way} (h:Ways H p ws) (s:Same H H'):Ways H' p ws:=by
 obtain ⟨vs,e,pr⟩:=h;exact ⟨vs,s _ _ e,ku (fun t us q=>s _ _ q) pr⟩
theorem eU {α β:Type} {F:α -> β -> Prop} {l:List α} {m:List β} {x:α} {y:β} (h:Paired F l m) (r:F x y):Paired F (l++[x]) (m++[y]):=by
 induction h with
 | nil=>exact .cons r .nil
 | cons r' _ ih=>exact .cons r' ih
noncomputable def wayD (x:Way):D:=.t [.f (tx x.1),.f (tx x.2)]
noncomputable def optV:Option (List Nat)->V
 | none=>.non
 | some d=>tx d
noncomputable abbrev Gate:=List Nat × List Rule
noncomputable abbrev House:=List Gate × List Way
def GateAt (H:Hp) (x:Gate) (v:V):Prop:=∃ t p,v=.ref t/\H t=some (.tup [tx x.1,.ref p])/\Rules H p x.2
def Gates (H:Hp) (p:Addr) (gs:List Gate):Prop:=∃ vs,H p=some (.lst vs)/\Paired (GateAt H) gs vs
def HouseAt (H:Hp) (t:Addr) (h:House):Prop:=∃ g w,H t=some (.tup [.ref g,.ref w])/\Gates H g h.1/\Ways H w h.2
theorem Gates.same {H H':Hp} {p:Addr} {gs:List Gate} (h:Gates H p gs) (s:Same H H'):Gates H' p gs:=by
 obtain ⟨vs,e,pr⟩:=h;exact ⟨vs,s _ _ e,L2.Paired.mapP pr fun _ _ ⟨t,q,e,h1,h2⟩=>⟨t,q,e,s _ _ h1,h2.same s⟩⟩
theorem HouseAt.same {H H':Hp} {t:Addr} {h:House} (x:HouseAt H t h) (s:Same H H'):HouseAt H' t h:=by
 obtain ⟨g,w,e,h1,h2⟩:=x;exact ⟨g,w,s _ _ e,h1.same s,h2.same s⟩
noncomputable def gateOf (gs:List Gate) (n:List Nat):Option (List Rule):=(gs.find? fun g=>decide (g.1=n)).map (·.2)
noncomputable def lostT:List Nat:=[108,111,115,116]
noncomputable def sentW:List Nat:=[115,101,110,116]
noncomputable def toT:List Nat:=[116,111]
noncomputable def sentV:Option (List Nat)->List Nat->List V
 | none,_=>[tx lostT]
 | some d,s=>[tx sentW,tx d,tx s]
noncomputable def je:Sp:=iQ fun d=>be fun s=>aD fun H Q _=>∃ o:Option (List Nat),d=optV o/\∀ t H',H t=none->Same H H'->H' t=some (.tup (sentV o s.cps.toList))->Q (.ref t) H'
theorem rP (T:Top K mg):Callee P w K mg base 1 "sent_by" ["door", "thing"] je:=by
 refine T.oY.cal sK (by unfold je; exact LenSp.h) (fun _ _ _ _ _ _ us hl=>match us,hl with | [_,_],_=>rfl) (fun f cdv A outer s H vs Q E hr h=>?_);unfold je at h;walk_at "el";refine ⟨_,(af (aq (dm (aw sR (qv 0) kD) (aS (aa (qs [108,111,115,116]) ab)) (aS (aa (qs [115,101,110,116]) (aa (qv 0) (aa (qv 1) ab))))))),?_⟩;rename_i d s;obtain ⟨l,rfl⟩:∃ x,s=st x:=⟨_,(aF s).symm⟩;obtain ⟨o,rfl,q⟩:=h;simp only [ar] at q;cases o with
 | none=>
  unfold optV;walk_at "rd";exact ⟨by decide,fun t ht=>q t _ ht (ae ht _) upd_same⟩
 | some d=>
  unfold optV;walk_at "rd";exact ⟨by decide,fun t ht=>q t _ ht (ae ht _) upd_same⟩
noncomputable def sentT (rs:List Rule) (l:List Nat):List Nat:=written l ((rs[firstR rs l]?.map (·.2.2)).getD [])
noncomputable def partT (ls:List Fld) (r:List Nat):List Nat:=match spanF ls toT 0 with
 | some (a,b)=>(r.drop a).take (b - a)
 | none=>[]
noncomputable def doesV (ls:List Fld) (rs:List Rule) (ws:List Way) (l:List Nat):List V:=
 if dropB rs (firstR rs l) then [tx dropT,.int (firstR rs l:Nat)] else sentV (wayL ws (partT ls (sentT rs l))).2 (sentT rs l)
structure Meet (ls:List Fld) (rs:List Rule) (ws:List Way) (n:Nat):Prop where
 wide:n<=1000
 over:∀ r ∈ rs,r.2.2.length=n
 ways:∀ x ∈ ws,x.1.length<=1000
 to:∃ a b,spanF ls toT 0=some (a,b)/\b<=n
theorem qG:∀ (l:List Fld) (n:List Nat) (a x y:Nat),spanF l n a=some (x,y)->x<=y
 | [],_,_,_,_,h=>by cases h
 | (f,z)::l,n,a,x,y,h=>by
  rw [spanF] at h;split at h
  ·cases h; omega
  ·exact qG l n _ x y h
noncomputable def fk (K:Frag):Sp:=aA fun p=>be fun n=>aD fun H Q _=>∃ (ls:List Fld) (a b:Nat),Lay H p ls/\spanF ls n.cps.toList 0=some (a,b)/\∀ t H',H t=none->Same H H'->H' t=some (.tup [.int (a:Nat),.int (b:Nat)])->Q (.ref t) H'
theorem nX (T:Top K mg):Callee P w K mg base 1 "field_span" ["layout", "name"] (fk K):=by
 refine T.jY.cal ck (by unfold fk; exact LenSp.h) (fun _ _ _ _ _ _ us hl=>match us,hl with | [_,_],_=>rfl) (fun f cdv A outer s H vs Q E hr h=>?_);unfold fk at h;walk_at "el";refine ⟨_,(ac (ai (i:=2) ck.nd rfl lc ad)
   (ac (bf PassesOwn.never rfl (iterE K rfl (qv 0)) (tupE K rfl rfl (n:=2) (ap (ag (i:=3) ck.nd rfl lc) (ap (ag (i:=4) ck.nd rfl lc) aP))) (ac (aJ (aw ba (qv 3) (qv 1)) (af (aq (aS (aa (qv 2) (aa (am aj (qv 2) (qv 4)) ab))))) av)
   (af (ai (i:=2) ck.nd rfl lc (am aj (qv 2) (qv 4))))))
   (af n6))),?_⟩
 rename_i p s;obtain ⟨n,rfl⟩:∃ x,s=st x:=⟨_,(aF s).symm⟩;obtain ⟨ls,fa,fb,⟨vs,e0,pr⟩,hsp,q1⟩:=h;simp only [ar] at hsp;have hl:=pr.length;walk_at "rd";refine .inl ⟨⟨_,SqL.of e0⟩,?_⟩;refine bN (xs:=vs) (fun i σ H'=>∃ u v,σ = [some (.ref p),some (.str (st n)),some (.int (widthL (ls.take i):Nat)),u,v]/\Same H H'/\∀ x ∈ ls.take i,¬ x.1=n) ⟨none,none,rfl,Same.refl _,fun x hx=>by simp at hx⟩ (fun i σ H' _ ⟨_,_,_,z,_⟩=>SqL.of (z _ _ e0)) ?_ ?_
 ·rintro i x σ H1 hx ⟨u,v,rfl,s1,h1⟩;have hi:i < vs.length:=(List.getElem?_eq_some_iff.mp hx).1;have hil:i < ls.length:=by omega
  obtain ⟨y,hy,t,ey,et⟩:=aN pr (List.getElem?_eq_getElem hil);obtain rfl:x=.ref t:=by rw [hy] at hx; rw [<- Option.some.inj hx,ey]
  refine ⟨t,[_,_],rfl,SqT.of (s1 _ _ et),rfl,_,[_],rfl,_,[],rfl,rfl,?_⟩;walk_at "rd";have sp:spanF ls n 0=spanF (ls.drop i) n (0+widthL (ls.take i)):=by
   have:=dZ (ls.take i) (ls.drop i) n 0 h1;rw [List.take_append_drop] at this;exact this
  rw [List.drop_eq_getElem_cons hil,Nat.zero_add] at sp;have w1:widthL (ls.take (i+1))=widthL (ls.take i)+ls[i].2:=by
   unfold widthL;rw [List.take_add_one,List.getElem?_eq_getElem hil,Option.toList_some,List.map_append,List.sum_append];simp
  refine ite2 (fun g=>⟨by decide,fun t2 ht2=>?_⟩) fun g=>⟨some (tx ls[i].1),some (.int ls[i].2),?_,s1,fun y hy=>?_⟩
  ·have e2:spanF ls n 0=some (widthL (ls.take i),widthL (ls.take i)+ls[i].2):=by rw [sp,show ls[i]=(ls[i].1,ls[i].2) from rfl,spanF,if_pos g]
   rw [hsp] at e2;cases e2;refine q1 t2 _ (s1.free ht2) (s1.trans (ae ht2 _)) ?_;rw [upd_same];simp
  ·rw [w1];simp
  ·rw [List.take_add_one,List.getElem?_eq_getElem hil] at hy;rcases List.mem_append.mp hy with hy | hy
   ·exact h1 y hy
   ·have e:y=ls[i]:=by simpa using hy
    rw [e];exact g
 ·rintro σ H1 ⟨u,v,rfl,s1,h1⟩;walk_at "rd";have e:=dZ ls [] n 0 fun x hx=>h1 x (by rw [<- hl,List.take_length]; exact hx)
  rw [List.append_nil,hsp] at e;cases e
noncomputable def fq (K:Frag):Sp:=aA fun t=>be fun n=>aD fun H Q _=>∃ (h:House) (rs:List Rule),HouseAt H t h/\gateOf h.1 n.cps.toList=some rs/\∀ p H',Same H H'->Rules H' p rs->Q (.ref p) H'
theorem nM (T:Top K mg):Callee P w K mg base 1 "gate_rules" ["house", "door"] (fq K):=by
 refine T.jV.cal fu (by unfold fq; exact LenSp.h) (fun _ _ _ _ _ _ us hl=>match us,hl with | [_,_],_=>rfl) (fun f cdv A outer s H vs Q E hr h=>?_);unfold fq at h;walk_at "el";refine ⟨_,(ac (bf PassesOwn.never rfl (iterE K rfl (az (ixE K rfl) (qv 0) ad (fun _ _=>rfl))) (tupE K rfl rfl (n:=2) (ap (ag (i:=2) fu.nd rfl lc) (ap (ag (i:=3) fu.nd rfl lc) aP))) (af (aJ (aw ba (qv 2) (qv 1)) (af (aq (qv 3))) av)))
   (af n6)),?_⟩
 rename_i p s;obtain ⟨n,rfl⟩:∃ x,s=st x:=⟨_,(aF s).symm⟩;obtain ⟨hs,rs,⟨g,w,e,⟨vs,e0,pr⟩,hw⟩,hgr,q1⟩:=h;simp only [ar] at hgr;have hl:=pr.length;walk_at "rd";refine ⟨_,_,.inr (SqT.of e),rfl,?_⟩;walk_at "rd";refine .inl ⟨⟨_,SqL.of e0⟩,?_⟩;refine bN (xs:=vs) (fun i σ H'=>∃ u v,σ = [some (.ref p),some (.str (st n)),u,v]/\Same H H'/\∀ x ∈ hs.1.take i,¬ x.1=n) ⟨none,none,rfl,Same.refl _,fun x hx=>by simp at hx⟩ (fun i σ H' _ ⟨_,_,_,z,_⟩=>SqL.of (z _ _ e0)) ?_ ?_
 ·rintro i x σ H1 hx ⟨u,v,rfl,s1,h1⟩;have hi:i < vs.length:=(List.getElem?_eq_some_iff.mp hx).1;have hil:i < hs.1.length:=by omega
  obtain ⟨y,hy,t,r,ey,et,hr⟩:=aN pr (List.getElem?_eq_getElem hil);obtain rfl:x=.ref t:=by rw [hy] at hx; rw [<- Option.some.inj hx,ey]
  refine ⟨t,[_,_],rfl,SqT.of (s1 _ _ et),rfl,_,[_],rfl,_,[],rfl,rfl,?_⟩;walk_at "rd";refine ite2 (fun g=>?_) fun g=>⟨some (tx hs.1[i].1),some (.ref r),rfl,s1,fun y hy=>?_⟩
  ·have e2:gateOf hs.1 n=some hs.1[i].2:=by
    unfold gateOf;rw [show hs.1.find? (fun g=>decide (g.1=n))=some hs.1[i] from List.find?_eq_some_iff_append.mpr ⟨by simpa using g,hs.1.take i,hs.1.drop (i+1),by simp,fun y hy=>by simpa using h1 y hy⟩];rfl
   rw [hgr] at e2;cases e2;exact q1 r H1 s1 (hr.same s1)
  ·rw [List.take_add_one,List.getElem?_eq_getElem hil] at hy;rcases List.mem_append.mp hy with hy | hy
   ·exact h1 y hy
   ·have e:y=hs.1[i]:=by simpa using hy
    rw [e];exact g
 ·rintro σ H1 ⟨u,v,rfl,s1,h1⟩;walk_at "rd";unfold gateOf at hgr;rw [List.find?_eq_none.mpr fun y hy=>by simpa using h1 y (by rw [<- hl,List.take_length]; exact hy)] at hgr;cases hgr
noncomputable def gG:Sp:=be fun a=>be fun b=>aD fun H Q _=>∀ H',Same H H'->Q (.bl (within b.cps.toList a.cps.toList)) H'
theorem gb (T:Top K mg):Callee P w K mg base 1 "_law_lies" ["_law_row", "_law_letter"] gG:=by
 refine T.k9.cal gC (by unfold gG; exact LenSp.h) (fun _ _ _ _ _ _ us hl=>match us,hl with | [_,_],_=>rfl) (fun f cdv A outer s H vs Q E hr h=>?_);unfold gG at h;walk_at "el";refine ⟨_,(ac (bf PassesOwn.never rfl (zipE K rfl rfl T.oZ (qv 0) (qv 1)) (tupE K rfl rfl (n:=2) (ap (ag (i:=2) gC.nd rfl lc) (ap (ag (i:=3) gC.nd rfl lc) aP))) (af (aJ (PW.pt (fB (aw cw (qv 2) (qs [45])) (gr (aw cw (qv 2) (qv 3))))) (af (aq eB)) av)))
   (af (aq eB))),?_⟩
 rename_i a b;obtain ⟨x,rfl⟩:∃ x,a=st x:=⟨_,(aF a).symm⟩;obtain ⟨y,rfl⟩:∃ y,b=st y:=⟨_,(aF b).symm⟩;walk_at "rd";refine mv (xs:=x.map fun c=>V.str (st [c])) (ys:=y.map fun c=>V.str (st [c])) (fun i σ H'=>∃ u v,σ = [some (.str (st x)),some (.str (st y)),u,v]/\Same H H'/\within (y.take i) (x.take i)=true) ⟨none,none,rfl,Same.refl _,by simp [within]⟩
  (fun i σ H' _=>⟨rfl,rfl⟩) ?_ ?_
 ·rintro i c d σ H1 p hx hy ⟨u,v,rfl,s1,e1⟩ hp;rw [List.getElem?_map] at hx hy;obtain ⟨c,hc,rfl⟩:=Option.map_eq_some_iff.mp hx;obtain ⟨d,hd,rfl⟩:=Option.map_eq_some_iff.mp hy;walk_at "rd";have s2:Same H (upd H1 p (.tup [V.str (st [c]),V.str (st [d])])):=s1.trans (ae hp _);have bad:¬ c=45->¬ c=d->within y x=false:=fun h1 h2=>by
   unfold within;rw [Bool.eq_false_iff];intro z;rw [List.all_eq_true] at z;have:=z (d,c) (List.mem_of_getElem? (List.getElem?_zip_eq_some.mpr ⟨hd,hc⟩));simp [h1,h2] at this
  have good:c=45\/c=d->within (y.take (i+1)) (x.take (i+1))=true:=fun h=>by
   unfold within at e1 ⊢;rw [List.take_succ,List.take_succ,hc,hd];have hl:(y.take i).length=(x.take i).length:=by
    have:=(List.getElem?_eq_some_iff.mp hc).1;have:=(List.getElem?_eq_some_iff.mp hd).1;simp; omega
   rw [List.zip_append hl,List.all_append,e1];simpa using h
  refine ite2 (fun h1=>?_) fun h1=>ite2 (fun h2=>?_) fun h2=>?_
  ·exact ⟨_,_,rfl,s2,good (.inl h1)⟩
  ·exact ⟨_,_,rfl,s2,good (.inr h2)⟩
  ·have:=h _ s2;simp only [ar,bad h1 h2] at this;exact this
 ·rintro σ H1 ⟨u,v,rfl,s1,e1⟩;walk_at "rd";have e2:within y x=true:=by
   simp only [List.length_map] at e1;unfold within at e1 ⊢;rw [List.all_eq_true] at e1 ⊢;rintro ⟨d,c⟩ hm;obtain ⟨i,hi⟩:=List.mem_iff_getElem?.mp hm;obtain ⟨h1,h2⟩:=List.getElem?_zip_eq_some.mp hi;have l1:=(List.getElem?_eq_some_iff.mp h1).1;have l2:=(List.getElem?_eq_some_iff.mp h2).1;refine e1 (d,c) (List.mem_of_getElem? (i:=i) (List.getElem?_zip_eq_some.mpr ⟨?_,?_⟩))
   ·rw [List.getElem?_take_of_lt (by omega)]; exact h1
   ·rw [List.getElem?_take_of_lt (by omega)]; exact h2
  have:=h _ s1;simp only [ar,e2] at this;exact this
noncomputable def dw:Sp:=be fun a=>be fun b=>aD fun H Q _=>a.cps.toList.length<=1000/\∀ H',Same H H'->Q (.str (st (written a.cps.toList b.cps.toList))) H'
theorem gO (T:Top K mg):Callee P w K mg base 1 "_law_written" ["_law_letter", "_law_over"] dw:=by
 refine T.iz.cal lF (by unfold dw; exact LenSp.h) (fun _ _ _ _ _ _ us hl=>match us,hl with | [_,_],_=>rfl) (fun f cdv A outer s H vs Q E hr h=>?_);unfold dw at h;walk_at "el";refine ⟨_,(af (aq (joinE K rfl (aX (nt:=2) (fi:=[]) (N':=["_law_own", "_law_sign"]) rfl (cscope rfl (by decide +kernel)) (cnames (N:=["_law_letter", "_law_over"]) (sc:=defScope cO) rfl rfl (by decide +kernel)) (dL (by decide) (by decide)) (zipE K rfl rfl T.oZ (qv 0) (qv 1)) (fun _ _ _ _ _=>(tupE K rfl rfl (n:=2) (ap (ag (i:=0) (by show (["_law_own", "_law_sign"]:List Str).Nodup; decide +kernel) rfl lc) (ap (ag (i:=1) (by show (["_law_own", "_law_sign"]:List Str).Nodup; decide +kernel) rfl lc) aP)))) (fun _ _ _ _ _=>aM) (fun _ _ _ _ _=>(dm (aw ba (qv 1) (qs [45])) (qv 0) (qv 1))))))),?_⟩;rename_i a b;obtain ⟨r,rfl⟩:∃ x,a=st x:=⟨_,(aF a).symm⟩;obtain ⟨o,rfl⟩:∃ x,b=st x:=⟨_,(aF b).symm⟩;obtain ⟨h1,q⟩:=h;simp only [ar] at h1 q;walk_at "rd";intro D hD;refine v6 (us:=r.map fun c=>V.str (st [c])) (ws:=o.map fun c=>V.str (st [c])) (h:=fun x y=>[V.str (st [wSign (vcode x) (vcode y)])]) hD (fun _ _=>rfl) (fun _ _=>rfl) (by simp; omega) (fun _ _=>by simp) ?_ ?_
 ·intro x y H1 out non hm s1 ho hn;obtain ⟨hx,hy⟩:=List.of_mem_zip hm;obtain ⟨c,_,rfl⟩:=List.mem_map.mp hx;obtain ⟨d,_,rfl⟩:=List.mem_map.mp hy;walk_at "rd";refine ite2 (fun h4=>?_) fun h4=>?_
  ·exact ho _ _ (by simp [wSign,vcode,h4]) (Same.refl _)
  ·exact ho _ _ (by simp [wSign,vcode,h4]) (Same.refl _)
 ·intro H1 s1 e1;rw [vI] at e1;exact ⟨_,SqL.of e1,by simp [written]; omega,q H1 s1⟩
noncomputable def fm (K:Frag):Sp:=aA fun p=>aD fun H Q _=>∃ ls:List Fld,Lay H p ls/\ls.length<=1000/\∀ H',Same H H'->Q (.int (widthL ls:Nat)) H'
theorem ft (T:Top K mg):Callee P w K mg base 1 "_law_width" ["_law_layout_here"] (fm K):=by
 refine T.j0.cal nK (by unfold fm; exact LenSp.h) (fun _ _ _ _ _ _ us hl=>match us,hl with | [_],_=>rfl) (fun f cdv A outer s H vs Q E hr h=>?_);unfold fm at h;walk_at "el";refine ⟨_,(af (aq (au (kr K rfl rfl) rfl T.ug sh (aa (aX (nt:=2) (fi:=[]) (N':=["_law_name", "_law_size_here"]) rfl (cscope rfl (by decide +kernel)) (cnames (N:=["_law_layout_here"]) (sc:=defScope dM) rfl rfl (by decide +kernel)) (dL (by decide) (by decide)) (iterE K rfl (qv 0)) (fun _ _ _ _ _=>(tupE K rfl rfl (n:=2) (ap (ag (i:=0) (by show (["_law_name", "_law_size_here"]:List Str).Nodup; decide +kernel) rfl lc) (ap (ag (i:=1) (by show (["_law_name", "_law_size_here"]:List Str).Nodup; decide +kernel) rfl lc) aP)))) (fun _ _ _ _ _=>aM) (fun _ _ _ _ _=>(qv 1))) ab)))),?_⟩;rename_i p;obtain ⟨ls,⟨vs,e0,pr⟩,hn,q⟩:=h;have hl:=pr.length;obtain ⟨z1,z2⟩:=bW pr;walk_at "rd";refine .inl ⟨⟨_,SqL.of e0⟩,fun D hD=>?_⟩;refine aW (item:=fun x:Fld × V=>x.2) (xs:=ls.zip vs) (h:=fun x=>[V.int x.1.2]) hD (by rw [z1]; exact SqL.of e0) (by rw [List.length_zip]; omega) (fun _=>by simp) ?_ ?_
 ·intro x H1 out non hx s1 ho _;obtain ⟨t,ex,et⟩:=z2 x hx;rw [ex];refine ⟨t,[_,_],rfl,SqT.of (s1 _ _ et),rfl,_,[_],rfl,_,[],rfl,rfl,?_⟩;walk_at "rd";exact ho _ _ rfl (Same.refl _)
 ·intro H1 s1 e1;rw [show (ls.zip vs).flatMap (fun x=>[V.int x.1.2])=(ls.map fun x:Fld=>(x.2:Int)).map V.int by
   rw [<- eR (l:=ls) (m:=vs) hl];simp only [List.map_map];rw [eR hl]
   induction ls.zip vs with
   | nil=>rfl
   | cons x r ih=>rw [List.flatMap_cons,ih]; rfl] at e1
  walk_at "rd";refine ⟨_,SqL.of e1,?_⟩;have:=q H1 s1;unfold widthL at this;rw [show (ls.map fun x:Fld=>(x.2:Int)).sum=((ls.map (·.2)).sum:Nat) by rw [<- nu,List.map_map]; rfl];exact this
noncomputable def spanG (ls:List Fld):Nat × Nat:=(spanF ls toT 0).getD (0,0)
noncomputable def gc (K:Frag):Sp:=aA fun p=>aD fun H Q _=>∃ ls:List Fld,Lay H p ls/\∀ t H',H t=none->Same H H'->H' t=some (.tup [.int ((spanG ls).1:Nat),.int ((spanG ls).2:Nat)])->Q (.ref t) H'
theorem dW (T:Top K mg):Callee P w K mg base 1 "_law_span" ["_law_layout_here"] (gc K):=by
 refine T.lg.cal cK (by unfold gc; exact LenSp.h) (fun _ _ _ _ _ _ us hl=>match us,hl with | [_],_=>rfl) (fun f cdv A outer s H vs Q E hr h=>?_);unfold gc at h;walk_at "el";refine ⟨_,(ac (ai (i:=1) cK.nd rfl lc ad)
   (ac (bf PassesOwn.never rfl (iterE K rfl (qv 0)) (tupE K rfl rfl (n:=2) (ap (ag (i:=2) cK.nd rfl lc) (ap (ag (i:=3) cK.nd rfl lc) aP))) (ac (aJ (aw ba (qv 2) (qs [116,111])) (af (aq (aS (aa (qv 1) (aa (am aj (qv 1) (qv 3)) ab))))) av)
   (af (ai (i:=1) cK.nd rfl lc (am aj (qv 1) (qv 3))))))
   (af (aq (aS (aa ad (aa ad ab))))))),?_⟩
 rename_i p;obtain ⟨ls,⟨vs,e0,pr⟩,q1⟩:=h;have hl:=pr.length;walk_at "rd";refine .inl ⟨⟨_,SqL.of e0⟩,?_⟩;refine bN (xs:=vs) (fun i σ H'=>∃ u v,σ = [some (.ref p),some (.int (widthL (ls.take i):Nat)),u,v]/\Same H H'/\∀ x ∈ ls.take i,¬ x.1=toT) ⟨none,none,rfl,Same.refl _,fun x hx=>by simp at hx⟩ (fun i σ H' _ ⟨_,_,_,z,_⟩=>SqL.of (z _ _ e0)) ?_ ?_
 ·rintro i x σ H1 hx ⟨u,v,rfl,s1,h1⟩;have hi:i < vs.length:=(List.getElem?_eq_some_iff.mp hx).1;have hil:i < ls.length:=by omega
  obtain ⟨y,hy,t,ey,et⟩:=aN pr (List.getElem?_eq_getElem hil);obtain rfl:x=.ref t:=by rw [hy] at hx; rw [<- Option.some.inj hx,ey]
  refine ⟨t,[_,_],rfl,SqT.of (s1 _ _ et),rfl,_,[_],rfl,_,[],rfl,rfl,?_⟩;walk_at "rd";have sp:spanF ls toT 0=spanF (ls.drop i) toT (0+widthL (ls.take i)):=by
   have:=dZ (ls.take i) (ls.drop i) toT 0 h1;rw [List.take_append_drop] at this;exact this
  rw [List.drop_eq_getElem_cons hil,Nat.zero_add] at sp;have w1:widthL (ls.take (i+1))=widthL (ls.take i)+ls[i].2:=by
   unfold widthL;rw [List.take_add_one,List.getElem?_eq_getElem hil,Option.toList_some,List.map_append,List.sum_append];simp
  refine ite2 (fun g=>⟨by decide,fun t2 ht2=>?_⟩) fun g=>⟨some (tx ls[i].1),some (.int ls[i].2),?_,s1,fun y hy=>?_⟩
  ·refine q1 t2 _ (s1.free ht2) (s1.trans (ae ht2 _)) ?_;have e:spanG ls=(widthL (ls.take i),widthL (ls.take i)+ls[i].2):=by
    unfold spanG;rw [sp,show ls[i]=(ls[i].1,ls[i].2) from rfl,spanF,if_pos (show ls[i].1=toT from g)];rfl
   rw [upd_same,e];simp
  ·rw [w1];simp
  ·rw [List.take_add_one,List.getElem?_eq_getElem hil] at hy;rcases List.mem_append.mp hy with hy | hy
   ·exact h1 y hy
   ·have e:y=ls[i]:=by simpa using hy
    rw [e];exact g
 ·rintro σ H1 ⟨u,v,rfl,s1,h1⟩;walk_at "rd";have e:spanF ls toT 0=none:=by
   have:=dZ ls [] toT 0 fun x hx=>h1 x (by rw [<- hl,List.take_length]; exact hx)
   rw [List.append_nil] at this;exact this
  refine ⟨by decide,fun t2 ht2=>q1 t2 _ (s1.free ht2) (s1.trans (ae ht2 _)) ?_⟩;rw [upd_same];unfold spanG;rw [e];rfl
noncomputable def fZ (K:Frag):Sp:=aA fun p=>aA fun v=>be fun l=>aD fun H Q _=>∃ (ls:List Fld) (ws:List Way) (a b:Nat),Lay H p ls/\Ways H v ws/\(∀ x ∈ ws,x.1.length<=1000)/\l.cps.toList.length<=1000/\spanF ls toT 0=some (a,b)/\b<=l.cps.toList.length /\
   ∀ t H',Same H H'->H' t=some (.tup (sentV (wayL ws (partT ls l.cps.toList)).2 l.cps.toList))->Q (.ref t) H'
theorem qd (T:Top K mg):Callee P w K mg base 2 "_law_goes" ["_law_layout_here", "_law_ways_here", "_law_letter"] (fZ K):=by
 refine T.li.cal bq (by unfold fZ; exact LenSp.h) (fun _ _ _ _ _ _ us hl=>match us,hl with | [_,_,_],_=>rfl) (fun f cdv A outer s H vs Q E hr h=>?_);unfold fZ at h;walk_at "el";refine ⟨_,(ac (jf (ak (dW T) hr.m rfl (aa (qv 0) ab)) (seqE K rfl rfl (n:=2) (ap (ag (i:=3) bq.nd rfl lc) (ap (ag (i:=4) bq.nd rfl lc) aP))))
   (ac (ai (i:=5) bq.nd rfl lc (rG ad))
   (ac (ai (i:=6) bq.nd rfl lc (aS (aa (qs [108,111,115,116]) ab)))
   (ac (bf PassesOwn.never rfl (iterE K rfl (qv 1)) (tupE K rfl rfl (n:=2) (ap (ag (i:=7) bq.nd rfl lc) (ap (ag (i:=8) bq.nd rfl lc) aP))) (af (aJ (PW.pt (fB (bx (vn (bA slB (qv 2) (bF (qv 3)) (bF (qv 4))) (qv 7))) (gr (aw js (au (lenE K rfl) rfl T.bc aL (aa (qv 7) ab)) (qv 5))))) (ac (ai (i:=5) bq.nd rfl lc (au (lenE K rfl) rfl T.bc aL (aa (qv 7) ab)))
   (af (ai (i:=6) bq.nd rfl lc (aS (aa (qs [115,101,110,116]) (aa (qv 8) (aa (qv 2) ab))))))) av)))
   (af (aq (qv 6))))))),?_⟩
 rename_i p v s;obtain ⟨l,rfl⟩:∃ x,s=st x:=⟨_,(aF s).symm⟩;obtain ⟨ls,ws,a,b,hL,hW,hw,hl,hsp,hb,q⟩:=h;simp only [ar] at q hl hb;have hab:=qG ls toT 0 a b hsp;have eG:spanG ls=(a,b):=by unfold spanG; rw [hsp]; rfl
 have eP:partT ls l=(l.drop a).take (b - a):=by unfold partT; rw [hsp]
 walk_at "rd";refine ⟨ls,hL,fun t1 H1 ht1 s1 e1=>?_⟩;rw [eG] at e1;refine ⟨[_,_],.inr (SqT.of e1),rfl,_,[_],rfl,_,[],rfl,rfl,?_⟩;walk_at "rd";refine ⟨by decide,fun t2 ht2=>?_⟩;have s2:=s1.trans (ae ht2 (.tup [tx lostT]));obtain ⟨vs,e0,pr⟩:=hW.same s2;have hlv:=pr.length;refine .inl ⟨⟨_,SqL.of e0⟩,?_⟩;refine bN (xs:=vs) (fun i σ H'=>∃ u v2 t,σ = [some (.ref p),some (.ref v),some (.str (st l)),some (.int a),some (.int b),some (.int (wayL (ws.take i) (partT ls l)).1),some (.ref t),u,v2]/\Same (upd H1 t2 (.tup [tx lostT])) H'/\H' t=some (.tup (sentV (wayL (ws.take i) (partT ls l)).2 l)))
  ⟨none,none,t2,rfl,Same.refl _,upd_same⟩ (fun i σ H' _ ⟨_,_,_,_,z,_⟩=>SqL.of (z _ _ e0)) ?_ ?_
 ·rintro i x σ H2 hx ⟨u,v2,t,rfl,s3,e3⟩;have hi:i < vs.length:=(List.getElem?_eq_some_iff.mp hx).1;have hiw:i < ws.length:=by omega
  obtain ⟨y,hy,t',ey,et⟩:=aN pr (List.getElem?_eq_getElem hiw);obtain rfl:x=.ref t':=by rw [hy] at hx; rw [<- Option.some.inj hx,ey]
  have st1:SqT K H2 t' [tx ws[i].1,tx ws[i].2]:=SqT.of (s3 _ _ et);have hwi:=hw ws[i] (List.getElem_mem hiw);have step:wayL (ws.take (i+1)) (partT ls l)=wayStep (partT ls l) (wayL (ws.take i) (partT ls l)) ws[i]:=by
   unfold wayL;rw [List.take_add_one,List.getElem?_eq_getElem hiw,Option.toList_some,List.foldl_append];rfl
  rw [step];generalize wayL (ws.take i) (partT ls l)=c at e3 ⊢;unfold wayStep;refine ⟨t',[_,_],rfl,st1,rfl,_,[_],rfl,_,[],rfl,rfl,?_⟩;walk_at "rd";refine ⟨by omega,by omega,by omega,by omega,?_⟩;rw [Int.toNat_natCast,Int.toNat_natCast,<- eP];refine ite2 (fun g2=>⟨by omega,ite2 (fun g1=>⟨by omega,by decide,fun t3 ht3=>?_⟩) fun g1=>?_⟩) fun g2=>?_
  ·rw [if_pos ⟨g1,g2⟩];exact ⟨_,_,t3,rfl,s3.trans (ae ht3 _),upd_same⟩
  ·rw [if_neg fun z=>g1 z.1];exact ⟨_,_,t,rfl,s3,e3⟩
  ·rw [if_neg fun z=>g2 z.2];exact ⟨_,_,t,rfl,s3,e3⟩
 ·rintro σ H2 ⟨u,v2,t,rfl,s3,e3⟩;walk_at "rd";rw [<- hlv,List.take_length] at e3;exact q t H2 (s2.trans s3) e3
theorem rC (l:List Gate) (x:Gate) (n:List Nat):gateOf (l++[x]) n=(gateOf l n).or (if x.1=n then some x.2 else none):=by
 unfold gateOf;rw [List.find?_append];cases e:l.find? fun g=>decide (g.1=n) with
 | some y=>rfl
 | none=>
  by_cases h:x.1=n
  ·simp [h]
  ·simp [h]
theorem qH {l:List Gate} {n:List Nat} (h:n ∉ l.map (·.1)):gateOf l n=none:=by
 unfold gateOf;rw [List.find?_eq_none.mpr fun y hy=>by
  have:¬ y.1=n:=fun e=>h (List.mem_map.mpr ⟨y,hy,e⟩)
  simpa using this]
 rfl
theorem sO {rs:List Rule} {l:List Nat} {i:Nat} (hi:i < rs.length) (h1:∀ r ∈ rs.take i,within l r.1=false) (g:within l rs[i].1=true):firstR rs l=i:=
 (List.findIdx_eq hi).mpr ⟨g,fun j hj=>h1 rs[j] (List.mem_take_iff_getElem.mpr ⟨j,by omega,rfl⟩)⟩
noncomputable def dU (K:Frag):Sp:=aA fun p=>aA fun t=>be fun d=>be fun l=>aD fun H Q _=>∃ (ls:List Fld) (hs:House) (rs:List Rule),Lay H p ls/\HouseAt H t hs/\(hs.1.map (·.1)).Nodup/\gateOf hs.1 d.cps.toList=some rs/\Meet ls rs hs.2 l.cps.toList.length /\
   ∀ t H',Same H H'->H' t=some (.tup (doesV ls rs hs.2 l.cps.toList))->Q (.ref t) H'
theorem pZ (T:Top K mg):Callee P w K mg base 3 "_law_does" ["_law_layout_here", "_law_house_here", "_law_door", "_law_letter"] (dU K):=by
 refine T.lm.cal bH (by unfold dU; exact LenSp.h) (fun _ _ _ _ _ _ us hl=>match us,hl with | [_,_,_,_],_=>rfl) (fun f cdv A outer s H vs Q E hr h=>?_);unfold dU at h;walk_at "el";refine ⟨_,(ac (ai (i:=4) bH.nd rfl lc (br ab))
   (ac (bf PassesOwn.never rfl (iterE K rfl (az (ixE K rfl) (qv 1) ad (fun _ _=>rfl))) (tupE K rfl rfl (n:=2) (ap (ag (i:=5) bH.nd rfl lc) (ap (ag (i:=6) bH.nd rfl lc) aP))) (af (aJ (aw ba (qv 5) (qv 2)) (af (ai (i:=4) bH.nd rfl lc (qv 6))) av)))
   (ac (bf PassesOwn.never rfl (my K rfl rfl T.fg (qv 4)) (tupE K rfl rfl (n:=2) (ap (ag (i:=7) bH.nd rfl lc) (ap (ag (i:=8) bH.nd rfl lc) aP))) (af (aJ (bx (ak (gb T) hr.m rfl (aa (az (ixE K rfl) (qv 8) ad (fun _ _=>rfl)) (aa (qv 3) ab)))) (ac (aJ (aw ba (az (ixE K rfl) (qv 8) ad (fun _ _=>rfl)) (qs [100,114,111,112])) (af (aq (aS (aa (qs [100,114,111,112]) (aa (qv 7) ab))))) av)
   (af (aq (ak (qd T) hr.m rfl (aa (qv 0) (aa (az (ixE K rfl) (qv 1) ad (fun _ _=>rfl)) (aa (ak (gO T) hr.m rfl (aa (qv 3) (aa (az (ixE K rfl) (qv 8) ad (fun _ _=>rfl)) ab))) ab))))))) av)))
   (af (aq (aS (aa (qs [100,114,111,112]) (aa (au (lenE K rfl) rfl T.bc aL (aa (qv 4) ab)) ab)))))))),?_⟩
 rename_i p t d s;obtain ⟨l,rfl⟩:∃ x,s=st x:=⟨_,(aF s).symm⟩;obtain ⟨n,rfl⟩:∃ x,d=st x:=⟨_,(aF d).symm⟩;obtain ⟨ls,hs,rs,hL,hH,nd,eg,M,q⟩:=h;simp only [ar] at q eg M;walk_at "rd";refine ⟨Nat.zero_le _,fun r0 hr0=>?_⟩;have s0:=ae hr0 (.lst []);have hH0:=hH.same s0;obtain ⟨g,w,e,⟨vs,e0,pr⟩,hw⟩:=id hH0;have hl:=pr.length;refine ⟨_,_,.inr (SqT.of e),rfl,?_⟩;walk_at "rd";refine .inl ⟨⟨_,SqL.of e0⟩,?_⟩;refine bN (xs:=vs) (fun i σ H'=>∃ r u v,σ = [some (.ref p),some (.ref t),some (.str (st n)),some (.str (st l)),some (.ref r),u,v,none,none]/\Same (upd H r0 (.lst [])) H'/\Rules H' r ((gateOf (hs.1.take i) n).getD [])) ⟨r0,none,none,rfl,Same.refl _,⟨[],upd_same,.nil⟩⟩ (fun i σ H' _ ⟨_,_,_,_,z,_⟩=>SqL.of (z _ _ e0)) ?_ ?_
 ·rintro i x σ H1 hx ⟨r,u,v,rfl,s1,h1⟩;have hi:i < vs.length:=(List.getElem?_eq_some_iff.mp hx).1;have hil:i < hs.1.length:=by omega
  obtain ⟨y,hy,t',r',ey,et,hr⟩:=aN pr (List.getElem?_eq_getElem hil);obtain rfl:x=.ref t':=by rw [hy] at hx; rw [<- Option.some.inj hx,ey]
  have tk:hs.1.take (i+1)=hs.1.take i++[hs.1[i]]:=by rw [List.take_add_one,List.getElem?_eq_getElem hil,Option.toList_some]
  rw [tk,rC];refine ⟨t',[_,_],rfl,SqT.of (s1 _ _ et),rfl,_,[_],rfl,_,[],rfl,rfl,?_⟩;walk_at "rd";refine ite2 (fun g=>⟨r',some (tx hs.1[i].1),some (.ref r'),rfl,s1,?_⟩) fun g=>⟨r,some (tx hs.1[i].1),some (.ref r'),rfl,s1,?_⟩
  ·rw [if_pos g,qH (l:=hs.1.take i)]
   ·exact hr.same s1
   ·intro hm;obtain ⟨z,hz,ez⟩:=List.mem_map.mp hm;obtain ⟨j,hj,rfl⟩:=List.mem_take_iff_getElem.mp hz;have:=List.pairwise_iff_getElem.mp nd j i (by simp; omega) (by simp; omega) (by omega);apply this;rw [List.getElem_map,List.getElem_map];exact ez.trans g.symm
  ·rw [if_neg g,Option.or_none];exact h1
 ·rintro σ H1 ⟨r,u,v,rfl,s1,h1⟩;rw [<- hl,List.take_length,eg,Option.getD_some] at h1;obtain ⟨us,e1,pr1⟩:=h1;have hl1:=pr1.length;have s01:=s0.trans s1;walk_at "rd";refine ⟨⟨_,SqL.of e1⟩,?_⟩;refine mI (xs:=us) (fun i σ H'=>∃ a b,σ = [some (.ref p),some (.ref t),some (.str (st n)),some (.str (st l)),some (.ref r),u,v,a,b]/\Same H1 H'/\∀ r ∈ rs.take i,within l r.1=false) ⟨none,none,rfl,Same.refl _,fun r hr=>by simp at hr⟩ (fun i σ H' _ ⟨_,_,_,z,_⟩=>SqL.of (z _ _ e1)) ?_ ?_
  ·rintro i x σ H2 t2 hx ⟨a,b,rfl,s2,h2⟩ ht2;have hi:i < us.length:=(List.getElem?_eq_some_iff.mp hx).1;have hir:i < rs.length:=by omega
   obtain ⟨y,hy,t',ey,et⟩:=aN pr1 (List.getElem?_eq_getElem hir);obtain rfl:x=.ref t':=by rw [hy] at hx; rw [<- Option.some.inj hx,ey]
   have s3:=s2.trans (ae ht2 (.tup [.int i,.ref t']));have s13:=s01.trans s3;have st1:=SqT.of (K:=K) (s3 _ _ et);walk_at "rd";refine ⟨_,_,.inr st1,rfl,fun H3 s4=>?_⟩;simp only [ar];have s14:=s13.trans s4;have st2:=SqT.of (K:=K) (s4 _ _ (s3 _ _ et));refine ite2 (fun g=>?_) fun g=>⟨_,_,rfl,s3.trans s4,fun r hr=>?_⟩
   ·have ef:firstR rs l=i:=sO hir h2 g;have er:rs[i]? = some rs[i]:=List.getElem?_eq_getElem hir;refine ⟨_,_,.inr st2,rfl,?_⟩;walk_at "rd";refine ite2 (fun gd=>?_) fun gd=>?_
    ·refine ⟨by decide,fun t3 ht3=>q t3 _ (s14.trans (ae ht3 _)) ?_⟩;rw [upd_same,doesV,ef,if_pos (by unfold dropB; rw [er]; exact decide_eq_true gd)];rfl
    ·obtain ⟨g4,w4,e4,_,hw4⟩:=hH.same s14;have eD:doesV ls rs hs.2 l=sentV (wayL hs.2 (partT ls (written l rs[i].2.2))).2 (written l rs[i].2.2):=by
      rw [doesV,ef,if_neg (by unfold dropB; rw [er]; intro z; exact gd (of_decide_eq_true z))];unfold sentT;rw [ef,er];rfl
     have ho:=M.over rs[i] (List.getElem_mem hir);have hwl:=eV ho.symm;have hM:=M.wide;obtain ⟨a1,b1,esp,hb1⟩:=M.to;refine ⟨_,_,.inr (SqT.of e4),rfl,?_⟩;walk_at "rd";refine ⟨_,_,.inr st2,rfl,by simp only [ar]; exact hM,fun H5 s5=>?_⟩;simp only [ar];walk_at "rd";refine ⟨ls,hs.2,a1,b1,hL.same (s14.trans s5),hw4.same s5,M.ways,by simp only [ar]; omega,esp,by simp only [ar]; omega,fun t6 H6 s6 e6=>q t6 H6 (s14.trans (s5.trans s6)) ?_⟩;rw [e6,eD]
   ·rw [List.take_add_one,List.getElem?_eq_getElem hir] at hr;rcases List.mem_append.mp hr with hr | hr
    ·exact h2 r hr
    ·have e:r=rs[i]:=by simpa using hr
     rw [e];simpa using g
  ·rintro σ H2 ⟨a,b,rfl,s2,h2⟩;walk_at "rd";refine ⟨us,.inl (SqL.of (s2 _ _ e1)),by decide,fun t3 ht3=>q t3 _ (s01.trans (s2.trans (ae ht3 _))) ?_⟩;have ef:firstR rs l=us.length:=by
    unfold firstR;rw [<- hl1];exact List.findIdx_eq_length.mpr fun r hr=>h2 r (by rw [<- hl1,List.take_length]; exact hr)
   rw [upd_same,doesV,ef,if_pos (by unfold dropB; rw [List.getElem?_eq_none (by omega)])];rfl
noncomputable def Th (H:Hp):Nat->V->D->Prop
 | 0,v,d=>d=.f v/\flatV v=true
 | n+1,v,d=>(d=.f v/\flatV v=true)\/(∃ a vs ds,v=.ref a/\d=.l ds/\H a=some (.lst vs)/\vs.length<=1000/\Paired (Th H n) vs ds)\/(∃ a vs ds,v=.ref a/\d=.t ds/\H a=some (.tup vs)/\vs.length<=1000/\Paired (Th H n) vs ds)
theorem bX {H H':Hp} (s:Same H H'):∀ (n:Nat) {v:V} {d:D},Th H n v d->Th H' n v d
 | 0,_,_,h=>h
 | n+1,_,_,.inl h=>.inl h
 | n+1,_,_,.inr (.inl ⟨a,vs,ds,e1,e2,e3,e4,p⟩)=>.inr (.inl ⟨a,vs,ds,e1,e2,s _ _ e3,e4,L2.Paired.mapP p fun _ _ z=>bX s n z⟩)
 | n+1,_,_,.inr (.inr ⟨a,vs,ds,e1,e2,e3,e4,p⟩)=>.inr (.inr ⟨a,vs,ds,e1,e2,s _ _ e3,e4,L2.Paired.mapP p fun _ _ z=>bX s n z⟩)
theorem dO {H:Hp} {v:V} (n:Nat) (f:flatV v=true):Th H n v (.f v):=by
 cases n with
 | zero=>exact ⟨rfl,f⟩
 | succ n=>exact .inl ⟨rfl,f⟩
theorem gT {α β γ:Type} {F:α -> γ -> Prop} {G:β -> γ -> Prop}:∀ {xs:List α} {ys:List β} {ds:List γ},Paired F xs ds->Paired G ys ds->∀ x ∈ xs.zip ys,∃ d,F x.1 d/\G x.2 d
 | _,_,_,.nil,.nil,x,hx=>by simp at hx
 | _,_,_,.cons r p,.cons r' p',x,hx=>by
  rw [List.zip_cons_cons] at hx;rcases List.mem_cons.mp hx with rfl | hx
  ·exact ⟨_,r,r'⟩
  ·exact gT p p' x hx
theorem pX {α:Type} {F:α -> V->Hp->Prop} {H:Hp}:∀ {xs:List α} {vs:List V},Paired (fun x v=>v=V.bl true) xs vs->vs=(xs.map fun _=>true).map V.bl
 | _,_,.nil=>rfl
 | _,_,.cons r p=>by rw [List.map_cons,List.map_cons,<- pX (F:=F) (H:=H) p,r]
theorem xf {α:Type} (xs:List α):(xs.map fun _=>true).all id=true:=by simp
theorem xh {H:Hp}:∀ {n:Nat} {v:V} {d:D},Th H n v d->flatV v=true->d=.f v
 | 0,_,_,h,_=>h.1
 | _+1,_,_,.inl h,_=>h.1
 | _+1,_,_,.inr (.inl ⟨_,_,_,e,_⟩),f=>by subst e; cases f
 | _+1,_,_,.inr (.inr ⟨_,_,_,e,_⟩),f=>by subst e; cases f
theorem jK {H:Hp}:∀ {n:Nat} {u v:V},Th H n u (.f v)->u=v
 | 0,_,_,h=>(D.f.inj h.1).symm
 | _+1,_,_,.inl h=>(D.f.inj h.1).symm
 | _+1,_,_,.inr (.inl ⟨_,_,_,_,e,_⟩)=>by cases e
 | _+1,_,_,.inr (.inr ⟨_,_,_,_,e,_⟩)=>by cases e
noncomputable def b8 (K:Frag) (m:Nat):Sp:=iQ fun v=>iQ fun u=>aD fun H Q _=>∃ n d,n < m/\Th H n v d/\Th H n u d/\∀ H',Same H H'->Q (.bl true) H'
theorem nF (T:Top K mg):∀ m:Nat,Callee P w K mg base (m+1) "_law_same" ["_law_found", "_law_due"] (b8 K m):=by
 intro m
 induction m with
 | zero=>
  refine T.ir.cal jT (by unfold b8; exact LenSp.h) (fun _ _ _ _ _ _ us hl=>match us,hl with | [_,_],_=>rfl) (fun f cdv A outer s H vs Q E hr h=>?_);unfold b8 at h;walk_at "el";obtain ⟨_,_,hn,_⟩:=h;exact absurd hn (Nat.not_lt_zero _)
 | succ m ih=>
  refine T.ir.cal jT (by unfold b8; exact LenSp.h) (fun _ _ _ _ _ _ us hl=>match us,hl with | [_,_],_=>rfl) (fun f cdv A outer s H vs Q E hr h=>?_);unfold b8 at h;walk_at "el";refine ⟨_,(ac (aJ (aw sR (qv 1) kD) (af (aq (dY sR (qv 0) kD))) av)
   (ac (aJ (PW.pt (oF (bx (aR .bool rfl T.aB (qv 1) rfl T.nz lN)) (pK (bx (aR .bool rfl T.aB (qv 0) rfl T.nz lN))))) (af (aq (gY (aR .bool rfl T.aB (qv 1) rfl T.nz lN) (gY (aR .bool rfl T.aB (qv 0) rfl T.nz lN) (jb (dY ba (qv 0) (qv 1))))))) av)
   (ac (aJ (bx (aR .str rfl T.aB (qv 1) rfl T.oU mB)) (af (aq (gY (aR .str rfl T.aB (qv 0) rfl T.oU mB) (jb (dY ba (qv 0) (qv 1)))))) av)
   (ac (aJ (bx (aR .int rfl T.aB (qv 1) rfl T.oV mt)) (af (aq (gY (aR .int rfl T.aB (qv 0) rfl T.oV mt) (jb (dY ba (qv 0) (qv 1)))))) av)
   (cT (aJ (bx (aR .tuple rfl T.aB (qv 1) rfl T.gI fO)) (af (aJ (fz (bx (aR .tuple rfl T.aB (qv 0) rfl T.gI fO))) (af (aq eB)) av)) (af (aJ (fz (bx (aR .list rfl T.aB (qv 0) rfl T.kM jy))) (af (aq eB)) av)))
   (ac (aJ (aw cw (au (lenE K rfl) rfl T.bc aL (aa (qv 0) ab)) (au (lenE K rfl) rfl T.bc aL (aa (qv 1) ab))) (af (aq eB)) av)
   (af (aq (au (oO K rfl rfl) rfl T.xu vN (aa (aX (nt:=2) (fi:=[]) (N':=["_law_own", "_law_part"]) rfl (cscope rfl (by decide +kernel)) (cnames (N:=["_law_found", "_law_due"]) (sc:=defScope eS) rfl rfl (by decide +kernel)) (dL (by decide) (by decide)) (yx rfl rfl T.oZ (qv 0) (qv 1)) (fun _ _ _ _ _=>(tupE K rfl rfl (n:=2) (ap (ag (i:=0) (by show (["_law_own", "_law_part"]:List Str).Nodup; decide +kernel) rfl lc) (ap (ag (i:=1) (by show (["_law_own", "_law_part"]:List Str).Nodup; decide +kernel) rfl lc) aP)))) (fun _ _ _ _ _=>aM) (fun _ _ _ _ _=>(ak ih hr.m rfl (aa (qv 0) (aa (qv 1) ab))))) ab)))))))))),?_⟩
  rename_i v u;obtain ⟨n,d,hn,h1,h2,q⟩:=h;by_cases fl:flatV v=true
  ·have ed:=xh h1 fl;subst ed;have eu:=jK h2;subst eu;have q0:=q H (Same.refl _);cases u with
   | non=>walk_at "rd"; exact q0
   | bl b=>walk_at "rd"; exact q0
   | int i=>walk_at "rd"; exact q0
   | str z=>
    walk_at "rd";rw [if_neg (by intro y; cases y)];rw [wY];simpa using q0
   | _=>cases fl
  ·obtain _ | n:=n
   ·exact absurd h1.2 fl
   rcases h1 with h1 | ⟨a,vs,ds,rfl,rfl,e1,l1,p1⟩ | ⟨a,vs,ds,rfl,rfl,e1,l1,p1⟩
   ·exact absurd h1.2 fl
   ·rcases h2 with ⟨e2,_⟩ | ⟨b,us,ds2,rfl,ed,e2,l2,p2⟩ | ⟨b,us,ds2,rfl,ed,e2,l2,p2⟩
    ·cases e2
    ·cases ed;walk_at "rd";rw [if_neg (by intro y; cases y)];refine .inl ⟨⟨_,e2⟩,.inl ⟨⟨_,e1⟩,.inl ⟨⟨_,e2⟩,.inl ⟨⟨_,e2⟩,fun σ' H'=>σ'=[some (.ref a),some (.ref b)]/\H'=H,.inl ⟨⟨_,e2⟩,.inl ⟨⟨_,e1⟩,rfl,rfl⟩⟩,?_⟩⟩⟩⟩;rintro σ' H' ⟨rfl,rfl⟩;walk_at "rd";have l3:=p1.length;have l4:=p2.length;have lz:(vs.zip us).length=vs.length:=by rw [List.length_zip]; omega
     refine ⟨vs,.inl (SqL.of e1),us,.inl (SqL.of e2),?_⟩;rw [if_pos (by omega)];refine .inl ⟨⟨_,SqL.of e1⟩,⟨_,SqL.of e2⟩,fun D hD=>?_⟩;refine mE (vs.zip us) (fun _=>true) (fun _ v _=>v=.bl true) hD (by omega) (fun i H1 hi s1=>⟨⟨vs,vs[i],SqL.of (s1 _ _ e1),List.getElem?_eq_getElem (by omega)⟩,⟨us,us[i],SqL.of (s1 _ _ e2),List.getElem?_eq_getElem (by omega)⟩⟩) (fun H1 s1=>.inl ⟨vs,SqL.of (s1 _ _ e1),by omega⟩) ?_ (fun _ _ _ _ _ _ _ r=>r) ?_ ?_
     ·rintro i H1 v H2 _ ⟨S,x,y,rfl,hS,rfl,_,_⟩;exact ae hS _
     ·rintro i x v H1 H2 out non hx s1 ⟨S,x1,x2,rfl,hS,rfl,a1,a2⟩ ho _;obtain ⟨z1,z2⟩:=List.getElem?_zip_eq_some.mp hx;have y1:=(a1 vs (SqL.of (s1 _ _ e1)));have y2:=(a2 us (SqL.of (s1 _ _ e2)));rw [z1] at y1;rw [z2] at y2;cases y1;cases y2;obtain ⟨d,t1,t2⟩:=gT p1 p2 x (List.mem_of_getElem? hx);have s2:=s1.trans (ae hS (.tup [x.1,x.2]));refine ⟨S,[_,_],rfl,SqT.of upd_same,rfl,_,[_],rfl,_,[],rfl,rfl,?_⟩;walk_at "rd";exact ⟨n,d,by omega,bX s2 n t1,bX s2 n t2,fun H3 s3=>ho _ H3 rfl s3 rfl⟩
     ·intro H1 ws s1 e3 p3;rw [pX (F:=fun _ _ _=>True) (H:=H') p3] at e3;walk_at "rd";refine ⟨_,SqL.of e3,?_⟩;rw [xf];exact q H1 s1
    ·cases ed
   ·rcases h2 with ⟨e2,_⟩ | ⟨b,us,ds2,rfl,ed,e2,l2,p2⟩ | ⟨b,us,ds2,rfl,ed,e2,l2,p2⟩
    ·cases e2
    ·cases ed
    ·cases ed;walk_at "rd";rw [if_neg (by intro y; cases y)];refine .inr ⟨⟨_,e2⟩,.inr ⟨⟨_,e1⟩,.inr ⟨⟨_,e2⟩,.inr ⟨⟨_,e2⟩,fun σ' H'=>σ'=[some (.ref a),some (.ref b)]/\H'=H,.inr ⟨⟨_,e2⟩,.inr ⟨⟨_,e1⟩,rfl,rfl⟩⟩,?_⟩⟩⟩⟩;rintro σ' H' ⟨rfl,rfl⟩;walk_at "rd";have l3:=p1.length;have l4:=p2.length;have lz:(vs.zip us).length=vs.length:=by rw [List.length_zip]; omega
     refine ⟨vs,.inr (SqT.of e1),us,.inr (SqT.of e2),?_⟩;rw [if_pos (by omega)];refine .inr ⟨a,b,rfl,rfl,⟨_,e1⟩,⟨_,e2⟩,fun D hD=>?_⟩;refine mE (vs.zip us) (fun _=>true) (fun _ v _=>v=.bl true) hD (by omega) (fun i H1 hi s1=>⟨⟨vs,vs[i],s1 _ _ e1,List.getElem?_eq_getElem (by omega)⟩,⟨us,us[i],s1 _ _ e2,List.getElem?_eq_getElem (by omega)⟩⟩) (fun H1 s1=>.inl ⟨vs,s1 _ _ e1,by omega⟩) ?_ (fun _ _ _ _ _ _ _ r=>r) ?_ ?_
     ·rintro i H1 v H2 _ ⟨S,x,y,rfl,hS,rfl,_,_⟩;exact ae hS _
     ·rintro i x v H1 H2 out non hx s1 ⟨S,x1,x2,rfl,hS,rfl,a1,a2⟩ ho _;obtain ⟨z1,z2⟩:=List.getElem?_zip_eq_some.mp hx;have y1:=(a1 vs (s1 _ _ e1));have y2:=(a2 us (s1 _ _ e2));rw [z1] at y1;rw [z2] at y2;cases y1;cases y2;obtain ⟨d,t1,t2⟩:=gT p1 p2 x (List.mem_of_getElem? hx);have s2:=s1.trans (ae hS (.tup [x.1,x.2]));refine ⟨S,[_,_],rfl,SqT.of upd_same,rfl,_,[_],rfl,_,[],rfl,rfl,?_⟩;walk_at "rd";exact ⟨n,d,by omega,bX s2 n t1,bX s2 n t2,fun H3 s3=>ho _ H3 rfl s3 rfl⟩
     ·intro H1 ws s1 e3 p3;rw [pX (F:=fun _ _ _=>True) (H:=H') p3] at e3;walk_at "rd";refine ⟨_,SqL.of e3,?_⟩;rw [xf];exact q H1 s1
theorem fY (T:Top K mg):Callee P w K mg base 11 "_law_same" ["_law_found", "_law_due"] (b8 K 10):=nF T 10
noncomputable def ThN (N:Addr->Prop) (H:Hp):Nat->V->D->Prop
 | 0,v,d=>d=.f v/\flatV v=true
 | n+1,v,d=>(d=.f v/\flatV v=true)\/(∃ a vs ds,v=.ref a/\d=.l ds/\N a/\H a=some (.lst vs)/\vs.length<=1000/\Paired (ThN N H n) vs ds)\/(∃ a vs ds,v=.ref a/\d=.t ds/\N a/\H a=some (.tup vs)/\vs.length<=1000/\Paired (ThN N H n) vs ds)
theorem eQ {N N':Addr->Prop} {H H':Hp} (s:∀ a o,N a->H a=some o->H' a=some o) (f:∀ a,N a->N' a):∀ (n:Nat) {v:V} {d:D},ThN N H n v d->ThN N' H' n v d
 | 0,_,_,h=>h
 | n+1,_,_,.inl h=>.inl h
 | n+1,_,_,.inr (.inl ⟨a,vs,ds,e1,e2,k,e3,e4,p⟩)=>.inr (.inl ⟨a,vs,ds,e1,e2,f _ k,s _ _ k e3,e4,L2.Paired.mapP p fun _ _ z=>eQ s f n z⟩)
 | n+1,_,_,.inr (.inr ⟨a,vs,ds,e1,e2,k,e3,e4,p⟩)=>.inr (.inr ⟨a,vs,ds,e1,e2,f _ k,s _ _ k e3,e4,L2.Paired.mapP p fun _ _ z=>eQ s f n z⟩)
theorem tD {N:Addr->Prop} {H:Hp}:∀ (n:Nat) {v:V} {d:D},ThN N H n v d->Th H n v d
 | 0,_,_,h=>h
 | n+1,_,_,.inl h=>.inl h
 | n+1,_,_,.inr (.inl ⟨a,vs,ds,e1,e2,k,e3,e4,p⟩)=>.inr (.inl ⟨a,vs,ds,e1,e2,e3,e4,L2.Paired.mapP p fun _ _ z=>tD n z⟩)
 | n+1,_,_,.inr (.inr ⟨a,vs,ds,e1,e2,k,e3,e4,p⟩)=>.inr (.inr ⟨a,vs,ds,e1,e2,e3,e4,L2.Paired.mapP p fun _ _ z=>tD n z⟩)
theorem jo {α β:Type} {F:α -> β -> Prop}:∀ {xs:List α} {ds:List β},Paired F xs ds->∀ {i:Nat} {x:α},xs[i]? = some x->∃ d,ds[i]? = some d/\F x d
 | _,_,.nil,i,x,h=>by simp at h
 | _,_,.cons r p,0,x,h=>by simp at h; subst h; exact ⟨_,rfl,r⟩
 | _,_,.cons r p,i+1,x,h=>by simpa using jo p (by simpa using h)
theorem ie {α β γ:Type} {F:β -> γ -> Prop}:∀ {xs:List (α × γ)} {vs:List β},Paired (fun x v=>F v x.2) xs vs->Paired F vs (xs.map (·.2))
 | _,_,.nil=>.nil
 | _,_,.cons r p=>.cons r (ie p)
noncomputable def bZ (K:Frag) (m:Nat):Sp:=iQ fun v=>aD fun H Q _=>∃ n d,n < m/\Th H n v d/\∀ v' H',Same H H'->ThN (fun a=>H a=none) H' n v' d->Q v' H'
theorem nU (T:Top K mg):∀ m:Nat,Callee P w K mg base (m+1) "_law_copy" ["_law_thing"] (bZ K m):=by
 intro m
 induction m with
 | zero=>
  refine T.iB.cal jA (by unfold bZ; exact LenSp.h) (fun _ _ _ _ _ _ us hl=>match us,hl with | [_],_=>rfl) (fun f cdv A outer s H vs Q E hr h=>?_);unfold bZ at h;walk_at "el";obtain ⟨_,_,hn,_⟩:=h;exact absurd hn (Nat.not_lt_zero _)
 | succ m ih=>
  refine T.iB.cal jA (by unfold bZ; exact LenSp.h) (fun _ _ _ _ _ _ us hl=>match us,hl with | [_],_=>rfl) (fun f cdv A outer s H vs Q E hr h=>?_);unfold bZ at h;walk_at "el";refine ⟨_,(ac (aJ (bx (aR .list rfl T.aB (qv 0) rfl T.kM jy)) (af (aq (aX (nt:=1) (fi:=[]) (N':=["_law_part"]) rfl (cscope rfl (by decide +kernel)) (cnames (N:=["_law_thing"]) (sc:=defScope dq) rfl rfl (by decide +kernel)) (aY (by decide)) (iterE K rfl (qv 0)) (fun _ _ _ _ _=>(ag (i:=0) (by show (["_law_part"]:List Str).Nodup; decide +kernel) rfl lc)) (fun _ _ _ _ _=>aM) (fun _ _ _ _ _=>(ak ih hr.m rfl (aa (qv 0) ab)))))) av)
   (ac (aJ (bx (aR .tuple rfl T.aB (qv 0) rfl T.gI fO)) (af (aq (fR (vp K rfl) rfl T.gI fO (aa (aX (nt:=1) (fi:=[]) (N':=["_law_part"]) rfl (cscope rfl (by decide +kernel)) (cnames (N:=["_law_thing"]) (sc:=defScope dq) rfl rfl (by decide +kernel)) (aY (by decide)) (iterE K rfl (qv 0)) (fun _ _ _ _ _=>(ag (i:=0) (by show (["_law_part"]:List Str).Nodup; decide +kernel) rfl lc)) (fun _ _ _ _ _=>aM) (fun _ _ _ _ _=>(ak ih hr.m rfl (aa (qv 0) ab)))) ab)))) av)
   (af (aq (qv 0))))),?_⟩
  rename_i v;obtain ⟨n,d,hn,h1,q⟩:=h;by_cases fl:flatV v=true
  ·have ed:=xh h1 fl;subst ed;have q0:=q v H (Same.refl _) (by cases n with | zero=>exact ⟨rfl,fl⟩ | succ n=>exact .inl ⟨rfl,fl⟩);cases v with
   | non=>walk_at "rd"; exact q0
   | bl b=>walk_at "rd"; exact q0
   | int i=>walk_at "rd"; exact q0
   | str z=>walk_at "rd"; exact q0
   | _=>cases fl
  ·obtain _ | n:=n
   ·exact absurd h1.2 fl
   rcases h1 with h1 | ⟨a,vs,ds,rfl,rfl,e1,l1,p1⟩ | ⟨a,vs,ds,rfl,rfl,e1,l1,p1⟩
   ·exact absurd h1.2 fl
   ·have l3:=p1.length;have lz:(vs.zip ds).length=vs.length:=by rw [List.length_zip]; omega
    walk_at "rd";refine .inl ⟨⟨_,e1⟩,.inl ⟨⟨_,SqL.of e1⟩,fun D hD=>?_⟩⟩;refine oQ (vs.zip ds) (fun x v H1=>ThN (fun b=>b≠D/\H b=none) H1 n v x.2) hD (by omega) (fun i H1 hi s1=>⟨vs,vs[i],SqL.of (s1 _ _ e1),List.getElem?_eq_getElem (by omega)⟩) (fun H1 s1=>⟨vs,SqL.of (s1 _ _ e1),by omega⟩) ?_ (fun x v H1 H2 acc _ k r=>eQ (fun b o nb e=>k b o nb.1 e) (fun _ z=>z) n r) ?_ ?_
    ·rintro i H1 v H2 _ ⟨rfl,_⟩;exact Same.refl _
    ·rintro i x v H1 H2 out non hx s1 nD ⟨rfl,a1⟩ ho;obtain ⟨z1,z2⟩:=List.getElem?_zip_eq_some.mp hx;have y1:=a1 vs (SqL.of (s1 _ _ e1));rw [z1] at y1;cases y1;obtain ⟨d,z3,t1⟩:=jo p1 z1;rw [z2] at z3;cases z3;walk_at "rd";exact ⟨n,x.2,by omega,bX s1 n t1,fun v' H6 s6 t6=>ho v' H6 s6 (eQ (fun _ _ _ e=>e) (fun b hb=>⟨nD b hb,s1.free hb⟩) n t6)⟩
    ·intro H1 ws s1 e3 p3;have l4:=p3.length;have pe:=ie p3;rw [List.map_snd_zip (by omega)] at pe;refine q (.ref D) H1 s1 (.inr (.inl ⟨D,ws,ds,rfl,rfl,hD,e3,by omega,?_⟩));exact L2.Paired.mapP pe fun _ _ z=>eQ (fun _ _ _ e=>e) (fun b hb=>hb.2) n z
   ·have l3:=p1.length;have lz:(vs.zip ds).length=vs.length:=by rw [List.length_zip]; omega
    walk_at "rd";refine .inr ⟨⟨_,e1⟩,.inr ⟨⟨_,e1⟩,.inr ⟨⟨_,SqT.of e1⟩,fun D hD=>?_⟩⟩⟩;refine oQ (vs.zip ds) (fun x v H1=>ThN (fun b=>b≠D/\H b=none) H1 n v x.2) hD (by omega) (fun i H1 hi s1=>⟨vs,vs[i],SqT.of (s1 _ _ e1),List.getElem?_eq_getElem (by omega)⟩) (fun H1 s1=>⟨vs,SqT.of (s1 _ _ e1),by omega⟩) ?_ (fun x v H1 H2 acc _ k r=>eQ (fun b o nb e=>k b o nb.1 e) (fun _ z=>z) n r) ?_ ?_
    ·rintro i H1 v H2 _ ⟨rfl,_⟩;exact Same.refl _
    ·rintro i x v H1 H2 out non hx s1 nD ⟨rfl,a1⟩ ho;obtain ⟨z1,z2⟩:=List.getElem?_zip_eq_some.mp hx;have y1:=a1 vs (SqT.of (s1 _ _ e1));rw [z1] at y1;cases y1;obtain ⟨d,z3,t1⟩:=jo p1 z1;rw [z2] at z3;cases z3;walk_at "rd";exact ⟨n,x.2,by omega,bX s1 n t1,fun v' H6 s6 t6=>ho v' H6 s6 (eQ (fun _ _ _ e=>e) (fun b hb=>⟨nD b hb,s1.free hb⟩) n t6)⟩
    ·intro H1 ws s1 e3 p3;have l4:=p3.length;have pe:=ie p3;rw [List.map_snd_zip (by omega)] at pe;walk_at "rd";refine ⟨ws,SqL.of e3,fun l hl=>q (.ref l) _ (s1.trans (ae hl _)) (.inr (.inr ⟨l,ws,ds,rfl,rfl,s1.free hl,upd_same,by omega,?_⟩))⟩;exact L2.Paired.mapP pe fun _ _ z=>eQ (fun b o _ e=>ae hl _ _ _ e) (fun b hb=>hb.2) n z
theorem pW (T:Top K mg):Callee P w K mg base 11 "_law_copy" ["_law_thing"] (bZ K 10):=nU T 10
noncomputable def cellN (ns:List Int) (k:Nat):Int:=if 0 < ns.length then (ns.getD (k % ns.length) 0) % 2147483647 else 0
noncomputable def drawN (ns:List Int) (k m:Nat):Nat:=((cellN ns k*(742938285+9973*(k:Int)*(k:Int))+(k:Int)*630360016) % 2147483647 / 97 % (m:Int)).toNat
theorem vU (ns:List Int) (k:Nat):0<=cellN ns k/\cellN ns k < 2147483647:=by
 unfold cellN;split
 ·exact ⟨Int.emod_nonneg _ (by decide),Int.emod_lt_of_pos _ (by decide)⟩
 ·decide
theorem eI (ns:List Int) (k:Nat) {m:Nat} (h:1<=m):drawN ns k m < m:=by
 unfold drawN;generalize (cellN ns k*(742938285+9973*(k:Int)*(k:Int))+(k:Int)*630360016) % 2147483647 / 97=z;have z0:0<=z % (m:Int):=Int.emod_nonneg _ (by omega);have z1:z % (m:Int) < m:=Int.emod_lt_of_pos _ (by omega);omega
noncomputable def cU (K:Frag):Sp:=aA fun a=>bB fun k=>bB fun m=>aD fun H Q _=>∃ (ns:List Int) (k0 m0:Nat),SqL K H a (ns.map V.int)/\k=(k0:Int)/\k0<=100000/\m=(m0:Int)/\1<=m0/\m0<=100000/\Q (.int (drawN ns k0 m0:Nat)) H
theorem ah (T:Top K mg):Callee P w K mg base 1 "_law_draw" ["_law_script", "_law_k", "_law_many"] (cU K):=by
 refine T.lf.cal dQ (by unfold cU; exact LenSp.h) (fun _ _ _ _ _ _ us hl=>match us,hl with | [_,_,_],_=>rfl) (fun f cdv A outer s H vs Q E hr h=>?_);unfold cU at h;walk_at "el";refine ⟨_,(ac (ai (i:=3) dQ.nd rfl lc ad)
   (cT (aJ (aw js (au (lenE K rfl) rfl T.bc aL (aa (qv 0) ab)) ad) (af (ai (i:=3) dQ.nd rfl lc (am b9 (az (ixE K rfl) (qv 0) (am b9 (qv 1) (au (lenE K rfl) rfl T.bc aL (aa (qv 0) ab))) (fun _ _=>rfl)) ad))) av)
   (ac (ai (i:=4) dQ.nd rfl lc (am aj (am bp (qv 3) (am aj ad (am bp (am bp ad (qv 1)) (qv 1)))) (am bp (qv 1) ad)))
   (af (aq (am b9 (am ip (am b9 (qv 4) ad) ad) (qv 2))))))),?_⟩
 rename_i a k m;obtain ⟨ns,k0,m0,hS,rfl,hk1,rfl,hm0,hm1,q⟩:=h;walk_at "rd";refine ⟨fun σ' H'=>σ'=[some (.ref a),some (.int (k0:Nat)),some (.int (m0:Nat)),some (.int (cellN ns k0)),none]/\H'=H,⟨_,.inl hS,ite2 (fun g=>⟨_,.inl hS,by simpa using g,?_⟩) fun g=>?_⟩,?_⟩
 ·rw [List.length_map] at g ⊢;have hl:0 < ns.length:=by omega
  have hj:k0 % ns.length < ns.length:=Nat.mod_lt _ hl;refine ⟨_,V.int ns[k0 % ns.length],.inl hS,?_,?_⟩
  ·rw [show (k0:Int) % (ns.length:Int)=((k0 % ns.length:Nat):Int) by omega];exact bR (by rw [List.getElem?_map,List.getElem?_eq_getElem hj]; rfl)
  walk_at "rd";have e:cellN ns k0=ns[k0 % ns.length] % 2147483647:=by
   unfold cellN;rw [if_pos hl,List.getD_eq_getElem?_getD,List.getElem?_eq_getElem hj];rfl
  rw [e]
 ·rw [List.length_map] at g;have e:cellN ns k0=0:=by
   unfold cellN;rw [if_neg (by omega)]
  rw [e];exact ⟨rfl,rfl⟩
 ·rintro σ' H' ⟨rfl,rfl⟩;walk_at "rd";obtain ⟨c0,c1⟩:=vU ns k0;have hc (x:Int) (h0:0<=x) (h1:x<=2147483647):-(2 ^ 64) < x/\x < 2 ^ 64:=⟨Int.lt_of_lt_of_le (by decide) h0,Int.lt_of_le_of_lt h1 (by decide)⟩;refine ⟨.inr (hc k0 (by omega) (by omega)),.inr (hc k0 (by omega) (by omega)),.inl (hc _ c0 (by omega)),.inl (hc k0 (by omega) (by omega)),by omega,?_⟩;unfold drawN at q;rw [Int.toNat_of_nonneg (Int.emod_nonneg _ (by omega))] at q;exact q
theorem aC {H:Hp} {a:Addr} {k m:Int} {ns:List Int} {Q:VK} {E:XK} (hS:SqL K H a (ns.map V.int)) (hk0:0<=k) (hk1:k<=100000) (hm0:1<=m) (hm1:m<=100000) (q:∀ r:Nat,(r:Int) < m->Q (.int (r:Nat)) H):cU K [.ref a,.int k,.int m] H Q E:=
 ⟨ns,k.toNat,m.toNat,hS,by omega,by omega,by omega,by omega,by omega,q _ (by have:=eI ns k.toNat (m:=m.toNat) (by omega); omega)⟩
theorem fW {H:Hp} {a:Addr} {k m:Nat} {ns:List Int} {Q:VK} {E:XK} (hS:SqL K H a (ns.map V.int)) (hk1:k<=100000) (hm0:1<=m) (hm1:m<=100000) (q:Q (.int (drawN ns k m:Nat)) H):cU K [.ref a,.int (k:Int),.int (m:Int)] H Q E:=
 ⟨ns,k,m,hS,rfl,hk1,rfl,hm0,hm1,q⟩
noncomputable abbrev sgn (c:Nat):V:=V.str (st [c])
noncomputable abbrev nV (n:Nat):V:=V.int (n:Int)
theorem o7 {n x:Nat} (h:x < n):ixN n (x:Int)=some x:=by
 unfold ixN;simp;omega
theorem o9 {α:Type} {l:List α} (h:1<=l.length) (N:Nat):∃ c,c ∈ l/\atI l ((N:Int) % (l.length:Int))=some c:=by
 have hj:N % l.length < l.length:=Nat.mod_lt _ (by omega);refine ⟨l[N % l.length],List.getElem_mem hj,?_⟩;rw [show ((N:Int) % (l.length:Int))=((N % l.length:Nat):Int) by omega];exact bR (List.getElem?_eq_getElem hj)
def OverL (ps r:List Nat):Prop:=∀ (i c:Nat),r[i]? = some c->c≠45->i ∈ ps
noncomputable def ci (K:Frag):Sp:=bB fun n=>aA fun p=>bB fun w=>be fun menu=>aD fun H Q _=>∃ (N W:Nat) (ps:List Nat),n=(N:Int)/\w=(W:Int)/\W<=1000/\SqL K H p (ps.map nV)/\(∀ x ∈ ps,x < W)/\1<=menu.cps.toList.length/\menu.cps.toList.length<=100 /\
   ∀ r H',Same H H'->r.length=W->(∀ c ∈ r,c=45\/c ∈ menu.cps.toList)->OverL ps r->Q (tx r) H'
theorem bL (T:Top K mg):Callee P w K mg base 1 "_law_signs" ["_law_number", "_law_places", "_law_width_here", "_law_menu"] (ci K):=by
 refine T.jW.cal df (by unfold ci; exact LenSp.h) (fun _ _ _ _ _ _ us hl=>match us,hl with | [_,_,_,_],_=>rfl) (fun f cdv A outer s H vs Q E hr h=>?_);unfold ci at h;walk_at "el";refine ⟨_,(ac (ai (i:=4) df.nd rfl lc (am za (br (aa (qs [45]) ab)) (qv 2)))
   (ac (bf PassesOwn.never rfl (iterE K rfl (qv 1)) (ag (i:=5) df.nd rfl lc) (ac (jf (az (ixE K rfl) (qv 3) (am b9 (qv 0) (au (lenE K rfl) rfl T.bc aL (aa (qv 3) ab))) (fun _ _=>rfl)) (rF (qv 4) (qv 5) ng (fun _=>rfl)))
   (af (ai (i:=0) df.nd rfl lc (am ip (qv 0) (au (lenE K rfl) rfl T.bc aL (aa (qv 3) ab)))))))
   (af (aq (joinE K rfl (qv 4)))))),?_⟩
 rename_i n p w' z;obtain ⟨mn,rfl⟩:∃ x,z=st x:=⟨_,(aF z).symm⟩;obtain ⟨N,W,ps,rfl,rfl,hW,hS,hp,hm,hm2,q⟩:=h;simp only [ar] at hm hm2 q;walk_at "rd";refine ⟨by decide,fun p1 hp1=>⟨_,upd_same,by omega,by omega,by decide,fun g hg=>?_⟩⟩;have n1:=ae hp1 (.lst [V.str (st [45])]);have hg0:H g=none:=n1.free hg;have s1:=n1.trans (ae hg (.lst (List.replicate (W:Int).toNat [V.str (st [45])]).flatten));refine .inl ⟨⟨_,s1.seq hS⟩,?_⟩;refine dX nV ps (fun i σ H'=>∃ (M:Nat) (r:List Nat) (u:Option V),σ = [some (nV M),some (.ref p),some (nV W),some (.str (st mn)),some (.ref g),u]/\Same H H'/\H' g=some (.lst (r.map sgn))/\r.length=W/\(∀ c ∈ r,c=45\/c ∈ mn)/\OverL ps r)
  ⟨N,List.replicate W 45,none,rfl,s1,?_,by simp,fun c hc=>.inl (List.eq_of_mem_replicate hc),fun i c e n=>absurd (List.eq_of_mem_replicate (List.mem_of_getElem? e)) n⟩ (fun i σ H' _ ⟨_,_,_,_,z,_⟩=>z.seq hS) ?_ ?_
 ·rw [upd_same,Int.toNat_natCast];simp
 ·rintro i x σ H1 hx ⟨M,r,u,rfl,s2,e2,hl,hc,ho⟩;have hxW:=hp x (List.mem_of_getElem? hx);walk_at "rd";obtain ⟨c,hcm,ec⟩:=o9 hm M;refine ⟨by omega,by omega,by omega,c,ec,_,x,e2,o7 (by rw [List.length_map]; omega),by omega,⟨by omega,by omega⟩,M / mn.length,r.set x c,_,rfl,aH s2 hg0,?_,by rw [List.length_set]; exact hl,fun d hd=>?_,fun j d e n=>?_⟩
  ·rw [upd_same,List.map_set]
  ·rcases List.mem_or_eq_of_mem_set hd with z | z
   ·exact hc d z
   ·rw [z];exact .inr hcm
  ·by_cases hj:x=j
   ·subst hj;exact List.mem_of_getElem? hx
   ·rw [List.getElem?_set_ne hj] at e;exact ho j d e n
 ·rintro σ H1 ⟨M,r,u,rfl,s2,e2,hl,hc,ho⟩;walk_at "rd";exact ⟨r,SqL.of e2,by omega,q r H1 s2 hl hc ho⟩
theorem jl {α β:Type} {F:α -> V->Prop} {P:β -> Prop} {g:β -> V} (h:∀ a v,F a v->∃ b,P b/\v=g b):∀ {l:List α} {vs:List V},Paired F l vs->∃ bs:List β,vs=bs.map g/\bs.length=l.length/\∀ b ∈ bs,P b
 | _,_,.nil=>⟨[],rfl,rfl,fun b hb=>by simp at hb⟩
 | _,_,.cons r p=>by
  obtain ⟨b,h1,rfl⟩:=h _ _ r;obtain ⟨bs,rfl,h3,h4⟩:=jl h p;refine ⟨b::bs,rfl,by simp [h3],fun c hc=>?_⟩;rcases List.mem_cons.mp hc with rfl | hc
  ·exact h1
  ·exact h4 c hc
theorem ki {α:Type} {l:List α} {i:Nat} (h:i < l.length):∃ c,c ∈ l/\atI l (i:Int)=some c:=⟨l[i],List.getElem_mem h,bR (List.getElem?_eq_getElem h)⟩
theorem nj {cs:List Nat} {B:Nat} {vs:List V} (e:vs=cs.map nV) (h:∀ c ∈ cs,c<=B) {i:Nat} (hi:i < vs.length):∃ c,c<=B/\atI vs (i:Int)=some (nV c):=by
 subst e;obtain ⟨v,hv,ev⟩:=ki hi;obtain ⟨c,hc,rfl⟩:=List.mem_map.mp hv;exact ⟨c,h c hc,ev⟩
noncomputable def dE (K:Frag):Sp:=aA fun a=>aA fun p=>aD fun H Q _=>∃ (ns:List Int) (ps:List Nat),SqL K H a (ns.map V.int)/\SqL K H p (ps.map nV)/\1<=ps.length/\ps.length<=100/\∀ (q:Addr) (H':Hp) (os:List Nat),H q=none->Same H H'->H' q=some (.lst (os.map nV))->(∀ x ∈ os,x ∈ ps)->Q (.ref q) H'
theorem gM (T:Top K mg):Callee P w K mg base 2 "_law_over_at" ["_law_script", "_law_told_here"] (dE K):=by
 refine T.ix.cal dD (by unfold dE; exact LenSp.h) (fun _ _ _ _ _ _ us hl=>match us,hl with | [_,_],_=>rfl) (fun f cdv A outer s H vs Q E hr h=>?_);unfold dE at h;walk_at "el";refine ⟨_,(ac (ai (i:=2) dD.nd rfl lc (ak (ah T) hr.m rfl (aa (qv 0) (aa ad (aa (au (lenE K rfl) rfl T.bc aL (aa (qv 1) ab)) ab)))))
   (ac (ai (i:=3) dD.nd rfl lc (az (ixE K rfl) (br (aa ad (aa ad (aa ad (aa ad (aa ad (aa ad ab))))))) (ak (ah T) hr.m rfl (aa (qv 0) (aa ad (aa ad ab)))) (fun _ _=>rfl)))
   (af (aq (aX (nt:=1) (fi:=[1,2]) (N':=["_law_j", "_law_told_here", "_law_turn"]) rfl (cscope rfl (by decide +kernel)) (cnames (N:=["_law_script", "_law_told_here", "_law_turn", "_law_count"]) (sc:=defScope cP) rfl rfl (by decide +kernel)) (aY (by decide)) (bo rfl T.bE (au (gp rfl) rfl T.rD pR (aa (qv 3) (aa (au (lenE K rfl) rfl T.bc aL (aa (qv 1) ab)) ab)))) (fun _ _ _ _ _=>(ag (i:=0) (by show (["_law_j", "_law_told_here", "_law_turn"]:List Str).Nodup; decide +kernel) rfl lc)) (fun _ _ _ _ _=>aM) (fun _ _ _ _ _=>(az (ixE K rfl) (qv 1) (am b9 (am aj (qv 2) (qv 0)) (au (lenE K rfl) rfl T.bc aL (aa (qv 1) ab))) (fun _ _=>rfl)))))))),?_⟩
 rename_i a p;obtain ⟨ns,ps,hS,hP,h1,h2,q⟩:=h;have hlm:(ps.map nV).length=ps.length:=List.length_map ..;walk_at "rd";refine ⟨_,.inl hP,aC hS (by decide) (by decide) (by omega) (by omega) fun r1 hr1=>?_⟩;walk_at "rd";refine ⟨by decide,fun p1 hp1=>?_⟩;have s1:=ae hp1 (.lst [V.int 0,V.int 1,V.int 2,V.int 3,V.int 2,V.int 3]);refine aC (s1.seq hS) (by decide) (by decide) (by decide) (by decide) fun r2 hr2=>?_
 obtain ⟨c,hc,ec⟩:=nj (cs:=[0,1,2,3,2,3]) (B:=3) (vs:=[V.int 0,V.int 1,V.int 2,V.int 3,V.int 2,V.int 3]) rfl (by decide) (i:=r2) (by show r2 < 6; omega);walk_at "rd";refine ⟨_,_,.inl (SqL.of upd_same),ec,_,.inl (s1.seq hP),?_⟩;walk_at "rd";rw [hlm];have hz:∃ z:Nat,(if (ps.length:Int) < (c:Int) then (ps.length:Int) else (c:Int))=(z:Int)/\z<=100:=by
  split
  ·exact ⟨_,rfl,h2⟩
  ·exact ⟨_,rfl,by omega⟩
 obtain ⟨z,ez,hz⟩:=hz;rw [ez,Int.toNat_natCast];refine ⟨by omega,by omega,fun D hD=>?_⟩;refine kj (lo:=0) (n:=z) (fun _ v _=>∃ x,x ∈ ps/\v=nV x) hD (by omega) (fun _ _ _ _ _ _ _ r=>r) ?_ ?_
 ·intro i H1 out non hi s2 ho;have s12:=s1.trans s2;walk_at "rd";rw [show ((r1:Int)+(i:Int))=((r1+i:Nat):Int) by omega];obtain ⟨v,hv,ev⟩:=o9 (l:=ps.map nV) (by rw [hlm]; exact h1) (r1+i);refine ⟨_,.inl (s12.seq hP),by rw [hlm]; omega,_,v,.inl (s12.seq hP),ev,?_⟩;obtain ⟨x,hx,rfl⟩:=List.mem_map.mp hv;exact ho _ _ (Same.refl _) ⟨x,hx,rfl⟩
 ·intro H1 vs s2 e2 p2;obtain ⟨os,rfl,_,ho⟩:=jl (fun _ _ r=>r) p2;exact q D H1 os (s1.free hD) (s1.trans s2) e2 ho
structure RuleOk (W:Nat) (r:Rule):Prop where
 row:RowL r.1
 rowN:r.1.length=W
 word:r.2.1=passT\/r.2.1=dropT
 over:RowL r.2.2
 overN:r.2.2.length=W
theorem tP {r m:List Nat} (h:∀ c ∈ r,c=45\/c ∈ m) (hm:RowL m):RowL r:=fun c hc=>by
 rcases h c hc with z | z
 ·exact .inr (.inr z)
 ·exact hm c z
theorem re {H:Hp} {p:Addr} {N W:Nat} {ps m:List Nat} {Q:VK} {E:XK} (hW:W<=1000) (hS:SqL K H p (ps.map nV)) (hp:∀ x ∈ ps,x < W) (hm1:1<=m.length) (hm2:m.length<=100) (hm:RowL m) (q:∀ r H',Same H H'->r.length=W->RowL r->Q (tx r) H'):ci K [nV N,.ref p,nV W,.str (st m)] H Q E:=
 ⟨N,W,ps,rfl,rfl,hW,hS,hp,by simpa using hm1,by simpa using hm2,fun r H' s hl hc _=>q r H' s hl (tP (by simpa using hc) hm)⟩
theorem gf {H:Hp} {p:Addr} {N W:Nat} {ps m:List Nat} {Q:VK} {E:XK} (hW:W<=1000) (hS:SqL K H p (ps.map nV)) (hp:∀ x ∈ ps,x < W) (hm1:1<=m.length) (hm2:m.length<=100) (hm:RowL m) (q:∀ r H',Same H H'->r.length=W->RowL r->OverL ps r->Q (tx r) H'):ci K [nV N,.ref p,nV W,.str (st m)] H Q E:=
 ⟨N,W,ps,rfl,rfl,hW,hS,hp,by simpa using hm1,by simpa using hm2,fun r H' s hl hc ho=>q r H' s hl (tP (by simpa using hc) hm) ho⟩
noncomputable def f6 (K:Frag):Sp:=aA fun a=>bB fun k=>aA fun p=>aA fun o=>bB fun w=>aD fun H Q _=>∃ (ns:List Int) (k0 W:Nat) (ps os:List Nat),SqL K H a (ns.map V.int)/\k=(k0:Int)/\k0<=50000/\w=(W:Int)/\W<=1000/\SqL K H p (ps.map nV)/\(∀ x ∈ ps,x < W)/\SqL K H o (os.map nV)/\(∀ x ∈ os,x < W) /\
   ∀ t H' (r:Rule),H t=none->Same H H'->H' t=some (.tup [tx r.1,tx r.2.1,tx r.2.2])->RuleOk W r->OverL os r.2.2->OverL ps r.1->Q (.ref t) H'
theorem pj (T:Top K mg):Callee P w K mg base 2 "_law_rule" ["_law_script", "_law_k", "_law_told_here", "_law_over_at_here", "_law_width_here"] (f6 K):=by
 refine T.lb.cal dS (by unfold f6; exact LenSp.h) (fun _ _ _ _ _ _ us hl=>match us,hl with | [_,_,_,_,_],_=>rfl) (fun f cdv A outer s H vs Q E hr h=>?_);unfold f6 at h;walk_at "el";refine ⟨_,(ac (ai (i:=5) dS.nd rfl lc (ak (bL T) hr.m rfl (aa (ak (ah T) hr.m rfl (aa (qv 0) (aa (qv 1) (aa ad ab)))) (aa (qv 2) (aa (qv 4) (aa (qs [48,49,45,45,45]) ab))))))
   (ac (ai (i:=6) dS.nd rfl lc (ak (ah T) hr.m rfl (aa (qv 0) (aa (am aj (qv 1) ad) (aa ad ab)))))
   (ac (ai (i:=7) dS.nd rfl lc (ak (bL T) hr.m rfl (aa (am ip (qv 6) ad) (aa (qv 3) (aa (qv 4) (aa (qs [48,49,45,45]) ab))))))
   (af (aq (aS (aa (qv 5) (aa (az (ixE K rfl) (br (aa (qs [112,97,115,115]) (aa (qs [112,97,115,115]) (aa (qs [112,97,115,115]) (aa (qs [100,114,111,112]) ab))))) (am b9 (qv 6) ad) (fun _ _=>rfl)) (aa (qv 7) ab))))))))),?_⟩
 rename_i a k p o w';obtain ⟨ns,k0,W,ps,os,hS,rfl,hk,rfl,hW,hP,hp,hO,ho,q⟩:=h;walk_at "rd";refine aC hS (by omega) (by omega) (by decide) (by decide) fun r1 hr1=>?_
 walk_at "rd";refine gf hW hP hp (by decide) (by decide) (by unfold RowL; decide) fun row H1 s1 hl1 hr1 hov1=>?_
 walk_at "rd";refine aC (s1.seq hS) (by omega) (by omega) (by decide) (by decide) fun r2 hr2=>?_
 walk_at "rd";rw [show ((r2:Int) / 4)=((r2 / 4:Nat):Int) by omega];refine gf hW (s1.seq hO) ho (by decide) (by decide) (by unfold RowL; decide) fun over H2 s2 hl2 hr2 hov=>?_
 refine ⟨by decide,fun t1 ht1=>?_⟩;have s3:=s1.trans (s2.trans (ae ht1 (.lst ([passT,passT,passT,dropT].map tx))));obtain ⟨v,hv,ev⟩:=o9 (l:=[passT,passT,passT,dropT].map tx) (by decide) r2;refine ⟨_,v,.inl (SqL.of upd_same),ev,by decide,fun t2 ht2=>?_⟩;obtain ⟨wd,hwd,rfl⟩:=List.mem_map.mp hv;refine q t2 _ (row,wd,over) (s3.free ht2) (s3.trans (ae ht2 _)) upd_same ⟨hr1,hl1,?_,hr2,hl2⟩ hov hov1;simp only [List.mem_cons,List.not_mem_nil,or_false] at hwd;rcases hwd with z | z | z | z
 ·exact .inl z
 ·exact .inl z
 ·exact .inl z
 ·exact .inr z
noncomputable def abc:List Nat:=(List.range 26).map (97+·)
theorem sn {i:Nat} (h:i < 26):abc[i]? = some (97+i):=by
 unfold abc;rw [List.getElem?_map,List.getElem?_range h];rfl
def Low (l:List Nat):Prop:=∀ c ∈ l,97<=c/\c<=122
structure Names (n:Nat) (ls:List (List Nat)):Prop where
 len:ls.length=n
 nd:ls.Nodup
 low:∀ l ∈ ls,Low l
 short:∀ l ∈ ls,1<=l.length/\l.length<=8
 kind:(∃ c,∀ l ∈ ls,∃ k,l=List.replicate k c)\/∃ u v,∀ l ∈ ls,∃ c,l=u++[c]++v
theorem kJ {n:Nat} (f:Nat->List Nat) (h:∀ i j,i < n->j < n->f i=f j->i=j):((List.range n).map f).Nodup:=by
 refine List.pairwise_map.mpr (List.Pairwise.imp_of_mem ?_ List.nodup_range);intro a b ha hb hab e;exact hab (h a b (List.mem_range.mp ha) (List.mem_range.mp hb) e)
theorem sL {n c:Nat} (hn:n<=8) (hc:97<=c/\c<=122):Names n ((List.range n).map fun j=>List.replicate (1+j) c) where
 len:=by simp
 nd:=kJ _ fun i j _ _ e=>by
  have:=congrArg List.length e;simp at this;exact this
 low:=fun l hl=>by
  obtain ⟨j,_,rfl⟩:=List.mem_map.mp hl;exact fun d hd=>by rw [List.eq_of_mem_replicate hd]; exact hc
 short:=fun l hl=>by
  obtain ⟨j,hj,rfl⟩:=List.mem_map.mp hl;have:=List.mem_range.mp hj;simp;omega
 kind:=.inl ⟨c,fun l hl=>by
  obtain ⟨j,hj,rfl⟩:=List.mem_map.mp hl;exact ⟨_,rfl⟩⟩
theorem wf {n m s p:Nat} {b:List Nat} (hn:n<=8) (hb:Low b) (hl:b.length<=7) (hs:s=1\/s=7\/s=25\/s=11):Names n ((List.range n).map fun j=>b.take p++[97+(m+s*j) % 26]++b.drop p) where
 len:=by simp
 nd:=kJ _ fun i j hi hj e=>by
  have e1:=List.append_cancel_right e;have e2:=List.append_cancel_left e1;have e3:97+(m+s*i) % 26=97+(m+s*j) % 26:=by simpa using e2
  rcases hs with rfl | rfl | rfl | rfl <;> omega
 low:=fun l hl=>by
  obtain ⟨j,_,rfl⟩:=List.mem_map.mp hl;intro d hd;rcases List.mem_append.mp hd with hd | hd
  ·rcases List.mem_append.mp hd with hd | hd
   ·exact hb d (List.mem_of_mem_take hd)
   ·rw [List.mem_singleton.mp hd];have:=Nat.mod_lt (m+s*j) (show 26 > 0 by decide);exact ⟨by omega,by omega⟩
  ·exact hb d (List.mem_of_mem_drop hd)
 short:=fun l hl=>by
  obtain ⟨j,_,rfl⟩:=List.mem_map.mp hl;simp;omega
 kind:=.inr ⟨b.take p,b.drop p,fun l hl=>by
  obtain ⟨j,hj,rfl⟩:=List.mem_map.mp hl;exact ⟨_,rfl⟩⟩
theorem cB {α β:Type} (f:α -> β) (l:List α):(l.flatMap fun x=>[f x])=l.map f:=by
 induction l with
 | nil=>rfl
 | cons x l ih=>rw [List.flatMap_cons,ih]; rfl
noncomputable def fF (K:Frag):Sp:=aA fun a=>bB fun k=>bB fun m=>aD fun H Q _=>∃ (ns:List Int) (k0 n:Nat),SqL K H a (ns.map V.int)/\k=(k0:Int)/\k0<=50000/\m=(n:Int)/\n<=8/\∀ p H' ls,H p=none->Same H H'->H' p=some (.lst (ls.map tx))->Names n ls->Q (.ref p) H'
theorem iT (T:Top K mg):Callee P w K mg base 2 "_law_names" ["_law_script", "_law_k", "_law_many"] (fF K):=by
 refine T.j3.cal bt (by unfold fF; exact LenSp.h) (fun _ _ _ _ _ _ us hl=>match us,hl with | [_,_,_],_=>rfl) (fun f cdv A outer s H vs Q E hr h=>?_);unfold fF at h;walk_at "el";refine ⟨_,(ac (ai (i:=3) bt.nd rfl lc (qs [97,98,99,100,101,102,103,104,105,106,107,108,109,110,111,112,113,114,115,116,117,118,119,120,121,122]))
   (ac (ai (i:=4) bt.nd rfl lc (ak (ah T) hr.m rfl (aa (qv 0) (aa (qv 1) (aa ad ab)))))
   (ac (aJ (aw ba (ak (ah T) hr.m rfl (aa (qv 0) (aa (am aj (qv 1) ad) (aa ad ab)))) ad) (af (aq (aX (nt:=1) (fi:=[3,4]) (N':=["_law_j", "_law_letters_here", "_law_start"]) rfl (cscope rfl (by decide +kernel)) (cnames (N:=["_law_script", "_law_k", "_law_many", "_law_letters_here", "_law_start", "_law_body", "_law_j", "_law_at", "_law_step"]) (sc:=defScope cN) rfl rfl (by decide +kernel)) (aY (by decide)) (bo rfl T.bE (qv 2)) (fun _ _ _ _ _=>(ag (i:=0) (by show (["_law_j", "_law_letters_here", "_law_start"]:List Str).Nodup; decide +kernel) rfl lc)) (fun _ _ _ _ _=>aM) (fun _ _ _ _ _=>(am bp (az (ixE K rfl) (qv 1) (qv 2) (fun _ _=>rfl)) (am aj ad (qv 0))))))) av)
   (ac (ai (i:=5) bt.nd rfl lc (qs []))
   (ac (bf PassesOwn.never rfl (bo rfl T.bE (ak (ah T) hr.m rfl (aa (qv 0) (aa (am aj (qv 1) ad) (aa ad ab))))) (ag (i:=6) bt.nd rfl lc) (af (ai (i:=5) bt.nd rfl lc (am aj (qv 5) (az (ixE K rfl) (qv 3) (ak (ah T) hr.m rfl (aa (qv 0) (aa (am aj (am aj (qv 1) ad) (qv 6)) (aa ad ab)))) (fun _ _=>rfl))))))
   (ac (ai (i:=7) bt.nd rfl lc (ak (ah T) hr.m rfl (aa (qv 0) (aa (am aj (qv 1) ad) (aa (am aj (au (lenE K rfl) rfl T.bc aL (aa (qv 5) ab)) ad) ab)))))
   (ac (ai (i:=8) bt.nd rfl lc (az (ixE K rfl) (br (aa ad (aa ad (aa ad (aa ad ab))))) (ak (ah T) hr.m rfl (aa (qv 0) (aa (am aj (qv 1) ad) (aa ad ab)))) (fun _ _=>rfl)))
   (af (aq (aX (nt:=1) (fi:=[5,3,7,4,8]) (N':=["_law_j", "_law_body", "_law_letters_here", "_law_at", "_law_start", "_law_step"]) rfl (cscope rfl (by decide +kernel)) (cnames (N:=["_law_script", "_law_k", "_law_many", "_law_letters_here", "_law_start", "_law_body", "_law_j", "_law_at", "_law_step"]) (sc:=defScope cN) rfl rfl (by decide +kernel)) (aY (by decide)) (bo rfl T.bE (qv 2)) (fun _ _ _ _ _=>(ag (i:=0) (by show (["_law_j", "_law_body", "_law_letters_here", "_law_at", "_law_start", "_law_step"]:List Str).Nodup; decide +kernel) rfl lc)) (fun _ _ _ _ _=>aM) (fun _ _ _ _ _=>(am aj (am aj (bA (slE K rfl) (qv 1) cm (bF (qv 3))) (az (ixE K rfl) (qv 2) (am b9 (am aj (qv 4) (am bp (qv 5) (qv 0))) ad) (fun _ _=>rfl))) (bA (slE K rfl) (qv 1) (bF (qv 3)) cm))))))))))))),?_⟩
 rename_i a k m;obtain ⟨ns,k0,n,hS,rfl,hk,rfl,hn,q⟩:=h;walk_at "rd";refine aC hS (by omega) (by omega) (by decide) (by decide) fun r1 hr1=>?_
 walk_at "rd";refine aC hS (by omega) (by omega) (by decide) (by decide) fun r2 hr2=>?_
 walk_at "rd";rw [show ([97,98,99,100,101,102,103,104,105,106,107,108,109,110,111,112,113,114,115,116,117,118,119,120,121,122]:List Nat)=abc from rfl];have a26:abc.length=26:=rfl;have ar1:atI abc (r1:Int)=some (97+r1):=bR (sn (by omega));refine ite2 (fun g=>⟨by omega,by omega,fun D hD=>?_⟩) fun g=>?_
 ·rw [Int.toNat_natCast];refine jr (lo:=0) (n:=n) (h:=fun j=>[tx (List.replicate (1+j) (97+r1))]) hD (by omega) (fun _=>by simp) ?_ ?_
  ·intro i H1 out non hi s1 ho _;walk_at "rd";refine ⟨by omega,_,ar1,by omega,by omega,?_⟩;rw [show (1+(i:Int)).toNat=1+i by omega];exact ho _ _ rfl (Same.refl _)
  ·intro H1 s1 e1;have ef:(List.range n).flatMap (fun j=>[tx (List.replicate (1+j) (97+r1))])=((List.range n).map fun j=>List.replicate (1+j) (97+r1)).map tx:=by
    rw [List.map_map];exact cB _ _
   rw [ef] at e1;exact q D H1 _ hD s1 e1 (sL hn ⟨by omega,by omega⟩)
 refine aC hS (by omega) (by omega) (by decide) (by decide) fun r3 hr3=>?_
 walk_at "rd";refine ⟨by omega,by omega,?_⟩;rw [Int.toNat_natCast];refine bT (lo:=0) (n:=r3) (fun i σ H'=>∃ (b:List Nat) (u:Option V),σ = [some (.ref a),some (nV k0),some (nV n),some (.str (st abc)),some (nV r1),some (tx b),u,none,none]/\H'=H/\Low b/\b.length=i) ⟨[],none,rfl,rfl,fun c hc=>by simp at hc,rfl⟩ ?_ ?_
 ·rintro i σ H1 hi ⟨b,u,rfl,rfl,hb,hbl⟩;walk_at "rd";refine aC hS (by omega) (by omega) (by decide) (by decide) fun r4 hr4=>?_
  walk_at "rd";refine ⟨by omega,97+r4,bR (sn (by omega)),?_⟩;walk_at "rd";refine ⟨by omega,b++[97+r4],_,rfl,fun c hc=>?_,by rw [List.length_append,hbl]; rfl⟩;rcases List.mem_append.mp hc with z | z
  ·exact hb c z
  ·rw [List.mem_singleton.mp z];exact ⟨by omega,by omega⟩
 ·rintro σ H1 ⟨b,u,rfl,rfl,hb,hbl⟩;walk_at "rd";refine ⟨by omega,aC hS (by omega) (by omega) (by omega) (by omega) fun r5 hr5=>⟨by decide,fun t1 ht1=>?_⟩⟩;have s1:=ae ht1 (.lst [V.int 1,V.int 7,V.int 25,V.int 11]);refine aC (s1.seq hS) (by omega) (by omega) (by decide) (by decide) fun r6 hr6=>?_
  obtain ⟨v,hv,ev⟩:=ki (l:=[V.int 1,V.int 7,V.int 25,V.int 11]) (i:=r6) (by show r6 < 4; omega);obtain ⟨st',rfl,hst⟩:∃ s:Nat,v=nV s/\(s=1\/s=7\/s=25\/s=11):=by
   simp only [List.mem_cons,List.not_mem_nil,or_false] at hv;rcases hv with rfl | rfl | rfl | rfl
   ·exact ⟨1,rfl,by simp⟩
   ·exact ⟨7,rfl,by simp⟩
   ·exact ⟨25,rfl,by simp⟩
   ·exact ⟨11,rfl,by simp⟩
  walk_at "rd";refine ⟨_,_,.inl (SqL.of upd_same),ev,by omega,by omega,fun D hD=>?_⟩;rw [Int.toNat_natCast];refine jr (lo:=0) (n:=n) (h:=fun j=>[tx (b.take r5++[97+(r1+st'*j) % 26]++b.drop r5)]) hD (by omega) (fun _=>by simp) ?_ ?_
  ·intro i H2 out non hi s2 ho _;walk_at "rd";have hm:=Nat.mod_lt (r1+st'*i) (show 26 > 0 by decide);have hl1:=List.length_take_le r5 b;have hl2:(b.drop r5).length<=b.length:=by rw [List.length_drop]; omega
   have e26:((r1:Int)+(st':Int)*(i:Int)) % 26=(((r1+st'*i) % 26:Nat):Int):=by
    rw [Int.natCast_emod,Int.natCast_add,Int.natCast_mul];rfl
   rw [Int.toNat_natCast,e26];refine ⟨by omega,by omega,by omega,.inr ⟨Int.lt_of_lt_of_le (by decide) (Int.natCast_nonneg i),Int.lt_of_lt_of_le (Int.ofNat_lt.mpr hi) (Int.le_trans (Int.ofNat_le.mpr hn) (by decide))⟩,by omega,_,bR (sn hm),by omega,by omega,by omega,by omega,?_,ho _ _ rfl (Same.refl _)⟩;rw [List.length_append,List.length_singleton];omega
  ·intro H2 s2 e2;have ef:(List.range n).flatMap (fun j=>[tx (b.take r5++[97+(r1+st'*j) % 26]++b.drop r5)])=((List.range n).map fun j=>b.take r5++[97+(r1+st'*j) % 26]++b.drop r5).map tx:=by
    rw [List.map_map];exact cB _ _
   rw [ef] at e2;exact q D H2 _ (s1.free hD) (s1.trans s2) e2 (wf hn hb (by omega) hst)
structure LayOk (ls:List Fld):Prop where
 to:∃ a b,spanF ls toT 0=some (a,b)/\a < b/\b<=widthL ls
 w1:1<=widthL ls
 w2:widthL ls<=48
 len:ls.length<=3
 pos:∀ x ∈ ls,1<=x.2
 nd:(ls.map (·.1)).Nodup
 low:∀ x ∈ ls,Low x.1/\1<=x.1.length/\x.1.length<=8
theorem kT {α:Type} [DecidableEq α] (t:α):∀ l:List α,l.Nodup->l.length<=(l.filter fun x=>!decide (x=t)).length+1
 | [],_=>by simp
 | x::l,h=>by
  have h2:=(List.nodup_cons.mp h);by_cases e:x=t
  ·subst e;have:l.filter (fun y=>!decide (y=x))=l:=List.filter_eq_self.mpr fun y hy=>by
    have:¬ y=x:=fun z=>h2.1 (z ▸ hy)
    simp [this]
   rw [List.filter_cons_of_neg (by simp),this,List.length_cons];omega
  ·rw [List.filter_cons_of_pos (by simp [e]),List.length_cons,List.length_cons];have:=kT t l h2.2;omega
theorem n5 {α:Type} (p:α -> Bool) (f:α -> V):∀ l:List α,(l.flatMap fun x=>if p x then [f x] else [])=(l.filter p).map f
 | []=>rfl
 | x::l=>by
  rw [List.flatMap_cons,n5 p f l];by_cases h:p x=true
  ·rw [if_pos h,List.filter_cons_of_pos h];rfl
  ·rw [if_neg h,List.filter_cons_of_neg h];rfl
theorem toLow:Low toT/\1<=toT.length/\toT.length<=8:=⟨by unfold Low toT; decide,by decide,by decide⟩
theorem lay1 {S:Nat} (h1:1<=S) (h2:S<=14):LayOk [(toT,S)] where
 to:=⟨0,S,by simp [spanF],by omega,by simp [widthL]⟩
 w1:=by simp [widthL]; omega
 w2:=by simp [widthL]; omega
 len:=by simp
 pos:=fun x hx=>by rw [List.mem_singleton.mp hx]; exact h1
 nd:=by simp
 low:=fun x hx=>by rw [List.mem_singleton.mp hx]; exact toLow
structure NameOk (n:List Nat):Prop where
 low:Low n
 l1:1<=n.length
 l8:n.length<=8
theorem layAhead {S A:Nat} {n:List Nat} (h1:1<=S) (h2:S<=14) (a1:1<=A) (a2:A<=17) (hn:NameOk n) (ht:¬ n=toT):LayOk [(n,A),(toT,S)] where
 to:=⟨A,A+S,by simp [spanF,ht],by omega,by simp [widthL]⟩
 w1:=by simp [widthL]; omega
 w2:=by simp [widthL]; omega
 len:=by simp
 pos:=fun x hx=>by
  simp only [List.mem_cons,List.not_mem_nil,or_false] at hx;rcases hx with rfl | rfl
  ·exact a1
  ·exact h1
 nd:=by simpa using ht
 low:=fun x hx=>by
  simp only [List.mem_cons,List.not_mem_nil,or_false] at hx;rcases hx with rfl | rfl
  ·exact ⟨hn.1,hn.2,hn.3⟩
  ·exact toLow
theorem layBehind {ls:List Fld} {S A B:Nat} {n0 n:List Nat} (h1:1<=S) (h2:S<=14) (a1:1<=A) (a2:A<=17) (hn0:NameOk n0) (ht0:¬ n0=toT) (b1:1<=B) (b2:B<=17) (hn:NameOk n) (ht:¬ n=toT) (hd:¬ n0=n)
  (e:ls=[(toT,S)]\/ls=[(n0,A),(toT,S)]):LayOk (ls++[(n,B)]):=by
 rcases e with rfl | rfl
 ·refine ⟨⟨0,S,by simp [spanF],by omega,by simp [widthL]⟩,by simp [widthL]; omega,by simp [widthL]; omega,by simp,fun x hx=>?_,?_,fun x hx=>?_⟩
  ·simp only [List.mem_append,List.mem_cons,List.not_mem_nil,or_false] at hx;rcases hx with rfl | rfl
   ·exact h1
   ·exact b1
  ·simpa using fun z=>ht z.symm
  ·simp only [List.mem_append,List.mem_cons,List.not_mem_nil,or_false] at hx;rcases hx with rfl | rfl
   ·exact toLow
   ·exact ⟨hn.1,hn.2,hn.3⟩
 ·refine ⟨⟨A,A+S,by simp [spanF,ht0],by omega,by simp [widthL]⟩,by simp [widthL]; omega,by simp [widthL]; omega,by simp,fun x hx=>?_,?_,fun x hx=>?_⟩
  ·simp only [List.mem_append,List.mem_cons,List.not_mem_nil,or_false] at hx;rcases hx with (rfl | rfl) | rfl
   ·exact a1
   ·exact h1
   ·exact b1
  ·simp [ht0,hd];exact fun z=>ht z.symm
  ·simp only [List.mem_append,List.mem_cons,List.not_mem_nil,or_false] at hx;rcases hx with (rfl | rfl) | rfl
   ·exact ⟨hn0.1,hn0.2,hn0.3⟩
   ·exact toLow
   ·exact ⟨hn.1,hn.2,hn.3⟩
noncomputable def wF (ns:List Int):Nat:=if drawN ns 3 4=0 then 1+drawN ns 4 14+drawN ns 5 18+drawN ns 6 18 else 1+drawN ns 0 3+drawN ns 1 2+drawN ns 2 2
noncomputable def eA (K:Frag):Sp:=aA fun a=>aD fun H Q _=>∃ ns:List Int,SqL K H a (ns.map V.int)/\∀ p H' ls,H p=none->Same H H'->Lay H' p ls->LayOk ls->widthL ls=wF ns->Q (.ref p) H'
theorem mq (T:Top K mg):Callee P w K mg base 3 "_law_layout" ["_law_script"] (eA K):=by
 refine T.iX.cal aZ (by unfold eA; exact LenSp.h) (fun _ _ _ _ _ _ us hl=>match us,hl with | [_],_=>rfl) (fun f cdv A outer s H vs Q E hr h=>?_);unfold eA at h;walk_at "el";refine ⟨_,(ac (ai (i:=1) aZ.nd rfl lc (am aj ad (ak (ah T) hr.m rfl (aa (qv 0) (aa ad (aa ad ab))))))
   (ac (ai (i:=2) aZ.nd rfl lc (ak (ah T) hr.m rfl (aa (qv 0) (aa ad (aa ad ab)))))
   (ac (ai (i:=3) aZ.nd rfl lc (ak (ah T) hr.m rfl (aa (qv 0) (aa ad (aa ad ab)))))
   (cT (aJ (aw ba (ak (ah T) hr.m rfl (aa (qv 0) (aa ad (aa ad ab)))) ad) (ac (ai (i:=1) aZ.nd rfl lc (am aj ad (ak (ah T) hr.m rfl (aa (qv 0) (aa ad (aa ad ab))))))
   (ac (ai (i:=2) aZ.nd rfl lc (ak (ah T) hr.m rfl (aa (qv 0) (aa ad (aa ad ab)))))
   (af (ai (i:=3) aZ.nd rfl lc (ak (ah T) hr.m rfl (aa (qv 0) (aa ad (aa ad ab)))))))) av)
   (ac (dN (i:=4) (nt:=1) (fi:=[]) (N':=["_law_name"]) aZ.nd rfl lc rfl (cscope rfl (by decide +kernel)) (cnames (N:=["_law_script", "_law_size_here", "_law_ahead", "_law_behind", "_law_names_here", "_law_layout_here"]) (sc:=defScope di) rfl rfl (by decide +kernel)) (aY (by decide)) (iterE K rfl (ak (iT T) hr.m rfl (aa (qv 0) (aa ad (aa ad ab))))) (fun _ _ _ _ _=>(ag (i:=0) (by show (["_law_name"]:List Str).Nodup; decide +kernel) rfl lc)) (fun _ _ _ _ _=>(jS (aw cw (qv 0) (qs [116,111])))) (fun _ _ _ _ _=>(qv 0)))
   (ac (ai (i:=5) aZ.nd rfl lc (br (aa (aS (aa (qs [116,111]) (aa (qv 1) ab))) ab)))
   (cT (aJ (aw js (qv 2) ad) (af (bQ (kA (qv 5) ad (aS (aa (az (ixE K rfl) (qv 4) ad (fun _ _=>rfl)) (aa (qv 2) ab)))))) av)
   (cT (aJ (aw js (qv 3) ad) (af (bQ (cC (qv 5) (aS (aa (az (ixE K rfl) (qv 4) ad (fun _ _=>rfl)) (aa (qv 3) ab)))))) av)
   (af (aq (qv 5))))))))))),?_⟩
 rename_i a;obtain ⟨ns,hS,q⟩:=h;have d1:=eI ns 0 (m:=3) (by decide);have d2:=eI ns 1 (m:=2) (by decide);have d3:=eI ns 2 (m:=2) (by decide);have d5:=eI ns 4 (m:=14) (by decide);have d6:=eI ns 5 (m:=18) (by decide);have d7:=eI ns 6 (m:=18) (by decide);walk_at "rd";refine fW (k:=0) (m:=3) hS (by omega) (by decide) (by decide) ?_;walk_at "rd";refine fW (k:=1) (m:=2) hS (by omega) (by decide) (by decide) ?_;walk_at "rd";refine fW (k:=2) (m:=2) hS (by omega) (by decide) (by decide) ?_;walk_at "rd";refine ⟨fun σ' H'=>∃ S A B:Nat,σ'=[some (.ref a),some (nV S),some (nV A),some (nV B),none,none]/\H'=H/\1<=S/\S<=14/\A<=17/\B<=17/\S+A+B=wF ns,?_,?_⟩
 ·refine fW (k:=3) (m:=4) hS (by omega) (by decide) (by decide) ?_;walk_at "rd";refine ite2 (fun g0=>?_) fun g0=>⟨1+drawN ns 0 3,drawN ns 1 2,drawN ns 2 2,by simp,by omega,by omega,by omega,by omega,by unfold wF; rw [if_neg (by omega)]⟩
  refine fW (k:=4) (m:=14) hS (by omega) (by decide) (by decide) ?_;walk_at "rd";refine fW (k:=5) (m:=18) hS (by omega) (by decide) (by decide) ?_;refine fW (k:=6) (m:=18) hS (by omega) (by decide) (by decide) ?_;exact ⟨1+drawN ns 4 14,drawN ns 5 18,drawN ns 6 18,by simp,rfl,by omega,by omega,by omega,by omega,by unfold wF; rw [if_pos (by omega)]⟩
 rintro σ' H'' ⟨S,A',B,rfl,rfl,hS1,hS2,hA,hB,hwF⟩;walk_at "rd";refine ⟨ns,7,4,hS,rfl,by decide,rfl,by decide,fun pn H1 nm hpn s1 e1 N=>?_⟩;walk_at "rd";refine .inl ⟨⟨_,SqL.of e1⟩,fun D hD=>?_⟩;refine aW (item:=tx) (xs:=nm) (h:=fun l=>if (!decide (l=toT)) then [tx l] else []) hD (SqL.of e1) (by rw [N.len]; decide) (fun l=>by split <;> simp) ?_ ?_
 ·intro l H2 out non hl s2 ho hno;walk_at "rd";refine ite2 (fun g=>?_) fun g=>?_
  ·exact hno H2 (by rw [if_neg (by simp [show l=toT from g])]) (Same.refl _)
  ·exact ho _ H2 (by rw [if_pos (by simpa using (show ¬ l=toT from g))]) (Same.refl _)
 ·intro H2 s2 e2;rw [n5] at e2;have hm:=kT toT nm N.nd;rw [N.len] at hm;have hmn:=N.nd.filter (fun x=>!decide (x=toT));have hmem:∀ l ∈ nm.filter (fun x=>!decide (x=toT)),NameOk l/\¬ l=toT:=fun l hl=>by
   obtain ⟨h1,h2⟩:=List.mem_filter.mp hl;exact ⟨⟨N.low l h1,(N.short l h1).1,(N.short l h1).2⟩,by simpa using h2⟩
  generalize nm.filter (fun x=>!decide (x=toT))=ms at e2 hm hmn hmem;have s12:=s1.trans s2;walk_at "rd";obtain ⟨n0,n1,m2,rfl⟩:∃ n0 n1 m2,ms=n0::n1::m2:=by
   match ms,hm with
   | [],hm=>simp at hm
   | [_],hm=>simp at hm
   | n0::n1::m2,_=>exact ⟨n0,n1,m2,rfl⟩
  obtain ⟨k0,k1⟩:=hmem n0 (by simp);obtain ⟨k2,k3⟩:=hmem n1 (by simp);have k4:¬ n0=n1:=fun z=>by simp [z] at hmn
  refine ⟨by decide,fun p0 hp0=>⟨by decide,fun p1 hp1=>?_⟩⟩;have sa:=ae hp0 (.tup [V.str (st [116,111]),nV S]);have sb:=ae hp1 (.lst [V.ref p0]);have sab:=s12.trans (sa.trans sb);have hp1':=s12.free (sa.free hp1);have ne01:p0≠p1:=fun z=>by rw [<- z,upd_same] at hp1; cases hp1
  have eD:=(sa.trans sb) _ _ e2;refine ⟨fun σ' H'=>∃ ls,σ'=[some (.ref a),some (nV S),some (nV A'),some (nV B),some (.ref D),some (.ref p1)]/\Same H'' H'/\H' D=some (.lst ((n0::n1::m2).map tx))/\Lay H' p1 ls/\((A'=0/\ls=[(toT,S)])\/(1<=A'/\ls=[(n0,A'),(toT,S)])),?_,?_⟩
  ·refine ite2 (fun gA=>⟨⟨_,upd_same⟩,_,tx n0,.inl (SqL.of eD),show atI _ ((0:Nat):Int)=_ from bR rfl,by decide,fun p2 hp2=>⟨[V.ref p0],0,rfl,?_,by simp,by simp,?_⟩⟩) fun gA=>⟨[(toT,S)],rfl,sab,eD,⟨_,upd_same,.cons ⟨p0,rfl,?_⟩ .nil⟩,.inl ⟨by omega,rfl⟩⟩
   ·rw [ao (fun z=>by rw [<- z,upd_same] at hp2; cases hp2),upd_same]
   ·have ne12:p2≠p1:=fun z=>by rw [z,upd_same] at hp2; cases hp2
    have ne02:p0≠p2:=fun z=>by rw [<- z,ao ne01,upd_same] at hp2; cases hp2
    have sc:=sab.trans (ae hp2 (.tup [tx n0,nV A']));have neD:D≠p1:=fun z=>by rw [z,upd_same] at eD; cases eD
    have neD2:D≠p2:=fun z=>by rw [<- z,eD] at hp2; cases hp2
    refine ⟨[(n0,A'),(toT,S)],rfl,aH sc hp1',?_,⟨_,upd_same,.cons ⟨p2,rfl,?_⟩ (.cons ⟨p0,rfl,?_⟩ .nil)⟩,.inr ⟨by omega,rfl⟩⟩
    ·rw [ao neD,ao neD2];exact eD
    ·rw [ao ne12,upd_same]
    ·rw [ao ne01,ao ne02,ao ne01,upd_same];rfl
   ·rw [ao ne01,upd_same];rfl
  ·rintro σ' H3 ⟨ls,rfl,s3,e3,⟨vs,e4,pr⟩,hls⟩;walk_at "rd";refine ⟨fun σ' H'=>∃ ls,σ'=[some (.ref a),some (nV S),some (nV A'),some (nV B),some (.ref D),some (.ref p1)]/\Same H'' H'/\Lay H' p1 ls/\LayOk ls/\widthL ls=wF ns,?_,?_⟩
   ·refine ite2 (fun gB=>⟨⟨_,e4⟩,_,tx n1,.inl (SqL.of e3),show atI _ ((1:Nat):Int)=_ from bR rfl,by decide,fun p4 hp4=>⟨vs,?_,?_,?_⟩⟩) fun gB=>⟨ls,rfl,s3,⟨vs,e4,pr⟩,?_,?_⟩
    ·rw [ao (fun z=>by rw [<- z,e4] at hp4; cases hp4)];exact e4
    ·have:=pr.length;refine Nat.lt_of_le_of_lt ?_ (sizeBig (n:=3) (by decide));rcases hls with ⟨_,rfl⟩ | ⟨_,rfl⟩
     ·simp at this; omega
     ·simp at this; omega
    ·have ne41:p4≠p1:=fun z=>by rw [z,e4] at hp4; cases hp4
     have s4:=ae hp4 (.tup [tx n1,nV B]);refine ⟨ls++[(n1,B)],rfl,aH (s3.trans s4) hp1',⟨_,upd_same,?_⟩,?_,?_⟩
     ·refine eU (j8 (fun t us z=>?_) pr) ⟨p4,rfl,?_⟩
      ·rw [ao (fun y=>by rw [y,e4] at z; cases z)];exact s4 _ _ z
      ·rw [ao ne41,upd_same]
     ·rcases hls with ⟨_,rfl⟩ | ⟨hA1,rfl⟩
      ·exact layBehind (A:=1) hS1 hS2 (by decide) (by decide) k0 k1 (by omega) hB k2 k3 k4 (.inl rfl)
      ·exact layBehind hS1 hS2 hA1 hA k0 k1 (by omega) hB k2 k3 k4 (.inr rfl)
     ·rcases hls with ⟨_,rfl⟩ | ⟨hA1,rfl⟩
      ·simp [widthL]; omega
      ·simp [widthL]; omega
    ·rcases hls with ⟨_,rfl⟩ | ⟨hA1,rfl⟩
     ·exact lay1 hS1 hS2
     ·exact layAhead hS1 hS2 hA1 hA k0 k1
    ·rcases hls with ⟨_,rfl⟩ | ⟨hA1,rfl⟩
     ·simp [widthL]; omega
     ·simp [widthL]; omega
   ·rintro σ' H4 ⟨ls',rfl,s4,hL,ok,hwf⟩;walk_at "rd";exact q p1 H4 ls' hp1' s4 hL ok hwf
structure ToldOk (W:Nat) (ps:List Nat):Prop where
 l1:1<=ps.length
 l5:ps.length<=5
 lt:∀ x ∈ ps,x < W
 nd:ps.Nodup
theorem qR:∀ ms:List Int,(∀ x ∈ ms,0<=x)->ms.map V.int=(ms.map Int.toNat).map nV
 | [],_=>rfl
 | x::ms,h=>by
  rw [List.map_cons,List.map_cons,List.map_cons,qR ms fun y hy=>h y (List.mem_cons_of_mem _ hy),nV,show ((x.toNat:Nat):Int)=x from Int.toNat_of_nonneg (h x List.mem_cons_self)]
noncomputable def gF (K:Frag):Sp:=aA fun a=>aA fun p=>aD fun H Q _=>∃ (ns:List Int) (ls:List Fld),SqL K H a (ns.map V.int)/\Lay H p ls/\LayOk ls/\∀ (q:Addr) (H':Hp) (ps:List Nat),H q=none->Same H H'->H' q=some (.lst (ps.map nV))->ToldOk (widthL ls) ps->Q (.ref q) H'
theorem pd (T:Top K mg):Callee P w K mg base 2 "_law_told" ["_law_script", "_law_layout_here"] (gF K):=by
 refine T.lj.cal bY (by unfold gF; exact LenSp.h) (fun _ _ _ _ _ _ us hl=>match us,hl with | [_,_],_=>rfl) (fun f cdv A outer s H vs Q E hr h=>?_);unfold gF at h;walk_at "el";refine ⟨_,(ac (ai (i:=2) bY.nd rfl lc (ak (ft T) hr.m rfl (aa (qv 1) ab)))
   (ac (aJ (aw AT (qv 2) ad) (af (aq (sT rfl rfl T.kM rfl T.bE (qv 2)))) av)
   (ac (jf (ak (dW T) hr.m rfl (aa (qv 1) ab)) (seqE K rfl rfl (n:=2) (ap (ag (i:=3) bY.nd rfl lc) (ap (ag (i:=4) bY.nd rfl lc) aP))))
   (ac (ai (i:=5) bY.nd rfl lc (qF rfl rfl T.kM rfl T.bE (qv 3) (au (gp rfl) rfl T.rD pR (aa (qv 4) (aa (am aj (qv 3) ad) ab)))))
   (ac (bf PassesOwn.never rfl (bo rfl T.bE (ak (ah T) hr.m rfl (aa (qv 0) (aa ad (aa ad ab))))) (ag (i:=6) bY.nd rfl lc) (af (bQ (cC (qv 5) (ak (ah T) hr.m rfl (aa (qv 0) (aa (am aj ad (qv 6)) (aa (qv 2) ab))))))))
   (af (aq (qJ (K:=K) rfl rfl rfl T.ny rfl T.zp (qv 5))))))))),?_⟩
 rename_i a p;obtain ⟨ns,ls,hS,hL,ok,q⟩:=h;have w1:=ok.w1;have w2:=ok.w2;have hlen:=ok.len;walk_at "rd";refine ⟨ls,hL,by omega,fun H1 s1=>?_⟩;walk_at "rd";generalize eW:widthL ls=W at *;have hL1:=hL.same s1;refine ite2 (fun g=>⟨Int.le_trans (by decide) (Int.natCast_nonneg W),by omega,fun t1 ht1=>?_⟩) fun g=>?_
 ·rw [Int.toNat_natCast];refine q t1 _ (List.range W) (s1.free ht1) (s1.trans (ae ht1 _)) upd_same ⟨by simp; omega,by simp; omega,fun x hx=>List.mem_range.mp hx,List.nodup_range⟩
 obtain ⟨fa,fb,esp,hab,hb⟩:=ok.to;rw [eW] at hb;have eG:spanG ls=(fa,fb):=by unfold spanG; rw [esp]; rfl
 refine ⟨ls,hL1,fun t1 H2 ht1 s2 e1=>?_⟩;rw [eG] at e1;have s12:=s1.trans s2;refine ⟨[_,_],.inr (SqT.of e1),rfl,_,[_],rfl,_,[],rfl,rfl,?_⟩;walk_at "rd";obtain ⟨e,ee,he1,he2,he3⟩:∃ e:Nat,(if (fa:Int)+3 < (fb:Int) then (fa:Int)+3 else (fb:Int))=(e:Int)/\fa < e/\e<=fb/\e<=fa+3:=by
  split
  ·exact ⟨fa+3,by omega,by omega,by omega,by omega⟩
  ·exact ⟨fb,rfl,by omega,by omega,by omega⟩
 rw [ee,show ((e:Int) - (fa:Int)).toNat=e - fa by omega];have el:(List.range (e - fa)).map (fun k:Nat=>V.int ((fa:Int)+(k:Int)))=((List.range (e - fa)).map (fa+·)).map nV:=by
  rw [List.map_map];refine List.map_congr_left fun k _=>?_
  show V.int _=V.int _;rw [Int.natCast_add]
 rw [el];refine ⟨by omega,by omega,by omega,by omega,fun p1 hp1=>?_⟩;have hp1':=s12.free hp1;have s3:=ae hp1 (.lst (((List.range (e - fa)).map (fa+·)).map nV));have s13:=s12.trans s3;refine aC (s13.seq hS) (by decide) (by decide) (by decide) (by decide) fun r1 hr1=>?_
 walk_at "rd";refine ⟨by omega,by omega,?_⟩;rw [Int.toNat_natCast];refine bT (lo:=0) (n:=r1) (fun i σ H'=>∃ (ps:List Nat) (u:Option V),σ = [some (.ref a),some (.ref p),some (nV W),some (nV fa),some (nV fb),some (.ref p1),u]/\Same H H'/\H' p1=some (.lst (ps.map nV))/\1<=ps.length/\ps.length<=3+i/\∀ x ∈ ps,x < W)
  ⟨_,none,rfl,s13,upd_same,by simp; omega,by simp; omega,fun x hx=>?_⟩ ?_ ?_
 ·obtain ⟨k,hk,rfl⟩:=List.mem_map.mp hx;have:=List.mem_range.mp hk;omega
 ·rintro i σ H3 hi ⟨ps,u,rfl,s4,e4,l1,l2,hlt⟩;walk_at "rd";refine ⟨⟨_,e4⟩,aC (s4.seq hS) (by omega) (by omega) (by omega) (by omega) fun r2 hr2=>?_⟩;refine ⟨_,e4,sizeBig (by rw [List.length_map]; omega),ps++[r2],_,rfl,aH s4 hp1',?_,by simp,by simp; omega,fun x hx=>?_⟩
  ·rw [upd_same,List.map_append];rfl
  ·rcases List.mem_append.mp hx with z | z
   ·exact hlt x z
   ·rw [List.mem_singleton.mp z];omega
 ·rintro σ H3 ⟨ps,u,rfl,s4,e4,l1,l2,hlt⟩;walk_at "rd";have em:ps.map nV=(ps.map fun x:Nat=>(x:Int)).map V.int:=by rw [List.map_map]; rfl
  refine ⟨ps.map fun x:Nat=>(x:Int),SqL.of (by rw [<- em]; exact e4),by rw [List.length_map]; omega,fun t2 ms ht2 hmem hml _ hnd=>?_⟩;rw [List.length_map] at hml;have hpos:∀ x ∈ ms,∃ y,y ∈ ps/\x=(y:Int):=fun x hx=>by
   obtain ⟨y,hy,rfl⟩:=List.mem_map.mp ((hmem x).mp hx);exact ⟨y,hy,rfl⟩
  rw [qR ms fun x hx=>by obtain ⟨y,_,rfl⟩:=hpos x hx; omega];refine q t2 _ (ms.map Int.toNat) (s4.free ht2) (s4.trans (ae ht2 _)) upd_same ⟨?_,by rw [List.length_map]; omega,fun x hx=>?_,?_⟩
  ·rw [List.length_map];obtain ⟨x,hx⟩:=List.exists_mem_of_length_pos (l:=ps) (by omega);have:=(hmem (x:Int)).mpr (List.mem_map.mpr ⟨x,hx,rfl⟩);exact List.length_pos_of_mem this
  ·obtain ⟨z,hz,rfl⟩:=List.mem_map.mp hx;obtain ⟨y,hy,rfl⟩:=hpos z hz;exact hlt y hy
  ·refine List.pairwise_map.mpr (List.Pairwise.imp_of_mem ?_ hnd);intro x y hx hy hne ez;obtain ⟨x',_,rfl⟩:=hpos x hx;obtain ⟨y',_,rfl⟩:=hpos y hy;exact hne (congrArg Int.ofNat (by simpa using ez))
def Letters (W:Nat) (ls:List (List Nat)):Prop:=∀ l ∈ ls,l.length=W/\∀ c ∈ l,c=48\/c=49
noncomputable def dA (K:Frag):Sp:=aA fun a=>aA fun p=>bB fun w=>aD fun H Q _=>∃ (ns:List Int) (ps:List Nat) (W:Nat),SqL K H a (ns.map V.int)/\SqL K H p (ps.map nV)/\w=(W:Int)/\W<=1000/\ps.length<=8/\(∀ x ∈ ps,x < W)/\∀ (q:Addr) (H':Hp) (ls:List (List Nat)),H q=none->Same H H'->H' q=some (.lst (ls.map tx))->Letters W ls->ls.length=2 ^ ps.length->Q (.ref q) H'
theorem lH (T:Top K mg):Callee P w K mg base 2 "_law_letters" ["_law_script", "_law_told_here", "_law_width_here"] (dA K):=by
 refine T.iy.cal aG (by unfold dA; exact LenSp.h) (fun _ _ _ _ _ _ us hl=>match us,hl with | [_,_,_],_=>rfl) (fun f cdv A outer s H vs Q E hr h=>?_);unfold dA at h;walk_at "el";refine ⟨_,(ac (dN (i:=3) (nt:=1) (fi:=[0]) (N':=["_law_j", "_law_script"]) aG.nd rfl lc rfl (cscope rfl (by decide +kernel)) (cnames (N:=["_law_script", "_law_told_here", "_law_width_here", "_law_filler", "_law_size_here", "_law_place", "_law_letters_here", "_law_number", "_law_bits", "_law_rest"]) (sc:=defScope bG) rfl rfl (by decide +kernel)) (aY (by decide)) (bo rfl T.bE (qv 2)) (fun _ _ _ _ _=>(ag (i:=0) (by show (["_law_j", "_law_script"]:List Str).Nodup; decide +kernel) rfl lc)) (fun _ _ _ _ _=>aM) (fun _ _ _ _ _=>(ak (ah T) hr.m rfl (aa (qv 1) (aa (am aj ad (qv 0)) (aa ad ab))))))
   (ac (ai (i:=4) aG.nd rfl lc ad)
   (ac (bf PassesOwn.never rfl (iterE K rfl (qv 1)) (ag (i:=5) aG.nd rfl lc) (af (ai (i:=4) aG.nd rfl lc (am bp (qv 4) ad))))
   (ac (ai (i:=6) aG.nd rfl lc (br ab))
   (ac (bf PassesOwn.never rfl (bo rfl T.bE (qv 4)) (ag (i:=7) aG.nd rfl lc) (ac (dN (i:=8) (nt:=1) (fi:=[7]) (N':=["_law_bit", "_law_number"]) aG.nd rfl lc rfl (cscope rfl (by decide +kernel)) (cnames (N:=["_law_script", "_law_told_here", "_law_width_here", "_law_filler", "_law_size_here", "_law_place", "_law_letters_here", "_law_number", "_law_bits", "_law_rest"]) (sc:=defScope bG) rfl rfl (by decide +kernel)) (aY (by decide)) (iterE K rfl (qv 3)) (fun _ _ _ _ _=>(ag (i:=0) (by show (["_law_bit", "_law_number"]:List Str).Nodup; decide +kernel) rfl lc)) (fun _ _ _ _ _=>aM) (fun _ _ _ _ _=>(am b9 (am aj (qv 0) (qv 1)) ad)))
   (ac (ai (i:=9) aG.nd rfl lc (qv 7))
   (ac (bf PassesOwn.never rfl (iterE K rfl (qv 1)) (ag (i:=5) aG.nd rfl lc) (ac (jf (am b9 (qv 9) ad) (rF (qv 8) (qv 5) ng (fun _=>rfl)))
   (af (ai (i:=9) aG.nd rfl lc (am ip (qv 9) ad)))))
   (af (bQ (cC (qv 6) (joinE K rfl (aX (nt:=1) (fi:=[]) (N':=["_law_bit"]) rfl (cscope rfl (by decide +kernel)) (cnames (N:=["_law_script", "_law_told_here", "_law_width_here", "_law_filler", "_law_size_here", "_law_place", "_law_letters_here", "_law_number", "_law_bits", "_law_rest"]) (sc:=defScope bG) rfl rfl (by decide +kernel)) (aY (by decide)) (iterE K rfl (qv 8)) (fun _ _ _ _ _=>(ag (i:=0) (by show (["_law_bit"]:List Str).Nodup; decide +kernel) rfl lc)) (fun _ _ _ _ _=>aM) (fun _ _ _ _ _=>(fR oj rfl T.oU mB (aa (qv 0) ab))))))))))))
   (af (aq (qv 6)))))))),?_⟩
 rename_i a p w';obtain ⟨ns,ps,W,hS,hP,rfl,hW,h5,hlt,q⟩:=h;walk_at "rd";rw [Int.toNat_natCast];refine ⟨by omega,by omega,fun D hD=>?_⟩;refine kj (lo:=0) (n:=W) (fun _ v _=>∃ x:Nat,x < 2/\v=nV x) hD (by omega) (fun _ _ _ _ _ _ _ r=>r) ?_ ?_
 ·intro i H1 out non hi s1 ho;walk_at "rd";exact aC (s1.seq hS) (by omega) (by omega) (by decide) (by decide) fun r1 hr1=>ho _ _ (Same.refl _) ⟨r1,by omega,rfl⟩
 intro H1 vs s1 e1 p1;obtain ⟨fl,rfl,hfl,hf2⟩:=jl (fun _ _ r=>r) p1;rw [List.length_range] at hfl;refine .inl ⟨⟨_,s1.seq hP⟩,?_⟩;refine dX nV ps (fun i σ H'=>∃ (u:Option V),σ = [some (.ref a),some (.ref p),some (nV W),some (.ref D),some (nV (2 ^ i)),u,none,none,none,none]/\H'=H1) ⟨none,rfl,rfl⟩ (fun i σ H' _ ⟨_,_,z⟩=>by rw [z]; exact s1.seq hP) ?_ ?_
 ·rintro i x σ H2 hx ⟨u,rfl,rfl⟩;have hi:i < 8:=by have:=(List.getElem?_eq_some_iff.mp hx).1; omega
  walk_at "rd";refine ⟨.inr ⟨by decide,by decide⟩,some (nV x),?_⟩;rw [show ((2 ^ i:Nat):Int)*2=((2 ^ (i+1):Nat):Int) by rw [Nat.pow_succ]; omega]
 rintro σ H2 ⟨u,rfl,rfl⟩;have hp2:2 ^ ps.length<=256:=Nat.pow_le_pow_right (by decide) h5;generalize 2 ^ ps.length=Z at *;walk_at "rd";refine ⟨Nat.zero_le _,fun g hg=>?_⟩;have hg0:=s1.free hg;have s2:=s1.trans (ae hg (.lst []));have e2:=ae hg (.lst []) _ _ e1;refine ⟨by omega,by omega,?_⟩;rw [Int.toNat_natCast];have ngD:g≠D:=fun z=>by rw [z,e1] at hg; cases hg
 refine bT (lo:=0) (n:=Z) (fun i σ H'=>∃ (ls:List (List Nat)) (u v x y:Option V),σ = [some (.ref a),some (.ref p),some (nV W),some (.ref D),some (nV Z),u,some (.ref g),v,x,y]/\Same H H'/\H' D=some (.lst (fl.map nV))/\H' g=some (.lst (ls.map tx))/\Letters W ls/\ls.length=i)
  ⟨[],_,none,none,none,rfl,s2,e2,upd_same,fun l hl=>by simp at hl,rfl⟩ ?_ ?_
 ·rintro i σ H3 hi ⟨ls,u,v,x,y,rfl,s3,e3,e4,hls,hll⟩;walk_at "rd";refine .inl ⟨⟨_,SqL.of e3⟩,fun B hB=>?_⟩;refine aW (item:=nV) (xs:=fl) (h:=fun b=>[nV ((b+i) % 2)]) hB (SqL.of e3) (by omega) (fun _=>by simp) ?_ ?_
  ·intro b H4 out non hb s4 ho _;walk_at "rd";rw [show ((b:Int)+(i:Int)) % 2=(((b+i) % 2:Nat):Int) by omega];exact ho _ _ rfl (Same.refl _)
  intro H4 s4 e5;rw [cB (fun b=>nV ((b+i) % 2)) fl,show fl.map (fun b=>nV ((b+i) % 2))=(fl.map fun b=>(b+i) % 2).map nV by rw [List.map_map]; rfl] at e5;have s34:=s3.trans s4;have hB0:=s3.free hB;have ngB:g≠B:=fun z=>by rw [<- z,e4] at hB; cases hB
  have nDB:D≠B:=fun z=>by rw [<- z,e3] at hB; cases hB
  refine .inl ⟨⟨_,s34.seq hP⟩,?_⟩;refine dX nV ps (fun j σ H'=>∃ (bs:List Nat) (R:Nat) (u:Option V),σ = [some (.ref a),some (.ref p),some (nV W),some (.ref D),some (nV Z),u,some (.ref g),some (nV i),some (.ref B),some (nV R)]/\Same H H'/\H' D=some (.lst (fl.map nV))/\H' g=some (.lst (ls.map tx))/\H' B=some (.lst (bs.map nV))/\bs.length=W/\∀ b ∈ bs,b < 2)
   ⟨_,i,_,rfl,s34,s4 _ _ e3,s4 _ _ e4,e5,by rw [List.length_map]; exact hfl,fun b hb=>?_⟩ (fun j σ H' _ ⟨_,_,_,_,z,_⟩=>z.seq hP) ?_ ?_
  ·obtain ⟨c,_,rfl⟩:=List.mem_map.mp hb;exact Nat.mod_lt _ (by decide)
  ·rintro j z σ H5 hz ⟨bs,R,u',rfl,s5,e6,e7,e8,hbl,hb2⟩;have hzW:=hlt z (List.mem_of_getElem? hz);walk_at "rd";rw [show ((R:Int) % 2)=((R % 2:Nat):Int) by omega];refine ⟨_,z,e8,o7 (by rw [List.length_map]; omega),bs.set z (R % 2),R / 2,_,rfl,aH s5 hB0,?_,?_,?_,by rw [List.length_set]; exact hbl,fun b hb=>?_⟩
   ·rw [ao nDB]; exact e6
   ·rw [ao ngB]; exact e7
   ·rw [upd_same,List.map_set]
   ·rcases List.mem_or_eq_of_mem_set hb with w1 | w1
    ·exact hb2 b w1
    ·rw [w1]; exact Nat.mod_lt _ (by decide)
  ·rintro σ H5 ⟨bs,R,u',rfl,s5,e6,e7,e8,hbl,hb2⟩;walk_at "rd";refine ⟨⟨_,e7⟩,.inl ⟨⟨_,SqL.of e8⟩,fun C hC=>?_⟩⟩;refine aW (item:=nV) (xs:=bs) (h:=fun b=>[sgn (48+b)]) hC (SqL.of e8) (by omega) (fun _=>by simp) ?_ ?_
   ·intro b H6 out non hb s6 ho _;have:=hb2 b hb;walk_at "rd";refine ⟨by omega,?_⟩;rw [Int.toNat_natCast];exact ho _ _ rfl (Same.refl _)
   intro H6 s6 e9;rw [cB (fun b=>sgn (48+b)) bs,show bs.map (fun b=>sgn (48+b))=(bs.map (48+·)).map sgn by rw [List.map_map]; rfl] at e9;refine ⟨_,SqL.of e9,by rw [List.length_map]; omega,_,s6 _ _ e7,sizeBig (by rw [List.length_map]; omega),ls++[bs.map (48+·)],_,_,_,_,rfl,aH (s5.trans s6) hg0,?_,?_,fun l hl=>?_,by rw [List.length_append,hll]; rfl⟩
   ·rw [ao (Ne.symm ngD)];exact s6 _ _ e6
   ·rw [upd_same,List.map_append];rfl
   ·rcases List.mem_append.mp hl with w1 | w1
    ·exact hls l w1
    ·rw [List.mem_singleton.mp w1];refine ⟨by rw [List.length_map]; exact hbl,fun c hc=>?_⟩;obtain ⟨b,hb,rfl⟩:=List.mem_map.mp hc;have:=hb2 b hb;show 48+b=48\/48+b=49;omega
 ·rintro σ H3 ⟨ls,u,v,x,y,rfl,s3,e3,e4,hls,hll⟩;walk_at "rd";exact q g H3 ls hg0 s3 e4 hls hll
structure WaysOk (S:Nat) (ds:List (List Nat)) (ws:List Way):Prop where
 n:∀ x ∈ ws,x.1.length<=S
 bits:∀ x ∈ ws,∀ c ∈ x.1,c=48\/c=49
 door:∀ x ∈ ws,x.2 ∈ ds
 nd:(ws.map (·.1)).Nodup
noncomputable def insW {α:Type} (l:List α) (i:Nat) (x:α):List α:=l.take i++x::l.drop i
theorem iI {α:Type} (l:List α) (i:Nat) (x:α):(insW l i x).Perm (x::l):=by
 unfold insW;refine List.perm_middle.trans ?_;rw [List.take_append_drop]
theorem i7 {α β:Type} {F:α -> β -> Prop} {x:α} {y:β} (r:F x y):∀ {l:List α} {m:List β} (i:Nat),Paired F l m->Paired F (insW l i x) (insW m i y)
 | _,_,0,p=>by unfold insW; exact .cons r p
 | _,_,i+1,.nil=>by unfold insW; exact .cons r .nil
 | _,_,i+1,.cons r' p=>by
  have:=i7 r i p;unfold insW at this ⊢;exact .cons r' this
theorem rg {S:Nat} {ds:List (List Nat)} {ws:List Way} (ok:WaysOk S ds ws) (x:Way) (i:Nat) (h1:x.1.length<=S) (h2:∀ c ∈ x.1,c=48\/c=49) (h3:x.2 ∈ ds) (h4:x.1 ∉ ws.map (·.1)):WaysOk S ds (insW ws i x):=by
 have hm:∀ y,y ∈ insW ws i x->y=x\/y ∈ ws:=fun y hy=>List.mem_cons.mp ((iI ws i x).mem_iff.mp hy)
 refine ⟨fun y hy=>?_,fun y hy=>?_,fun y hy=>?_,?_⟩
 ·rcases hm y hy with rfl | z
  ·exact h1
  ·exact ok.n y z
 ·rcases hm y hy with rfl | z
  ·exact h2
  ·exact ok.bits y z
 ·rcases hm y hy with rfl | z
  ·exact h3
  ·exact ok.door y z
 ·rw [((iI ws i x).map _).nodup_iff,List.map_cons,List.nodup_cons];exact ⟨h4,ok.nd⟩
theorem vQ (n:List Nat) (l:List (List Nat)):inV (tx n) (l.map tx)=decide (n ∈ l):=by
 unfold inV
 induction l with
 | nil=>simp
 | cons d l ih=>
  rw [List.map_cons,List.any_cons,ih];simp only [eqV,List.mem_cons];have stj:st n=st d ↔ n=d:=⟨fun h=>by simpa using congrArg (fun x:Str=>x.cps.toList) h,fun h=>by rw [h]⟩;by_cases h:n=d
  ·subst h; simp
  ·have h2:¬ d=n:=fun z=>h z.symm
   simp [h,h2]
theorem tY (l:List (List Nat)):(l.map tx).all flatV=true:=by
 rw [List.all_eq_true];intro v hv;obtain ⟨c,_,rfl⟩:=List.mem_map.mp hv;rfl
theorem WaysOk.mono {S S':Nat} {ds:List (List Nat)} {ws:List Way} (h:WaysOk S ds ws) (k:S<=S'):WaysOk S' ds ws:=⟨fun x hx=>Nat.le_trans (h.n x hx) k,h.bits,h.door,h.nd⟩
noncomputable def gq (K:Frag):Sp:=aA fun a=>bB fun k=>aA fun d=>bB fun z=>aD fun H Q _=>∃ (ns:List Int) (k0 S:Nat) (ds:List (List Nat)),SqL K H a (ns.map V.int)/\k=(k0:Int)/\k0<=50000/\z=(S:Int)/\S<=1000/\SqL K H d (ds.map tx)/\ds.length<=100 /\
   ∀ p H' ws,H p=none->Same H H'->Ways H' p ws->WaysOk (min S 3) ds ws->ws.length<=4->Q (.ref p) H'
theorem qb (T:Top K mg):Callee P w K mg base 2 "_law_ways" ["_law_script", "_law_k", "_law_doors", "_law_size_here"] (gq K):=by
 refine T.ll.cal bj (by unfold gq; exact LenSp.h) (fun _ _ _ _ _ _ us hl=>match us,hl with | [_,_,_,_],_=>rfl) (fun f cdv A outer s H vs Q E hr h=>?_);unfold gq at h;walk_at "el";refine ⟨_,(ac (ai (i:=4) bj.nd rfl lc (br ab))
   (ac (aJ (aw (eqNilE K rfl (hu1 hr)) (qv 2) (br ab)) (af (aq (qv 4))) av)
   (ac (bf PassesOwn.never rfl (bo rfl T.bE (az (ixE K rfl) (br (aa ad (aa ad (aa ad (aa ad (aa ad (aa ad (aa ad ab)))))))) (ak (ah T) hr.m rfl (aa (qv 0) (aa (qv 1) (aa ad ab)))) (fun _ _=>rfl))) (ag (i:=5) bj.nd rfl lc) (ac (ai (i:=6) bj.nd rfl lc (am aj ad (ak (ah T) hr.m rfl (aa (qv 0) (aa (am aj (am aj (qv 1) ad) (qv 5)) (aa ad ab))))))
   (cT (aJ (PW.pt (fB (aw ba (qv 5) ad) (gr (aw js (ak (ah T) hr.m rfl (aa (qv 0) (aa (am aj (qv 1) ad) (aa ad ab)))) ad)))) (af (ai (i:=6) bj.nd rfl lc ad)) av)
   (ac (ai (i:=7) bj.nd rfl lc (qs []))
   (ac (xa PassesOwn.never (aw js (qv 6) ad) (ac (ai (i:=7) bj.nd rfl lc (am aj (fR oj rfl T.oU mB (aa (am b9 (qv 6) ad) ab)) (qv 7)))
   (af (ai (i:=6) bj.nd rfl lc (am ip (qv 6) ad)))))
   (ac (ai (i:=7) bj.nd rfl lc (bA slF (qv 7) cm (bF (au (gp rfl) rfl T.rD pR (aa (qv 3) (aa ad ab))))))
   (af (aJ (aw (notinE K rfl) (qv 7) (aX (nt:=1) (fi:=[]) (N':=["_law_way"]) rfl (cscope rfl (by decide +kernel)) (cnames (N:=["_law_script", "_law_k", "_law_doors", "_law_size_here", "_law_ways_here", "_law_j", "_law_number", "_law_beginning", "_law_door"]) (sc:=defScope fe) rfl rfl (by decide +kernel)) (aY (by decide)) (iterE K rfl (qv 4)) (fun _ _ _ _ _=>(ag (i:=0) (by show (["_law_way"]:List Str).Nodup; decide +kernel) rfl lc)) (fun _ _ _ _ _=>aM) (fun _ _ _ _ _=>(az (ixE K rfl) (qv 0) ad (fun _ _=>rfl))))) (ac (ai (i:=8) bj.nd rfl lc (az (ixE K rfl) (qv 2) (ak (ah T) hr.m rfl (aa (qv 0) (aa (am aj (am aj (qv 1) ad) (qv 5)) (aa (au (lenE K rfl) rfl T.bc aL (aa (qv 2) ab)) ab)))) (fun _ _=>rfl)))
   (af (bQ (kA (qv 4) (ak (ah T) hr.m rfl (aa (qv 0) (aa (am aj (am aj (qv 1) ad) (qv 5)) (aa (am aj (au (lenE K rfl) rfl T.bc aL (aa (qv 4) ab)) ad) ab)))) (aS (aa (qv 7) (aa (qv 8) ab))))))) av))))))))
   (af (aq (qv 4)))))),?_⟩
 rename_i a k d z;obtain ⟨ns,k0,S,ds,hS,rfl,hk,rfl,hSz,hd,hdl,q⟩:=h;walk_at "rd";refine ⟨Nat.zero_le _,fun g hg=>?_⟩;have s1:=ae hg (.lst []);have w0:Ways (upd H g (.lst [])) g []:=⟨[],upd_same,.nil⟩;have ok0:WaysOk (min S 3) ds []:=⟨fun x hx=>by simp at hx,fun x hx=>by simp at hx,fun x hx=>by simp at hx,by simp⟩;refine ⟨Nat.zero_le _,fun t1 ht1=>⟨_,(s1.trans (ae ht1 _)).seq hd,SqL.of upd_same,?_⟩⟩;have s2:=s1.trans (ae ht1 (.lst []));have w1:=w0.same (ae ht1 (.lst []));refine ite2 (fun ge=>q g _ [] hg s2 w1 ok0 (by simp)) fun ge=>⟨by decide,fun t2 ht2=>?_⟩
 have hd1:1<=ds.length:=by
  cases ds with
  | nil=>exact absurd rfl ge
  | cons _ _=>simp
 have s3:=s2.trans (ae ht2 (.lst [V.int 0,V.int 1,V.int 2,V.int 3,V.int 4,V.int 1,V.int 2]));have w2:=w1.same (ae ht2 (.lst [V.int 0,V.int 1,V.int 2,V.int 3,V.int 4,V.int 1,V.int 2]));refine aC (s3.seq hS) (by omega) (by omega) (by decide) (by decide) fun r1 hr1=>?_
 obtain ⟨c,hc,ec⟩:=nj (cs:=[0,1,2,3,4,1,2]) (B:=4) (vs:=[V.int 0,V.int 1,V.int 2,V.int 3,V.int 4,V.int 1,V.int 2]) rfl (by decide) (i:=r1) (by show r1 < 7; omega);walk_at "rd";refine ⟨_,_,.inl (SqL.of upd_same),ec,?_⟩;walk_at "rd";refine ⟨by omega,by omega,?_⟩;rw [Int.toNat_natCast];refine bT (lo:=0) (n:=c) (fun i σ H'=>∃ (ws:List Way) (u5 u6 u7 u8:Option V),σ = [some (.ref a),some (nV k0),some (.ref d),some (nV S),some (.ref g),u5,u6,u7,u8]/\Same H H'/\Ways H' g ws/\WaysOk (min S 3) ds ws/\ws.length<=i)
  ⟨[],none,none,none,none,rfl,s3,w2,ok0,by simp⟩ ?_ ?_
 ·rintro i σ H1 hi ⟨ws,u5,u6,u7,u8,rfl,s4,hw,ok,hwl⟩;walk_at "rd";refine aC (s4.seq hS) (by omega) (by omega) (by decide) (by decide) fun r2 hr2=>?_
  walk_at "rd";refine ⟨fun σ' H'=>∃ M:Nat,σ'=[some (.ref a),some (nV k0),some (.ref d),some (nV S),some (.ref g),some (nV i),some (nV M),u7,u8]/\H1=H'/\M<=15,?_,?_⟩
  ·refine ite2 (fun _=>aC (s4.seq hS) (by omega) (by omega) (by decide) (by decide) fun r3 hr3=>?_) fun _=>⟨1+r2,by simp,rfl,by omega⟩
   walk_at "rd";exact ite2 (fun _=>⟨1,rfl,by decide⟩) fun _=>⟨1+r2,by simp,by omega⟩
  rintro σ' H' ⟨M,rfl,rfl,hM⟩;walk_at "rd";refine ⟨fun m σ' H'=>∃ (b:List Nat),σ'=[some (.ref a),some (nV k0),some (.ref d),some (nV S),some (.ref g),some (nV i),some (nV m),some (tx b),u8]/\H1=H'/\(∀ c ∈ b,c=48\/c=49)/\b.length+m<=16,⟨M,[],rfl,rfl,fun c hc=>by simp at hc,by simp; omega⟩,?_⟩;rintro m σ' H2 ⟨b,rfl,rfl,hb,hbm⟩;walk_at "rd";refine ite2 (fun gm=>⟨fun σ' H'=>∃ b,σ'=[some (.ref a),some (nV k0),some (.ref d),some (nV S),some (.ref g),some (nV i),some (nV (m / 2)),some (tx b),u8]/\H1=H'/\(∀ c ∈ b,c=48\/c=49)/\b.length+m / 2<=16,?_,by omega,by omega,?_⟩) fun gm=>?_
  ·rintro σ' H' ⟨b',rfl,rfl,h1,h2⟩;exact ⟨m / 2,by omega,b',rfl,rfl,h1,h2⟩
  ·refine ⟨(48+((m:Int) % 2).toNat)::b,rfl,rfl,fun c hc=>?_,by rw [List.length_cons]; omega⟩;rcases List.mem_cons.mp hc with rfl | hc
   ·omega
   ·exact hb c hc
  obtain ⟨e,ee,he1,he2⟩:∃ e:Nat,(if (3:Int) < (S:Int) then (3:Int) else (S:Int))=(e:Int)/\e<=S/\e<=3:=by
   split
   ·exact ⟨3,rfl,by omega,by omega⟩
   ·exact ⟨S,rfl,by omega,by omega⟩
  rw [ee,Int.toNat_natCast];have hbt:∀ c ∈ b.take e,c=48\/c=49:=fun c hc=>hb c (List.mem_of_mem_take hc)
  have hbl:(b.take e).length<=min S 3:=by rw [List.length_take]; omega
  generalize b.take e=bg at hbt hbl ⊢;obtain ⟨vs,e1,pr⟩:=id hw;have hvl:=pr.length;obtain ⟨z1,z2⟩:=bW pr;refine ⟨by omega,by omega,.inl ⟨⟨_,SqL.of e1⟩,fun D hD=>?_⟩⟩;refine aW (item:=fun x:Way × V=>x.2) (xs:=ws.zip vs) (h:=fun x=>[tx x.1.1]) hD (by rw [z1]; exact SqL.of e1) (by rw [List.length_zip]; omega) (fun _=>by simp) ?_ ?_
  ·intro x H2 out non hx s5 ho _;obtain ⟨t,ex,et⟩:=z2 x hx;rw [ex];walk_at "rd";refine ⟨_,_,.inr (SqT.of (s5 _ _ et)),rfl,?_⟩;exact ho _ _ rfl (Same.refl _)
  intro H2 s5 e2;rw [show (ws.zip vs).flatMap (fun x=>[tx x.1.1])=(ws.map (·.1)).map tx by
   rw [cB (fun x:Way × V=>tx x.1.1)]
   conv=>rhs; rw [<- eR (l:=ws) (m:=vs) hvl,List.map_map,List.map_map]
   rfl] at e2
  walk_at "rd";refine ⟨_,.inl (SqL.of e2),rfl,tY _,?_⟩;rw [show V.str (st bg)=tx bg from rfl,vQ];walk_at "rd";have s45:=s4.trans s5;refine ite2 (fun gi=>⟨ws,_,_,_,_,rfl,s45,hw.same s5,ok,by omega⟩) fun gi=>?_
  refine ⟨_,.inl (s45.seq hd),aC (s45.seq hS) (by omega) (by omega) (by rw [List.length_map]; omega) (by rw [List.length_map]; omega) fun r4 hr4=>?_⟩;rw [List.length_map] at hr4;obtain ⟨dv,hdv,edv⟩:=ki (l:=ds.map tx) (i:=r4) (by rw [List.length_map]; omega);obtain ⟨dn,hdn,rfl⟩:=List.mem_map.mp hdv;walk_at "rd";have e1':=s5 _ _ e1;refine ⟨_,_,.inl (s45.seq hd),edv,⟨_,e1'⟩,_,.inl (SqL.of e1'),aC (s45.seq hS) (by omega) (by omega) (by omega) (by omega) fun r5 hr5=>⟨by decide,fun t5 ht5=>?_⟩⟩;have s6:=ae ht5 (.tup [tx bg,tx dn]);have ng5:g≠t5:=fun z=>by rw [<- z,e1'] at ht5; cases ht5
  refine ⟨vs,r5,rfl,s6 _ _ e1',by omega,by omega,insW ws r5 (bg,dn),_,_,_,_,rfl,aH (s45.trans s6) hg,⟨_,upd_same,?_⟩,rg ok (bg,dn) r5 hbl hbt hdn (by simpa using gi),?_⟩
  ·refine i7 (F:=WayAt _) ⟨t5,rfl,?_⟩ r5 (L2.Paired.mapP pr ?_)
   ·rw [ao (Ne.symm ng5),upd_same]
   ·rintro x v ⟨t,rfl,et⟩;refine ⟨t,rfl,?_⟩;rw [ao (fun z=>by rw [z,e1] at et; cases et)];exact s6 _ _ (s5 _ _ et)
  ·have:=(iI ws r5 (bg,dn)).length_eq;rw [this,List.length_cons];omega
 ·rintro σ H1 ⟨ws,u5,u6,u7,u8,rfl,s4,hw,ok,hwl⟩;walk_at "rd";exact q g H1 ws hg s4 hw ok (by omega)
structure HouseOk (W S:Nat) (pl:List (List Nat)) (hs:House):Prop where
 nd:(hs.1.map (·.1)).Nodup
 door:∀ x ∈ hs.1,x.1 ∈ pl
 g3:hs.1.length<=3
 rules:∀ x ∈ hs.1,∀ r ∈ x.2,RuleOk W r
 many:∀ x ∈ hs.1,x.2.length<=300
 ways:WaysOk S (hs.1.map (·.1)) hs.2
 w8:hs.2.length<=8
theorem iR {α β:Type} {F:β -> V->Prop} {P:β -> Prop}:∀ {l:List α} {vs:List V},Paired (fun _ v=>∃ b,P b/\F b v) l vs->∃ bs:List β,Paired F bs vs/\bs.length=l.length/\∀ b ∈ bs,P b
 | _,_,.nil=>⟨[],.nil,rfl,fun b hb=>by simp at hb⟩
 | _,_,.cons ⟨b,h1,h2⟩ p=>by
  obtain ⟨bs,h3,h4,h5⟩:=iR p;refine ⟨b::bs,.cons h2 h3,by simp [h4],fun c hc=>?_⟩;rcases List.mem_cons.mp hc with rfl | hc
  ·exact h1
  ·exact h5 c hc
def GateB (gl:Addr) (F:Addr->Prop) (H:Hp) (x:Gate) (v:V):Prop:=∃ t r,v=.ref t/\(r≠gl/\F r)/\H t=some (.tup [tx x.1,.ref r])/\Rules H r x.2
theorem sE {gl:Addr} {F:Addr->Prop} {H H':Hp} (s:Same H H') {gs:List Gate} {vs:List V} (p:Paired (GateB gl F H) gs vs):Paired (GateB gl F H') gs vs:=
 L2.Paired.mapP p fun _ _ ⟨t,r,e,n,h1,h2⟩=>⟨t,r,e,n,s _ _ h1,h2.same s⟩
theorem kh {gl r:Addr} {H:Hp} {us us':List V} {rs:List Rule} (h:H gl=some (.lst us)) (n:r≠gl) (hr:Rules H r rs):Rules (upd H gl (.lst us')) r rs:=by
 obtain ⟨vs,e,pr⟩:=hr;refine ⟨vs,?_,cz (cg h) pr⟩;rw [ao n];exact e
theorem uT {gl:Addr} {F:Addr->Prop} {H:Hp} {us us':List V} (h:H gl=some (.lst us)) {gs:List Gate} {vs:List V} (p:Paired (GateB gl F H) gs vs):Paired (GateB gl F (upd H gl (.lst us'))) gs vs:=
 L2.Paired.mapP p fun _ _ ⟨t,r,e,n,h1,h2⟩=>⟨t,r,e,n,cg h _ _ h1,kh h n.1 h2⟩
def GateN (N:Addr->Prop) (H:Hp) (x:Gate) (v:V):Prop:=∃ t r,v=.ref t/\N r/\H t=some (.tup [tx x.1,.ref r])/\Rules H r x.2
structure HouseN (F:Addr->Prop) (H:Hp) (q g w:Addr) (hs:House):Prop where
 tup:H q=some (.tup [.ref g,.ref w])
 ne:g≠w
 gates:∃ vs,H g=some (.lst vs)/\Paired (GateN (fun r=>r≠g/\r≠w/\F r) H) hs.1 vs
 ways:Ways H w hs.2
theorem HouseN.at {F:Addr->Prop} {H:Hp} {q g w:Addr} {hs:House} (h:HouseN F H q g w hs):HouseAt H q hs:=by
 obtain ⟨vs,e,p⟩:=h.gates;exact ⟨g,w,h.tup,⟨vs,e,L2.Paired.mapP p fun _ _ ⟨t,r,e,_,h1,h2⟩=>⟨t,r,e,h1,h2⟩⟩,h.ways⟩
theorem HouseN.same {F:Addr->Prop} {H H':Hp} {q g w:Addr} {hs:House} (h:HouseN F H q g w hs) (s:Same H H'):HouseN F H' q g w hs:=by
 obtain ⟨vs,e,p⟩:=h.gates;exact ⟨s _ _ h.tup,h.ne,⟨vs,s _ _ e,L2.Paired.mapP p fun _ _ ⟨t,r,e,n,h1,h2⟩=>⟨t,r,e,n,s _ _ h1,h2.same s⟩⟩,h.ways.same s⟩
theorem wV {pl:List (List Nat)} (N:Names 5 pl) {r1 c:Nat} (hc:c<=3):((List.range c).map fun j=>pl.getD ((r1+j) % 5) []).Nodup:=by
 refine kJ _ fun i j hi hj e=>?_
 have hl:=N.len;have h1:(r1+i) % 5 < pl.length:=by rw [hl]; exact Nat.mod_lt _ (by decide)
 have h2:(r1+j) % 5 < pl.length:=by rw [hl]; exact Nat.mod_lt _ (by decide)
 simp only [List.getD_eq_getElem?_getD,List.getElem?_eq_getElem h1,List.getElem?_eq_getElem h2,Option.getD_some] at e;have:=(List.getElem_inj N.nd).mp e;omega
noncomputable def fG (K:Frag):Sp:=aA fun a=>bB fun k=>aA fun t=>aA fun p=>aA fun o=>aD fun H Q _=>∃ (ns:List Int) (k0:Nat) (ps:List Nat) (ls:List Fld) (pl:List (List Nat)),SqL K H a (ns.map V.int)/\k=(k0:Int)/\k0<=10000/\SqL K H t (ps.map nV)/\ToldOk (widthL ls) ps/\Lay H p ls/\LayOk ls/\SqL K H o (pl.map tx)/\Names 5 pl /\
   ∀ (q g w:Addr) (H':Hp) (hs:House),H q=none->H g=none->H w=none->Same H H'->HouseN (fun r=>H r=none) H' q g w hs->HouseOk (widthL ls) (min ((spanG ls).2 - (spanG ls).1) 8) pl hs->hs.2.length<=4->(∀ x ∈ hs.1,∀ r ∈ x.2,(OverL ps r.2.2/\OverL ps r.1))->Q (.ref q) H'
theorem nO (T:Top K mg):Callee P w K mg base 3 "_law_house" ["_law_script", "_law_k", "_law_told_here", "_law_layout_here", "_law_pool"] (fG K):=by
 refine T.j4.cal aI (by unfold fG; exact LenSp.h) (fun _ _ _ _ _ _ us hl=>match us,hl with | [_,_,_,_,_],_=>rfl) (fun f cdv A outer s H vs Q E hr h=>?_);unfold fG at h;walk_at "el";refine ⟨_,(ac (ai (i:=5) aI.nd rfl lc (ak (ft T) hr.m rfl (aa (qv 3) ab)))
   (ac (jf (ak (dW T) hr.m rfl (aa (qv 3) ab)) (seqE K rfl rfl (n:=2) (ap (ag (i:=6) aI.nd rfl lc) (ap (ag (i:=7) aI.nd rfl lc) aP))))
   (ac (ai (i:=8) aI.nd rfl lc (ak (gM T) hr.m rfl (aa (qv 0) (aa (qv 2) ab))))
   (ac (ai (i:=9) aI.nd rfl lc (ak (ah T) hr.m rfl (aa (qv 0) (aa (qv 1) (aa (au (lenE K rfl) rfl T.bc aL (aa (qv 4) ab)) ab)))))
   (ac (ai (i:=10) aI.nd rfl lc (az (ixE K rfl) (br (aa ad (aa ad (aa ad (aa ad (aa ad (aa ad (aa ad (aa ad (aa ad ab)))))))))) (ak (ah T) hr.m rfl (aa (qv 0) (aa (am aj (qv 1) ad) (aa ad ab)))) (fun _ _=>rfl)))
   (ac (dN (i:=11) (nt:=1) (fi:=[4,9]) (N':=["_law_j", "_law_pool", "_law_turn"]) aI.nd rfl lc rfl (cscope rfl (by decide +kernel)) (cnames (N:=["_law_script", "_law_k", "_law_told_here", "_law_layout_here", "_law_pool", "_law_width_here", "_law_first", "_law_behind", "_law_over_at_here", "_law_turn", "_law_count", "_law_doors", "_law_gates", "_law_g", "_law_many", "_law_rules", "_law_over"]) (sc:=defScope cS) rfl rfl (by decide +kernel)) (aY (by decide)) (bo rfl T.bE (qv 10)) (fun _ _ _ _ _=>(ag (i:=0) (by show (["_law_j", "_law_pool", "_law_turn"]:List Str).Nodup; decide +kernel) rfl lc)) (fun _ _ _ _ _=>aM) (fun _ _ _ _ _=>(az (ixE K rfl) (qv 1) (am b9 (am aj (qv 2) (qv 0)) (au (lenE K rfl) rfl T.bc aL (aa (qv 1) ab))) (fun _ _=>rfl))))
   (ac (ai (i:=12) aI.nd rfl lc (br ab))
   (ac (bf PassesOwn.never rfl (bo rfl T.bE (qv 10)) (ag (i:=13) aI.nd rfl lc) (ac (ai (i:=14) aI.nd rfl lc (ak (ah T) hr.m rfl (aa (qv 0) (aa (am aj (am aj (qv 1) ad) (qv 13)) (aa ad ab)))))
   (ac (dN (i:=15) (nt:=1) (fi:=[0,2,8,5,1,13]) (N':=["_law_j", "_law_script", "_law_told_here", "_law_over_at_here", "_law_width_here", "_law_k", "_law_g"]) aI.nd rfl lc rfl (cscope rfl (by decide +kernel)) (cnames (N:=["_law_script", "_law_k", "_law_told_here", "_law_layout_here", "_law_pool", "_law_width_here", "_law_first", "_law_behind", "_law_over_at_here", "_law_turn", "_law_count", "_law_doors", "_law_gates", "_law_g", "_law_many", "_law_rules", "_law_over"]) (sc:=defScope cS) rfl rfl (by decide +kernel)) (aY (by decide)) (bo rfl T.bE (am b9 (qv 14) ad)) (fun _ _ _ _ _=>(ag (i:=0) (by show (["_law_j", "_law_script", "_law_told_here", "_law_over_at_here", "_law_width_here", "_law_k", "_law_g"]:List Str).Nodup; decide +kernel) rfl lc)) (fun _ _ _ _ _=>aM) (fun _ _ _ _ _=>(ak (pj T) hr.m rfl (aa (qv 1) (aa (am aj (am aj (am aj (qv 5) ad) (am bp ad (qv 6))) (am bp ad (qv 0))) (aa (qv 2) (aa (qv 3) (aa (qv 4) ab))))))))
   (cT (aJ (aw js (qv 14) ad) (ac (ai (i:=16) aI.nd rfl lc (ak (bL T) hr.m rfl (aa (ak (ah T) hr.m rfl (aa (qv 0) (aa (am aj (am aj (qv 1) ad) (am bp ad (qv 13))) (aa ad ab)))) (aa (qv 8) (aa (qv 5) (aa (qs [48,49,45,45]) ab))))))
   (af (bQ (cC (qv 15) (aS (aa (am bp (qs [45]) (qv 5)) (aa (qs [112,97,115,115]) (aa (qv 16) ab)))))))) av)
   (af (bQ (cC (qv 12) (aS (aa (az (ixE K rfl) (qv 11) (qv 13) (fun _ _=>rfl)) (aa (qv 15) ab))))))))))
   (af (aq (aS (aa (qv 12) (aa (ak (qb T) hr.m rfl (aa (qv 0) (aa (am aj (qv 1) ad) (aa (qv 11) (aa (am eZ (qv 7) (qv 6)) ab))))) ab))))))))))))),?_⟩
 rename_i a k t p o;obtain ⟨ns,k0,ps,ls,pl,hS,rfl,hk,hT,tok,hL,ok,hO,N,q⟩:=h;obtain ⟨fa,fb,esp,hab,hb⟩:=ok.to;have eG:spanG ls=(fa,fb):=by unfold spanG; rw [esp]; rfl
 rw [eG] at q;have w1:=ok.w1;have w2:=ok.w2;have hlen:=ok.len;have hpl:(pl.map tx).length=5:=by rw [List.length_map]; exact N.len
 walk_at "rd";refine ⟨ls,hL,by omega,fun H1 s1=>?_⟩;generalize eW:widthL ls=W at *;refine ⟨ls,hL.same s1,fun t1 H2 ht1 s2 e1=>?_⟩;rw [eG] at e1;have s12:=s1.trans s2;refine ⟨[_,_],.inr (SqT.of e1),rfl,_,[_],rfl,_,[],rfl,rfl,?_⟩;walk_at "rd";refine ⟨ns,ps,s12.seq hS,s12.seq hT,tok.l1,by have:=tok.l5; omega,fun ov H3 os hov s3 e3 hos=>?_⟩;have s13:=s12.trans s3;have hosW:∀ x ∈ os,x < W:=fun x hx=>tok.lt x (hos x hx)
 walk_at "rd";refine ⟨_,.inl (s13.seq hO),aC (s13.seq hS) (by omega) (by omega) (by omega) (by omega) fun r1 hr1=>?_⟩;walk_at "rd";refine ⟨by decide,fun c1 hc1=>?_⟩;have s4:=s13.trans (ae hc1 (.lst [V.int 1,V.int 2,V.int 3,V.int 2,V.int 1,V.int 2,V.int 3,V.int 2,V.int 0]));have e4:=ae hc1 (.lst [V.int 1,V.int 2,V.int 3,V.int 2,V.int 1,V.int 2,V.int 3,V.int 2,V.int 0]) _ _ e3;refine aC (s4.seq hS) (by omega) (by omega) (by decide) (by decide) fun r2 hr2=>?_
 obtain ⟨c,hc,ec⟩:=nj (cs:=[1,2,3,2,1,2,3,2,0]) (B:=3) (vs:=[V.int 1,V.int 2,V.int 3,V.int 2,V.int 1,V.int 2,V.int 3,V.int 2,V.int 0]) rfl (by decide) (i:=r2) (by show r2 < 9; omega);walk_at "rd";refine ⟨_,_,.inl (SqL.of upd_same),ec,?_⟩;walk_at "rd";refine ⟨by omega,by omega,fun ds hds=>?_⟩;rw [Int.toNat_natCast];have dnP:∀ j:Nat,∃ h:(r1+j) % 5 < pl.length,pl.getD ((r1+j) % 5) []=pl[(r1+j) % 5]:=fun j=>by
  have h1:(r1+j) % 5 < pl.length:=by rw [N.len]; exact Nat.mod_lt _ (by decide)
  exact ⟨h1,by rw [List.getD_eq_getElem?_getD,List.getElem?_eq_getElem h1]; rfl⟩
 have dnd:=wV N (r1:=r1) hc;refine jr (lo:=0) (n:=c) (h:=fun j=>[tx (pl.getD ((r1+j) % 5) [])]) hds (by omega) (fun _=>by simp) ?_ ?_
 ·intro i H5 out non hi s5 ho _;have s45:=s4.trans s5;walk_at "rd";rw [show ((r1:Int)+(i:Int))=((r1+i:Nat):Int) by omega];obtain ⟨h1,h2⟩:=dnP i;refine ⟨_,.inl (s45.seq hO),by rw [hpl]; decide,_,_,.inl (s45.seq hO),?_,ho _ _ rfl (Same.refl _)⟩;rw [hpl,show (((r1+i:Nat):Int) % ((5:Nat):Int))=(((r1+i) % 5:Nat):Int) by omega];refine bR ?_;rw [List.getElem?_map,List.getElem?_eq_getElem h1,h2];rfl
 intro H5 s5 e5;rw [cB (fun j=>tx (pl.getD ((r1+j) % 5) [])),show (List.range c).map (fun j=>tx (pl.getD ((r1+j) % 5) []))=((List.range c).map fun j=>pl.getD ((r1+j) % 5) []).map tx by rw [List.map_map]; rfl] at e5;have dmem:∀ x ∈ (List.range c).map (fun j=>pl.getD ((r1+j) % 5) []),x ∈ pl:=fun x hx=>by
  obtain ⟨j,_,rfl⟩:=List.mem_map.mp hx;obtain ⟨h1,h2⟩:=dnP j;rw [h2];exact List.getElem_mem h1
 have dlen:((List.range c).map fun j=>pl.getD ((r1+j) % 5) []).length=c:=by simp
 generalize (List.range c).map (fun j=>pl.getD ((r1+j) % 5) [])=dl at dnd dmem dlen e5;have s45:=s4.trans s5;have e6:=s5 _ _ e4;clear dnP;refine ⟨Nat.zero_le _,fun gl hgl=>⟨by omega,by omega,?_⟩⟩;have sg:=ae hgl (.lst []);refine bT (lo:=0) (n:=c) (fun i σ H'=>∃ (gs:List Gate) (vs:List V) (u13 u14 u15 u16:Option V),σ = [some (.ref a),some (nV k0),some (.ref t),some (.ref p),some (.ref o),some (nV W),some (nV fa),some (nV fb),some (.ref ov),some (nV r1),some (nV c),some (.ref ds),some (.ref gl),u13,u14,u15,u16]/\Same H5 H'/\H' gl=some (.lst vs)/\Paired (GateB gl (fun r=>H r=none) H') gs vs/\gs.map (·.1)=dl.take i/\(∀ x ∈ gs,∀ r ∈ x.2,RuleOk W r/\(OverL ps r.2.2/\OverL ps r.1))/\∀ x ∈ gs,x.2.length<=5)
  ⟨[],[],none,none,none,none,rfl,sg,upd_same,.nil,by simp,fun x hx=>by simp at hx,fun x hx=>by simp at hx⟩ ?_ ?_
 ·rintro i σ H6 hi ⟨gs,vs,u13,u14,u15,u16,rfl,s6,eg,pg,hgd,hgr,hgn⟩;have s46:=s45.trans s6;walk_at "rd";refine aC (s46.seq hS) (by omega) (by omega) (by decide) (by decide) fun r3 hr3=>?_
  walk_at "rd";have hm5:r3 % 5 < 5:=Nat.mod_lt _ (by decide);rw [show ((r3:Int) % 5)=((r3 % 5:Nat):Int) by omega,Int.toNat_natCast];have mul9:CMul 9 (i:Int):=.inl ⟨by decide,by decide⟩;have mul2:∀ j:Nat,CMul 2 (j:Int):=fun j=>.inl ⟨by decide,by decide⟩
  refine ⟨by omega,by omega,fun R hR=>?_⟩;refine kj (lo:=0) (n:=r3 % 5) (fun _ v H'=>∃ r:Rule,(RuleOk W r/\(OverL ps r.2.2/\OverL ps r.1))/\RuleAt H' r v) hR (by omega) ?_ ?_ ?_
  ·rintro x v H7 H8 acc hd k ⟨r,hr,t',rfl,et⟩;exact ⟨r,hr,t',rfl,k t' _ (fun z=>by rw [z,hd] at et; cases et) et⟩
  ·intro j H7 out non hj s7 ho;have s47:=s46.trans s7;walk_at "rd";refine ⟨mul9,mul2 j,ns,k0+22+9*i+2*j,W,ps,os,s47.seq hS,by omega,by omega,rfl,by omega,s47.seq hT,tok.lt,SqL.of (s7 _ _ (s6 _ _ e6)),hosW,fun t7 H8 r ht7 s8 e8 hrok hov hov1=>?_⟩;exact ho _ _ s8 ⟨r,⟨hrok,fun i c e n=>hos i (hov i c e n),hov1⟩,t7,rfl,e8⟩
  intro H7 us s7 e7 p7;obtain ⟨rs,pr7,hrl,hrok⟩:=iR p7;rw [List.length_range] at hrl;have hR5:=s6.free hR;have s47:=s46.trans s7;have nRg:R≠gl:=fun z=>by rw [z,eg] at hR; cases hR
  refine ⟨fun σ' H'=>∃ (rs:List Rule) (u:Option V),σ'=[some (.ref a),some (nV k0),some (.ref t),some (.ref p),some (.ref o),some (nV W),some (nV fa),some (nV fb),some (.ref ov),some (nV r1),some (nV c),some (.ref ds),some (.ref gl),some (nV i),some (nV r3),some (.ref R),u]/\Same H6 H'/\Rules H' R rs/\(∀ r ∈ rs,RuleOk W r/\(OverL ps r.2.2/\OverL ps r.1))/\rs.length<=5,?_,?_⟩
  ·refine ite2 (fun g4=>⟨mul9,aC (s47.seq hS) (by omega) (by omega) (by decide) (by decide) fun r4 hr4=>?_⟩) fun g4=>⟨rs,_,rfl,s7,⟨us,e7,pr7⟩,hrok,by omega⟩
   refine gf (by omega) (SqL.of (s7 _ _ (s6 _ _ e6))) hosW (by decide) (by decide) (by unfold RowL; decide) fun over H8 s8 hl8 hr8 hov=>?_
   refine ⟨⟨_,s8 _ _ e7⟩,by omega,by omega,by decide,fun t8 ht8=>?_⟩;rw [Int.toNat_natCast];have s9:=ae ht8 (.tup [V.str (st (List.replicate W 45)),V.str (st [112,97,115,115]),tx over]);have e9:=s9 _ _ (s8 _ _ e7);have hul:=pr7.length;refine ⟨us,e9,sizeBig (by omega),rs++[(List.replicate W 45,passT,over)],_,rfl,aH (s7.trans (s8.trans s9)) hR,⟨_,upd_same,?_⟩,fun r hr=>?_,by rw [List.length_append,hrl]; simp; omega⟩
   ·refine eU (L2.Paired.mapP pr7 ?_) ⟨t8,rfl,?_⟩
    ·rintro x v ⟨t',rfl,et⟩;exact ⟨t',rfl,cg e9 _ _ (s9 _ _ (s8 _ _ et))⟩
    ·exact cg e9 _ _ upd_same
   ·rcases List.mem_append.mp hr with z | z
    ·exact hrok r z
    ·rw [List.mem_singleton.mp z];exact ⟨⟨fun c hc=>.inr (.inr (List.eq_of_mem_replicate hc)),by simp,.inl rfl,hr8,hl8⟩,fun i c e n=>hos i (hov i c e n),fun i c e n=>absurd (List.eq_of_mem_replicate (List.mem_of_getElem? e)) n⟩
  ·rintro σ' H8 ⟨rs',u,rfl,s8,hR8,hrok',hrl'⟩;walk_at "rd";have eg8:=s8 _ _ eg;have hid:i < dl.length:=by omega
   refine ⟨⟨_,eg8⟩,_,tx dl[i],.inl (SqL.of (s8 _ _ (s6 _ _ e5))),bR (by rw [List.getElem?_map,List.getElem?_eq_getElem hid]; rfl),by decide,fun t9 ht9=>?_⟩;have s9:=ae ht9 (.tup [tx dl[i],.ref R]);have eg9:=s9 _ _ eg8;have hvl:=pg.length;have hgl2:gs.length=i:=by
    have:=congrArg List.length hgd;rw [List.length_map,List.length_take] at this;omega
   refine ⟨vs,eg9,sizeBig (by omega),gs++[(dl[i],rs')],_,_,_,_,_,rfl,aH (s6.trans (s8.trans s9)) hgl,upd_same,?_,?_,fun x hx=>?_,fun x hx=>?_⟩
   ·exact eU (uT eg9 (sE (s8.trans s9) pg)) ⟨t9,R,rfl,⟨nRg,s46.free hR⟩,cg eg9 _ _ upd_same,kh eg9 nRg (hR8.same s9)⟩
   ·rw [List.map_append,hgd,List.take_add_one,List.getElem?_eq_getElem hid];rfl
   ·rcases List.mem_append.mp hx with z | z
    ·exact hgr x z
    ·rw [List.mem_singleton.mp z];exact hrok'
   ·rcases List.mem_append.mp hx with z | z
    ·exact hgn x z
    ·rw [List.mem_singleton.mp z];exact hrl'
 ·rintro σ H6 ⟨gs,vs,u13,u14,u15,u16,rfl,s6,eg,pg,hgd,hgr,hgn⟩;have s46:=s45.trans s6;rw [<- dlen,List.take_length] at hgd;walk_at "rd";refine ⟨ns,k0+5,fb - fa,dl,s46.seq hS,by omega,by omega,by omega,by omega,SqL.of (s6 _ _ e5),by omega,fun wp H7 ws hwp s7 hw wok hwl=>⟨by decide,fun hp hhp=>?_⟩⟩;have s8:=ae hhp (.tup [V.ref gl,V.ref wp]);have s78:=s7.trans s8;have ngw:gl≠wp:=fun z=>by rw [z,hwp] at eg; cases eg
  refine q hp gl wp _ (gs,ws) ((s46.trans s7).free hhp) (s45.free hgl) (s46.free hwp) (s46.trans s78) ⟨upd_same,ngw,⟨vs,s78 _ _ eg,L2.Paired.mapP pg ?_⟩,hw.same s8⟩ ⟨?_,fun x hx=>?_,?_,fun x hx r hr=>(hgr x hx r hr).1,fun x hx=>Nat.le_trans (hgn x hx) (by decide),?_,Nat.le_trans hwl (by decide)⟩ hwl fun x hx r hr=>(hgr x hx r hr).2
  ·rintro x v ⟨t',r,rfl,n,h1,h2⟩;refine ⟨t',r,rfl,⟨n.1,fun z=>?_,n.2⟩,s78 _ _ h1,h2.same s78⟩;obtain ⟨us,eu,_⟩:=h2;rw [z,hwp] at eu;cases eu
  ·show (gs.map (·.1)).Nodup;rw [hgd];exact dnd
  ·exact dmem _ (by rw [<- hgd]; exact List.mem_map.mpr ⟨x,hx,rfl⟩)
  ·have:=congrArg List.length hgd;rw [List.length_map,dlen] at this;show gs.length<=3;omega
  ·show WaysOk (min (fb - fa) 8) (gs.map (·.1)) ws;rw [hgd];exact wok.mono (by omega)
def But (w:Addr) (H H':Hp):Prop:=∀ b o,b≠w->H b=some o->H' b=some o
theorem wL (w:Addr) (H:Hp):But w H H:=fun _ _ _ h=>h
theorem fM {w:Addr} {H H' H'':Hp} (h:But w H H') (k:But w H' H''):But w H H'':=fun b o n e=>k b o n (h b o n e)
theorem jG {w:Addr} {H H':Hp} (h:Same H H'):But w H H':=fun b o _ e=>h b o e
theorem tN {w:Addr} {H:Hp} (o:HO):But w H (upd H w o):=fun b o' n e=>by rw [ao n]; exact e
theorem yN {l:List Nat} (h:1<=l.length):∃ c,c ∈ l/\atI l (-1)=some c:=by
 have hj:l.length - 1 < l.length:=by omega
 refine ⟨l[l.length - 1],List.getElem_mem hj,?_⟩;have e:ixN l.length (-1)=some (l.length - 1):=by
  unfold ixN;simp;omega
 show ((ixN l.length (-1)).bind fun j=>l[j]?)=_;rw [e];exact List.getElem?_eq_getElem hj
theorem pB {w:Addr} {H0 H H':Hp} (s:Same H0 H) (h:H0 w=none) (b:But w H H'):Same H0 H':=fun c o e=>b c o (fun z=>by rw [z,h] at e; cases e) (s c o e)
noncomputable def cI (K:Frag):Sp:=aA fun a=>bB fun k=>aA fun h=>aA fun l=>aA fun p=>bB fun m=>aD fun H Q _=>∃ (ns:List Int) (k0 M:Nat) (lt:List (List Nat)) (ls:List Fld) (hs:House) (pl:List (List Nat)) (g w:Addr) (H0:Hp),Same H0 H/\H0 w=none/\SqL K H0 a (ns.map V.int)/\k=(k0:Int)/\k0<=10000/\m=(M:Int)/\4<=M/\M<=8 /\
   H l=some (.lst (lt.map tx))/\Letters (widthL ls) lt/\1<=lt.length/\lt.length<=1000/\Lay H p ls/\LayOk ls/\H h=some (.tup [.ref g,.ref w])/\Gates H g hs.1/\Ways H w hs.2/\HouseOk (widthL ls) (min ((spanG ls).2 - (spanG ls).1) 8) pl hs/\l≠w/\p≠w/\g≠w /\
   ∀ (H':Hp) (ws:List Way),But w H H'->Ways H' w ws->WaysOk (min ((spanG ls).2 - (spanG ls).1) 8) (hs.1.map (·.1)) ws->ws.length<=hs.2.length+3->Q .non H'
noncomputable def mLong (K:Frag):TS:=fun E σ H=>∀ C:TS,(∀ (a h l p D g w:Addr) (ns:List Int) (k0 M fa fb W:Nat) (lt dl:List (List Nat)) (w0:List Way) (H0:Hp),Same H0 H->H0 w=none->SqL K H0 a (ns.map V.int)->k0<=10000->4<=M->M<=8->H l=some (.lst (lt.map tx))->Letters W lt->1<=lt.length->lt.length<=1000->H h=some (.tup [.ref g,.ref w])->Ways H w w0->WaysOk (min (fb - fa) 8) dl w0->H D=some (.lst (dl.map tx))->1<=dl.length->dl.length<=3->(l≠w/\h≠w/\D≠w)->fa < fb->fb<=W->W<=48->4<=fb - fa->w0.length<=8 ->
  (∀ H' ws σ',But w H H'->Ways H' w ws->WaysOk (min (fb - fa) 8) dl ws->ws.length<=w0.length+3->E.nx σ' H')->C E [some (.ref a),some (nV k0),some (.ref h),some (.ref l),some (.ref p),some (nV M),some (nV fa),some (nV fb),some (.ref D),none,none,none,none,none] H)->C E σ H
theorem wJ {X:Cx} {l:List Stmt} {t u:TS} (h:PSs X l t) (k:∀ D σ H,u D σ H->t D σ H):PSs X l u:=fun p s σ H D I q=>h p s σ H D I (k _ _ _ q)
theorem xK (T:Top K mg) {f:Addr} {cdv:Value} {A:Around} {outer:List Env} {s:Shared} {H₀:Hp} {E:XK} (hr:Room 1 (A.deeper (PyProof.Rows.envOfC "_law_long_ways" (defScope aV) s.heap.objs.size f cdv))):
  PSs (cxOf CX0 P w K mg base ["_law_script", "_law_k", "_law_house_here", "_law_letters_here", "_law_layout_here", "_law_most", "_law_first", "_law_behind", "_law_doors", "_law_j", "_law_letter", "_law_cut", "_law_beginning", "_law_at"] "_law_long_ways" (defScope aV) f cdv A outer s H₀ E).nox ((defBody aV).drop 3) (mLong K):=by
 refine wJ (af (bf PassesOwn.never rfl (bo rfl T.bE (ak (ah T) hr.m rfl (aa (qv 0) (aa (qv 1) (aa ad ab))))) (ag (i:=9) aE.nd rfl lc) (ac (ai (i:=10) aE.nd rfl lc (az (ixE K rfl) (qv 3) (ak (ah T) hr.m rfl (aa (qv 0) (aa (am aj (am aj (qv 1) ad) (qv 9)) (aa (au (lenE K rfl) rfl T.bc aL (aa (qv 3) ab)) ab)))) (fun _ _=>rfl)))
   (ac (ai (i:=11) aE.nd rfl lc (au (gp rfl) rfl T.rD pR (aa (qv 5) (aa (am aj ad (ak (ah T) hr.m rfl (aa (qv 0) (aa (am aj (am aj (qv 1) ad) (qv 9)) (aa (am eZ (am eZ (qv 7) (qv 6)) ad) ab))))) ab))))
   (ac (ai (i:=12) aE.nd rfl lc (bA slB (qv 10) (bF (qv 6)) (bF (am aj (qv 6) (qv 11)))))
   (cT (aJ (aw ba (ak (ah T) hr.m rfl (aa (qv 0) (aa (am aj (am aj (qv 1) ad) (qv 9)) (aa ad ab)))) ad) (af (ai (i:=12) aE.nd rfl lc (am aj (bA slM (qv 12) cm (bF (rG ad))) (az (ixE K rfl) (qs [49,48]) (fR oJ rfl T.oV mt (aa (az (ixE K rfl) (qv 12) (rG ad) (fun _ _=>rfl)) ab)) (fun _ _=>rfl))))) av)
   (af (aJ (aw (notinE K rfl) (qv 12) (aX (nt:=1) (fi:=[]) (N':=["_law_way"]) rfl (cscope rfl (by decide +kernel)) (cnames (N:=["_law_script", "_law_k", "_law_house_here", "_law_letters_here", "_law_layout_here", "_law_most", "_law_first", "_law_behind", "_law_doors", "_law_j", "_law_letter", "_law_cut", "_law_beginning", "_law_at"]) (sc:=defScope aV) rfl rfl (by decide +kernel)) (aY (by decide)) (iterE K rfl (az (ixE K rfl) (qv 2) ad (fun _ _=>rfl))) (fun _ _ _ _ _=>(ag (i:=0) (by show (["_law_way"]:List Str).Nodup; decide +kernel) rfl lc)) (fun _ _ _ _ _=>aM) (fun _ _ _ _ _=>(az (ixE K rfl) (qv 0) ad (fun _ _=>rfl))))) (ac (ai (i:=13) aE.nd rfl lc (ak (ah T) hr.m rfl (aa (qv 0) (aa (am aj (am aj (qv 1) ad) (qv 9)) (aa (am aj (au (lenE K rfl) rfl T.bc aL (aa (az (ixE K rfl) (qv 2) ad (fun _ _=>rfl)) ab)) ad) ab)))))
   (af (bQ (kA (az (ixE K rfl) (qv 2) ad (fun _ _=>rfl)) (qv 13) (aS (aa (qv 12) (aa (az (ixE K rfl) (qv 8) (ak (ah T) hr.m rfl (aa (qv 0) (aa (am aj (am aj (qv 1) ad) (qv 9)) (aa (au (lenE K rfl) rfl T.bc aL (aa (qv 8) ab)) ab)))) (fun _ _=>rfl)) ab))))))) av)))))))) fun E1 σ H h0=>h0 _ fun a h l p D g w ns k0 M fa fb W lt dl w0 H0 s0 h0w hS0 hk hM4 hM el3 hlt hl1 hl2 eh3 hW wok e3 hd1 hdl nn hab hb w2 g4 wl q=>?_
 have nlw:=nn.1;have nhw:=nn.2.1;have nDw:=nn.2.2;have hS3:=s0.seq hS0;walk_at "rd";refine aC hS3 (by omega) (by omega) (by decide) (by decide) fun r1 hr1=>?_
 walk_at "rd";refine ⟨by omega,by omega,?_⟩;rw [Int.toNat_natCast];refine bT (lo:=0) (n:=r1) (fun i σ H'=>∃ (ws:List Way) (u9 u10 u11 u12 u13:Option V),σ = [some (.ref a),some (nV k0),some (.ref h),some (.ref l),some (.ref p),some (nV M),some (nV fa),some (nV fb),some (.ref D),u9,u10,u11,u12,u13]/\But w H H'/\Ways H' w ws/\WaysOk (min (fb - fa) 8) dl ws/\ws.length<=w0.length+i)
  ⟨w0,none,none,none,none,none,rfl,wL _ _,hW,wok,by omega⟩ ?_ ?_
 ·rintro i σ H4 hi ⟨ws,u9,u10,u11,u12,u13,rfl,b4,hw,wok',hwl⟩;have hS4:=(pB s0 h0w b4).seq hS0;have el4:=b4 _ _ nlw el3;have eh4:=b4 _ _ nhw eh3;have eD4:=b4 _ _ nDw e3;walk_at "rd";refine ⟨_,.inl (SqL.of el4),aC hS4 (by omega) (by omega) (by rw [List.length_map]; omega) (by rw [List.length_map]; omega) fun r2 hr2=>?_⟩;rw [List.length_map] at hr2;obtain ⟨lv,hlv,elv⟩:=ki (l:=lt.map tx) (i:=r2) (by rw [List.length_map]; omega);obtain ⟨le,hle,rfl⟩:=List.mem_map.mp hlv;obtain ⟨hleW,hle2⟩:=hlt le hle;walk_at "rd";refine ⟨_,_,.inl (SqL.of el4),elv,aC hS4 (by omega) (by omega) (by omega) (by omega) fun r3 hr3=>?_⟩;walk_at "rd";obtain ⟨cu,ecu,hcu1,hcu2,hcu3⟩:∃ c:Nat,(if (4:Int)+(r3:Int) < (M:Int) then (4:Int)+(r3:Int) else (M:Int))=(c:Int)/\4<=c/\fa+c<=fb/\c<=8:=by
   split
   ·exact ⟨4+r3,by omega,by omega,by omega,by omega⟩
   ·exact ⟨M,rfl,by omega,by omega,by omega⟩
  rw [ecu];walk_at "rd";rw [show ((fa:Int)+(cu:Int)).toNat=fa+cu by omega,Int.toNat_natCast,show fa+cu - fa=cu by omega];have hbl:((le.drop fa).take cu).length=cu:=by rw [List.length_take,List.length_drop]; omega
  have hb2:∀ c ∈ (le.drop fa).take cu,c=48\/c=49:=fun c hc=>hle2 c (List.mem_of_mem_drop (List.mem_of_mem_take hc))
  generalize (le.drop fa).take cu=bg at hbl hb2 ⊢;refine ⟨by omega,by omega,by omega,by omega,fun σ' H'=>∃ b:List Nat,σ'=[some (.ref a),some (nV k0),some (.ref h),some (.ref l),some (.ref p),some (nV M),some (nV fa),some (nV fb),some (.ref D),some (nV i),some (tx le),some (nV cu),some (tx b),u13]/\H4=H'/\b.length=cu/\∀ c ∈ b,c=48\/c=49,?_,?_⟩
  ·refine aC hS4 (by omega) (by omega) (by decide) (by decide) fun r4 hr4=>?_
   walk_at "rd";refine ite2 (fun _=>?_) fun _=>⟨bg,rfl,hbl,hb2⟩
   obtain ⟨c,hcm,ec⟩:=yN (l:=bg) (by omega);obtain ⟨c2,ec2,hc2⟩:∃ c2,atI [49,48] (((c - 48:Nat)):Int)=some c2/\(c2=48\/c2=49):=by
    rcases hb2 c hcm with rfl | rfl
    ·exact ⟨49,rfl,.inr rfl⟩
    ·exact ⟨48,rfl,.inl rfl⟩
   have hc4:48<=c/\c<=57:=by rcases hb2 c hcm with rfl | rfl <;> decide
   refine ⟨by omega,by omega,by omega,c,ec,hc4.1,hc4.2,c2,ec2,by rw [List.length_take]; omega,bg.take (bg.length - 1)++[c2],rfl,by rw [List.length_append,List.length_take,List.length_singleton]; omega,fun d hd=>?_⟩;rcases List.mem_append.mp hd with z | z
   ·exact hb2 d (List.mem_of_mem_take z)
   ·rw [List.mem_singleton.mp z];exact hc2
  ·rintro σ' H' ⟨b,rfl,rfl,hbl',hb2'⟩;walk_at "rd";refine ⟨_,_,.inr (SqT.of eh4),rfl,?_⟩;obtain ⟨vs,e1',pr⟩:=id hw;have hvl:=pr.length;obtain ⟨y1,y2⟩:=bW pr;walk_at "rd";refine .inl ⟨⟨_,SqL.of e1'⟩,fun C hC=>?_⟩;refine aW (item:=fun x:Way × V=>x.2) (xs:=ws.zip vs) (h:=fun x=>[tx x.1.1]) hC (by rw [y1]; exact SqL.of e1') (by rw [List.length_zip]; omega) (fun _=>by simp) ?_ ?_
   ·intro x H5 out non hx s5 ho _;obtain ⟨t,ex,et⟩:=y2 x hx;rw [ex];walk_at "rd";refine ⟨_,_,.inr (SqT.of (s5 _ _ et)),rfl,?_⟩;exact ho _ _ rfl (Same.refl _)
   intro H5 s5 e5;rw [show (ws.zip vs).flatMap (fun x=>[tx x.1.1])=(ws.map (·.1)).map tx by
    rw [cB (fun x:Way × V=>tx x.1.1)]
    conv=>rhs; rw [<- eR (l:=ws) (m:=vs) hvl,List.map_map,List.map_map]
    rfl] at e5
   have b5:=fM b4 (jG s5);have hS5:=s5.seq hS4;have eh5:=s5 _ _ eh4;have eD5:=s5 _ _ eD4;have ew5:=s5 _ _ e1';walk_at "rd";refine ⟨_,.inl (SqL.of e5),rfl,tY _,?_⟩;rw [vQ];walk_at "rd";refine ite2 (fun gi=>⟨ws,_,_,_,_,_,rfl,b5,hw.same s5,wok',by omega⟩) fun gi=>?_
   refine ⟨_,_,.inr (SqT.of eh5),rfl,?_⟩;walk_at "rd";refine ⟨_,.inl (SqL.of ew5),aC hS5 (by omega) (by omega) (by omega) (by omega) fun r5 hr5=>?_⟩;refine ⟨_,_,.inr (SqT.of eh5),rfl,⟨_,ew5⟩,?_⟩;refine ⟨_,.inl (SqL.of eD5),aC hS5 (by omega) (by omega) (by rw [List.length_map]; omega) (by rw [List.length_map]; omega) fun r6 hr6=>?_⟩;rw [List.length_map] at hr6;obtain ⟨dv,hdv,edv⟩:=ki (l:=dl.map tx) (i:=r6) (by rw [List.length_map]; omega);obtain ⟨dn,hdn,rfl⟩:=List.mem_map.mp hdv;walk_at "rd";refine ⟨_,_,.inl (SqL.of eD5),edv,by decide,fun t7 ht7=>?_⟩;have s6:=ae ht7 (.tup [tx b,tx dn]);have nw7:w≠t7:=fun z=>by rw [<- z,ew5] at ht7; cases ht7
   refine ⟨vs,r5,rfl,s6 _ _ ew5,by omega,by omega,insW ws r5 (b,dn),_,_,_,_,_,rfl,fM b5 (fM (jG s6) (tN _)),⟨_,upd_same,?_⟩,rg wok' (b,dn) r5 (by show b.length<=min (fb - fa) 8; omega) hb2' hdn (by simpa using gi),?_⟩
   ·refine i7 (F:=WayAt _) ⟨t7,rfl,?_⟩ r5 (L2.Paired.mapP pr ?_)
    ·rw [ao (Ne.symm nw7),upd_same]
    ·rintro x v ⟨t,rfl,et⟩;refine ⟨t,rfl,?_⟩;rw [ao (fun z=>by rw [z,e1'] at et; cases et)];exact s6 _ _ (s5 _ _ et)
   ·have:=(iI ws r5 (b,dn)).length_eq;rw [this,List.length_cons];omega
 ·rintro σ H4 ⟨ws,u9,u10,u11,u12,u13,rfl,b4,hw,wok',hwl⟩;exact q H4 ws _ b4 hw wok' (by omega)
theorem jO (T:Top K mg):Callee P w K mg base 2 "_law_long_ways" ["_law_script", "_law_k", "_law_house_here", "_law_letters_here", "_law_layout_here", "_law_most"] (cI K):=by
 refine T.fT.cal aE (by unfold cI; exact LenSp.h) (fun _ _ _ _ _ _ us hl=>match us,hl with | [_,_,_,_,_,_],_=>rfl) (fun f cdv A outer s H vs Q E hr h=>?_);unfold cI at h;walk_at "el";refine ⟨_,(ac (jf (ak (dW T) hr.m rfl (aa (qv 4) ab)) (seqE K rfl rfl (n:=2) (ap (ag (i:=6) aE.nd rfl lc) (ap (ag (i:=7) aE.nd rfl lc) aP))))
   (ac (dN (i:=8) (nt:=1) (fi:=[]) (N':=["_law_gate"]) aE.nd rfl lc rfl (cscope rfl (by decide +kernel)) (cnames (N:=["_law_script", "_law_k", "_law_house_here", "_law_letters_here", "_law_layout_here", "_law_most", "_law_first", "_law_behind", "_law_doors", "_law_j", "_law_letter", "_law_cut", "_law_beginning", "_law_at"]) (sc:=defScope aV) rfl rfl (by decide +kernel)) (aY (by decide)) (iterE K rfl (az (ixE K rfl) (qv 2) ad (fun _ _=>rfl))) (fun _ _ _ _ _=>(ag (i:=0) (by show (["_law_gate"]:List Str).Nodup; decide +kernel) rfl lc)) (fun _ _ _ _ _=>aM) (fun _ _ _ _ _=>(az (ixE K rfl) (qv 0) ad (fun _ _=>rfl))))
   (ac (aJ (PW.pt (oF (aw (eqNilE K rfl (hu1 hr)) (qv 8) (br ab)) (pK (aw xi (am eZ (qv 7) (qv 6)) ad)))) (af ze) av)
   (xK T hr)))),?_⟩
 rename_i a k h l p m;obtain ⟨ns,k0,M,lt,ls,hs,pl,g,w,H0,s0,h0w,hS0,rfl,hk,rfl,hM4,hM,hl,hlt,hl1,hl2,hL,ok,hh,hG,hW,hok,nlw,npw,ngw,q⟩:=h;have hS:=s0.seq hS0;obtain ⟨fa,fb,esp,hab,hb⟩:=ok.to;have eG:spanG ls=(fa,fb):=by unfold spanG; rw [esp]; rfl
 rw [eG] at q hok;have w2:=ok.w2;generalize eW:widthL ls=W at *;walk_at "rd";refine ⟨ls,hL,fun t1 H1 ht1 s1 e1=>?_⟩;rw [eG] at e1;refine ⟨[_,_],.inr (SqT.of e1),rfl,_,[_],rfl,_,[],rfl,rfl,?_⟩;walk_at "rd";obtain ⟨gv,eg,pg⟩:=hG.same s1;have hgl:=pg.length;obtain ⟨z1,z2⟩:=bW pg;refine ⟨_,_,.inr (SqT.of (s1 _ _ hh)),rfl,?_⟩;walk_at "rd";refine .inl ⟨⟨_,SqL.of eg⟩,fun D hD=>?_⟩;refine aW (item:=fun x:Gate × V=>x.2) (xs:=hs.1.zip gv) (h:=fun x=>[tx x.1.1]) hD (by rw [z1]; exact SqL.of eg) (by rw [List.length_zip]; have:=hok.g3; omega) (fun _=>by simp) ?_ ?_
 ·intro x H2 out non hx s2 ho _;obtain ⟨t,r,ex,et,_⟩:=z2 x hx;rw [ex];walk_at "rd";refine ⟨_,_,.inr (SqT.of (s2 _ _ et)),rfl,?_⟩;exact ho _ _ rfl (Same.refl _)
 intro H2 s2 e2;rw [show (hs.1.zip gv).flatMap (fun x=>[tx x.1.1])=(hs.1.map (·.1)).map tx by
  rw [cB (fun x:Gate × V=>tx x.1.1)]
  conv=>rhs; rw [<- eR (l:=hs.1) (m:=gv) hgl,List.map_map,List.map_map]
  rfl] at e2
 have s12:=s1.trans s2;have hdl:(hs.1.map (·.1)).length<=3:=by rw [List.length_map]; exact hok.g3
 have wok:=hok.ways;have wl:=hok.w8;generalize hs.1.map (·.1)=dl at e2 hdl wok q;obtain ⟨wv0,ew0,pw0⟩:=id hW;have nDw:D≠w:=fun z=>by rw [z,s1 _ _ ew0] at hD; cases hD
 have nhw:h≠w:=fun z=>by rw [z,ew0] at hh; cases hh
 walk_at "rd";refine ⟨Nat.zero_le _,fun t2 ht2=>⟨_,SqL.of (ae ht2 _ _ _ e2),SqL.of upd_same,?_⟩⟩;have s3:=s12.trans (ae ht2 (.lst []));have e3:=ae ht2 (.lst []) _ _ e2;generalize upd H2 t2 (.lst [])=H3 at s3 e3 ⊢;have b3:But w H H3:=jG s3;have out0:=q H3 hs.2 b3 (hW.same s3) wok (by omega);refine ite2 (fun ge=>out0) fun ge=>ite2 (fun g4=>out0) fun g4=>?_
 have hd1:1<=dl.length:=by
  cases dl with
  | nil=>exact absurd rfl ge
  | cons _ _=>simp
 have hS3:=s3.seq hS;have eh3:=s3 _ _ hh;have el3:=s3 _ _ hl;intro C hC;exact hC a h l p D g w ns k0 M fa fb W lt dl hs.2 H0 (s0.trans s3) h0w hS0 hk hM4 hM el3 hlt hl1 hl2 eh3 (hW.same s3) wok e3 hd1 hdl ⟨nlw,nhw,nDw⟩ hab hb (by omega) (by omega) wl fun H' ws σ' b' hw' wk' hl'=>q H' ws (fM b3 b') hw' wk' hl'
theorem eY {α β γ:Type} {F:α -> β -> Prop} {G:β -> γ -> Prop} {f:α -> γ} (h:∀ x v,F x v->G v (f x)):∀ {l:List α} {vs:List β},Paired F l vs->Paired G vs (l.map f)
 | _,_,.nil=>.nil
 | _,_,.cons r p=>.cons (h _ _ r) (eY h p)
theorem dk {α β γ:Type} {F:α -> β -> Prop} {G:β -> γ -> Prop} {f:α -> γ} (h:∀ x v,G v (f x)->F x v):∀ {l:List α} {vs:List β},Paired G vs (l.map f)->Paired F l vs
 | [],_,p=>by cases p; exact .nil
 | x::l,_,p=>by
  cases p with
  | cons r p=>exact .cons (h _ _ r) (dk h p)
theorem x0 {H:Hp} {n:Nat} {v:V} {ds:List D} (h:Th H (n+1) v (.l ds)):∃ a vs,v=.ref a/\H a=some (.lst vs)/\Paired (Th H n) vs ds:=by
 rcases h with ⟨e,_⟩ | ⟨a,vs,ds',e1,e2,e3,_,p⟩ | ⟨a,vs,ds',e1,e2,e3,_,p⟩
 ·cases e
 ·cases e2; exact ⟨a,vs,e1,e3,p⟩
 ·cases e2
theorem uY {H:Hp} {n:Nat} {v:V} {ds:List D} (h:Th H (n+1) v (.t ds)):∃ a vs,v=.ref a/\H a=some (.tup vs)/\Paired (Th H n) vs ds:=by
 rcases h with ⟨e,_⟩ | ⟨a,vs,ds',e1,e2,e3,_,p⟩ | ⟨a,vs,ds',e1,e2,e3,_,p⟩
 ·cases e
 ·cases e2
 ·cases e2; exact ⟨a,vs,e1,e3,p⟩
theorem zd {H:Hp} {n:Nat} {a:Addr} {vs:List V} {ds:List D} (e:H a=some (.lst vs)) (hl:vs.length<=1000) (p:Paired (Th H n) vs ds):Th H (n+1) (.ref a) (.l ds):=.inr (.inl ⟨a,vs,ds,rfl,rfl,e,hl,p⟩)
theorem qA {H:Hp} {n:Nat} {a:Addr} {vs:List V} {ds:List D} (e:H a=some (.tup vs)) (hl:vs.length<=1000) (p:Paired (Th H n) vs ds):Th H (n+1) (.ref a) (.t ds):=.inr (.inr ⟨a,vs,ds,rfl,rfl,e,hl,p⟩)
theorem As {H:Hp} {x:Fld} {v:V} (n:Nat) (h:FldAt H x v):Th H (n+1) v (fldD x):=by
 obtain ⟨t,rfl,e⟩:=h;exact qA e (by simp) (.cons (dO n rfl) (.cons (dO n rfl) .nil))
theorem wx {H:Hp} {x:Fld} {v:V} {n:Nat} (h:Th H (n+1) v (fldD x)):FldAt H x v:=by
 obtain ⟨a,vs,rfl,e,p⟩:=uY h;cases p with
 | cons r p=>cases p with
  | cons r2 p=>
   cases p;rw [jK r,jK r2] at e;exact ⟨a,rfl,e⟩
theorem zH {H:Hp} {x:Way} {v:V} (n:Nat) (h:WayAt H x v):Th H (n+1) v (wayD x):=by
 obtain ⟨t,rfl,e⟩:=h;exact qA e (by simp) (.cons (dO n rfl) (.cons (dO n rfl) .nil))
theorem v8 {H:Hp} {x:Way} {v:V} {n:Nat} (h:Th H (n+1) v (wayD x)):WayAt H x v:=by
 obtain ⟨a,vs,rfl,e,p⟩:=uY h;cases p with
 | cons r p=>cases p with
  | cons r2 p=>
   cases p;rw [jK r,jK r2] at e;exact ⟨a,rfl,e⟩
theorem yU {H:Hp} {x:Rule} {v:V} (n:Nat) (h:RuleAt H x v):Th H (n+1) v (ruleD x):=by
 obtain ⟨t,rfl,e⟩:=h;exact qA e (by simp) (.cons (dO n rfl) (.cons (dO n rfl) (.cons (dO n rfl) .nil)))
theorem uj {H:Hp} {x:Rule} {v:V} {n:Nat} (h:Th H (n+1) v (ruleD x)):RuleAt H x v:=by
 obtain ⟨a,vs,rfl,e,p⟩:=uY h;cases p with
 | cons r p=>cases p with
  | cons r2 p=>cases p with
   | cons r3 p=>
    cases p;rw [jK r,jK r2,jK r3] at e;exact ⟨a,rfl,e⟩
noncomputable def layD (ls:List Fld):D:=.l (ls.map fldD)
noncomputable def gateD (x:Gate):D:=.t [.f (tx x.1),.l (x.2.map ruleD)]
noncomputable def houseD (h:House):D:=.t [.l (h.1.map gateD),.l (h.2.map wayD)]
theorem zU {H:Hp} {p:Addr} {ls:List Fld} (n:Nat) (h:Lay H p ls) (hl:ls.length<=1000):Th H (n+2) (.ref p) (layD ls):=by
 obtain ⟨vs,e,pr⟩:=h;exact zd e (by rw [<- pr.length]; exact hl) (eY (fun x v z=>As n z) pr)
theorem wj {H:Hp} {v:V} {ls:List Fld} {n:Nat} (h:Th H (n+2) v (layD ls)):∃ p,v=.ref p/\Lay H p ls:=by
 obtain ⟨a,vs,rfl,e,p⟩:=x0 h;exact ⟨a,rfl,vs,e,dk (F:=FldAt H) (fun x v z=>wx z) p⟩
theorem wK {H:Hp} {p:Addr} {rs:List Rule} (n:Nat) (h:Rules H p rs) (hl:rs.length<=1000):Th H (n+2) (.ref p) (.l (rs.map ruleD)):=by
 obtain ⟨vs,e,pr⟩:=h;exact zd e (by rw [<- pr.length]; exact hl) (eY (fun x v z=>yU n z) pr)
theorem tE {H:Hp} {v:V} {rs:List Rule} {n:Nat} (h:Th H (n+2) v (.l (rs.map ruleD))):∃ p,v=.ref p/\Rules H p rs:=by
 obtain ⟨a,vs,rfl,e,p⟩:=x0 h;exact ⟨a,rfl,vs,e,dk (F:=RuleAt H) (fun x v z=>uj z) p⟩
theorem uy {H:Hp} {x:Gate} {v:V} {n:Nat} (h:Th H (n+3) v (gateD x)):GateAt H x v:=by
 obtain ⟨a,vs,rfl,e,p⟩:=uY h;cases p with
 | cons r p=>cases p with
  | cons r2 p=>
   cases p;obtain ⟨q,rfl,hq⟩:=tE r2;rw [jK r] at e;exact ⟨a,q,rfl,e,hq⟩
theorem v7 {H:Hp} {t:Addr} {hs:House} (n:Nat) (h:HouseAt H t hs) (h1:hs.1.length<=1000) (h2:hs.2.length<=1000) (h3:∀ x ∈ hs.1,x.2.length<=1000):Th H (n+5) (.ref t) (houseD hs):=by
 obtain ⟨g,w,e,⟨vs,eg,pg⟩,⟨us,ew,pw⟩⟩:=h;refine qA e (by simp) (.cons (zd eg (by rw [<- pg.length]; exact h1) ?_) (.cons (zd ew (by rw [<- pw.length]; exact h2) (eY (fun x v z=>zH (n+2) z) pw)) .nil));clear eg e ew pw h1 h2;obtain ⟨gs,ws⟩:=hs;dsimp only at pg h3 ⊢
 induction pg with
 | nil=>exact .nil
 | cons r p ih=>
  refine .cons ?_ (ih fun x hx=>h3 x (List.mem_cons_of_mem _ hx));obtain ⟨t',q,rfl,e,hq⟩:=r;exact qA e (by simp) (.cons (dO (n+2) rfl) (.cons (wK n hq (h3 _ List.mem_cons_self)) .nil))
theorem tI {H:Hp} {v:V} {hs:House} {n:Nat} (h:Th H (n+5) v (houseD hs)):∃ t,v=.ref t/\HouseAt H t hs:=by
 obtain ⟨a,vs,rfl,e,p⟩:=uY h;cases p with
 | cons r p=>cases p with
  | cons r2 p=>
   cases p;obtain ⟨g,gv,rfl,eg,pg⟩:=x0 r;obtain ⟨w,wv,rfl,ew,pw⟩:=x0 r2;exact ⟨a,rfl,g,w,e,⟨gv,eg,dk (F:=GateAt H) (fun x v z=>uy z) pg⟩,⟨wv,ew,dk (F:=WayAt H) (fun x v z=>v8 z) pw⟩⟩
theorem fN {H:Hp} {t:Addr} {vs:List V} (e:H t=some (.tup vs)) (hf:vs.all flatV=true) (hl:vs.length<=1000):Th H 1 (.ref t) (.t (vs.map D.f)):=by
 refine qA e hl ?_;clear e hl
 induction vs with
 | nil=>exact .nil
 | cons v vs ih=>
  rw [List.all_cons,Bool.and_eq_true] at hf;exact .cons (dO 0 hf.1) (ih hf.2)
noncomputable def okS (m i:Nat):Bool:=m == 45 || i == 45 || m == i
noncomputable def meetS (m i:Nat):Nat:=if m=45 then i else m
noncomputable def okL (x y:List Nat):Bool:=(x.zip y).all fun p=>okS p.1 p.2
noncomputable def meetL (x y:List Nat):List Nat:=(x.zip y).map fun p=>meetS p.1 p.2
noncomputable def meetV (x y:List Nat):V:=if okL x y=true then .str (st (meetL x y)) else .non
theorem iV {x y:List Nat} {i c d:Nat} (hc:x[i]? = some c) (hd:y[i]? = some d):(x.take (i+1)).zip (y.take (i+1))=(x.take i).zip (y.take i)++[(c,d)]:=by
 have h1:=(List.getElem?_eq_some_iff.mp hc).1;have h2:=(List.getElem?_eq_some_iff.mp hd).1;rw [List.take_succ,List.take_succ,hc,hd,List.zip_append (by simp; omega)];rfl
theorem wQ {x y:List Nat} {i c d:Nat} (hc:x[i]? = some c) (hd:y[i]? = some d):okL (x.take (i+1)) (y.take (i+1))=(okL (x.take i) (y.take i) && okS c d):=by
 unfold okL;rw [iV hc hd];simp
theorem sy {x y:List Nat} {i c d:Nat} (hc:x[i]? = some c) (hd:y[i]? = some d):meetL (x.take (i+1)) (y.take (i+1))=meetL (x.take i) (y.take i)++[meetS c d]:=by
 unfold meetL;rw [iV hc hd];simp
theorem xF {x y:List Nat} {i c d:Nat} (hc:x[i]? = some c) (hd:y[i]? = some d) (h:okS c d=false):okL x y=false:=by
 unfold okL;rw [Bool.eq_false_iff];intro z;rw [List.all_eq_true] at z;have:=z (c,d) (List.mem_of_getElem? (List.getElem?_zip_eq_some.mpr ⟨hc,hd⟩));rw [h] at this;cases this
theorem qz:∀ {x y:List Nat},(x.take (min x.length y.length)).zip (y.take (min x.length y.length))=x.zip y
 | [],y=>by simp
 | _::_,[]=>by simp
 | a::x,b::y=>by
  have ih:=qz (x:=x) (y:=y);rw [List.length_cons,List.length_cons,Nat.add_min_add_right,List.take_succ_cons,List.take_succ_cons,List.zip_cons_cons,ih,List.zip_cons_cons]
noncomputable def h9:Sp:=be fun a=>be fun b=>aD fun H Q _=>a.cps.toList.length<=1000/\∀ H',Same H H'->Q (meetV a.cps.toList b.cps.toList) H'
theorem qu (T:Top K mg):Callee P w K mg base 1 "row_meet" ["one", "other"] h9:=by
 refine T.nv.cal fc (by unfold h9; exact LenSp.h) (fun _ _ _ _ _ _ us hl=>match us,hl with | [_,_],_=>rfl) (fun f cdv A outer s H vs Q E hr h=>?_);unfold h9 at h;walk_at "el";refine ⟨_,(ac (ai (i:=2) fc.nd rfl lc (br ab))
   (ac (bf PassesOwn.never rfl (zipE K rfl rfl T.oZ (qv 0) (qv 1)) (tupE K rfl rfl (n:=2) (ap (ag (i:=3) fc.nd rfl lc) (ap (ag (i:=4) fc.nd rfl lc) aP))) (ac (aJ (PW.pt (fB (aw cw (qv 3) (qs [45])) (fB (aw cw (qv 4) (qs [45])) (gr (aw cw (qv 3) (qv 4)))))) (af (aq kD)) av)
   (af (bQ (cC (qv 2) (dm (aw ba (qv 3) (qs [45])) (qv 4) (qv 3)))))))
   (af (aq (joinE K rfl (qv 2)))))),?_⟩
 rename_i a b;obtain ⟨x,rfl⟩:∃ x,a=st x:=⟨_,(aF a).symm⟩;obtain ⟨y,rfl⟩:∃ x,b=st x:=⟨_,(aF b).symm⟩;obtain ⟨h1,q⟩:=h;simp only [ar] at h1 q;walk_at "rd";refine ⟨by decide,fun g hg=>?_⟩;refine mv (xs:=x.map fun c=>V.str (st [c])) (ys:=y.map fun c=>V.str (st [c])) (fun i σ H'=>∃ u v,σ = [some (.str (st x)),some (.str (st y)),some (.ref g),u,v]/\Same H H'/\okL (x.take i) (y.take i)=true/\H' g=some (.lst ((meetL (x.take i) (y.take i)).map fun k=>V.str (st [k]))))
  ⟨none,none,rfl,ae hg _,rfl,upd_same⟩ (fun i σ H' _=>⟨rfl,rfl⟩) ?_ ?_
 ·rintro i c d σ H1 t hx hy ⟨u,v,rfl,s1,e1,e2⟩ ht;rw [List.getElem?_map] at hx hy;obtain ⟨c,hc,rfl⟩:=Option.map_eq_some_iff.mp hx;obtain ⟨d,hd,rfl⟩:=Option.map_eq_some_iff.mp hy;have hi:=(List.getElem?_eq_some_iff.mp hc).1;have ngt:g≠t:=aQ e2 ht;have e3:(upd H1 t (.tup [V.str (st [c]),V.str (st [d])])) g=_:=(ao ngt).trans e2;have s2:Same H (upd H1 t (.tup [V.str (st [c]),V.str (st [d])])):=s1.trans (ae ht _);have small:((meetL (x.take i) (y.take i)).map fun k=>V.str (st [k])).length < sizeLine:=sizeBig (by simp [meetL]; omega);have good:okS c d=true->∀ k,k=meetS c d->∃ u v,[some (V.str (st x)),some (V.str (st y)),some (V.ref g),some (V.str (st [c])),some (V.str (st [d]))]=[some (.str (st x)),some (.str (st y)),some (.ref g),u,v] /\
    Same H (upd (upd H1 t (.tup [V.str (st [c]),V.str (st [d])])) g (.lst (((meetL (x.take i) (y.take i)).map fun k=>V.str (st [k]))++[V.str (st [k])])))/\okL (x.take (i+1)) (y.take (i+1))=true /\
    (upd (upd H1 t (.tup [V.str (st [c]),V.str (st [d])])) g (.lst (((meetL (x.take i) (y.take i)).map fun k=>V.str (st [k]))++[V.str (st [k])]))) g=some (.lst ((meetL (x.take (i+1)) (y.take (i+1))).map fun k=>V.str (st [k]))):=fun ho k hk=>by
   refine ⟨_,_,rfl,aH s2 hg,by rw [wQ hc hd,e1,ho]; rfl,?_⟩;rw [upd_same,sy hc hd,hk];simp
  walk_at "rd";refine ite2 (fun g1=>?_) fun g1=>ite2 (fun g2=>?_) fun g2=>ite2 (fun g3=>?_) fun g3=>?_
  ·exact ⟨⟨_,e3⟩,ite2 (fun g4=>⟨_,e3,small,good (by simp [okS,g1]) _ (by simp [meetS,g4])⟩) fun g4=>absurd g1 g4⟩
  ·exact ⟨⟨_,e3⟩,ite2 (fun g4=>absurd g4 g1) fun g4=>⟨_,e3,small,good (by simp [okS,g2]) _ (by simp [meetS,g4])⟩⟩
  ·exact ⟨⟨_,e3⟩,ite2 (fun g4=>absurd g4 g1) fun g4=>⟨_,e3,small,good (by simp [okS,g3]) _ (by simp [meetS,g4])⟩⟩
  ·have e4:=xF hc hd (by simp [okS,g1,g2,g3]);have:=q _ s2;unfold meetV at this;rw [e4] at this;exact this
 ·rintro σ H1 ⟨u,v,rfl,s1,e1,e2⟩;walk_at "rd";simp only [List.length_map] at e1 e2;unfold okL at e1;unfold meetL at e2;rw [qz] at e1 e2;refine ⟨_,SqL.of e2,by simp; omega,?_⟩;have:=q _ s1;unfold meetV okL meetL at this;rw [if_pos e1] at this;exact this
noncomputable abbrev txt (r:List Nat):V:=V.str (st r)
noncomputable def gU:Sp:=be fun z=>bB fun p=>be fun s=>aD fun H Q _=>∃ c,s.cps.toList=[c]/\0<=p/\p < z.cps.toList.length/\z.cps.toList.length<=1000/\Q (txt (z.cps.toList.set p.toNat c)) H
theorem kP (T:Top K mg):Callee P w K mg base 1 "row_with" ["row", "place", "sign"] gU:=by
 refine T.nA.cal qK (by unfold gU; exact LenSp.h) (fun _ _ _ _ _ _ us hl=>match us,hl with | [_,_,_],_=>rfl) (fun f cdv A outer s H vs Q E hr h=>?_);unfold gU at h;walk_at "el";refine ⟨_,(af (aq (am aj (am aj (bA (slE K rfl) (qv 0) cm (bF (qv 1))) (qv 2)) (bA (slE K rfl) (qv 0) (bF (am aj (qv 1) ad)) cm)))),?_⟩;rename_i z p s;obtain ⟨l,rfl⟩:∃ x,z=st x:=⟨_,(aF z).symm⟩;obtain ⟨c,hc,h0,h1,h2,q⟩:=h;obtain rfl:s=st [c]:=by rw [<- hc,aF]
 simp only [ar] at h1 h2 q;walk_at "rd";refine ⟨by omega,by omega,by omega,by simp; omega,by omega,by omega,by omega,by simp; omega,?_⟩;have e:l.take p.toNat++[c]++l.drop (p+1).toNat=l.set p.toNat c:=by
  rw [List.set_eq_take_append_cons_drop,if_pos (by omega),show (p+1).toNat=p.toNat+1 by omega];simp
 rw [e];exact q
noncomputable abbrev pl (i:Nat):V:=V.int i
noncomputable def narrow (r:List Nat) (ps:List Nat):List Nat:=ps.map fun i=>r.getD i 0
theorem qP {α β:Type} (f:α -> β) (l:List α):(l.flatMap fun x=>[f x])=l.map f:=by
 induction l with
 | nil=>rfl
 | cons x l ih=>rw [List.flatMap_cons,ih]; rfl
theorem ke {α:Type} {l:List α} {i:Nat} (h:i < l.length):atI l (i:Int)=some l[i]:=by
 have e:ixN l.length (i:Int)=some i:=by
  unfold ixN;simp;omega
 show ((ixN l.length (i:Int)).bind fun j=>l[j]?)=some l[i];rw [e];exact List.getElem?_eq_getElem h
noncomputable def dt (K:Frag):Sp:=be fun a=>aA fun p=>aD fun H Q _=>∃ ps:List Nat,SqL K H p (ps.map pl)/\(∀ i ∈ ps,i < a.cps.toList.length)/\a.cps.toList.length<=1000/\ps.length<=1000/\∀ H',Same H H'->Q (.str (st (narrow a.cps.toList ps))) H'
theorem lE (T:Top K mg):Callee P w K mg base 1 "row_narrowed" ["row", "places"] (dt K):=by
 refine T.iu.cal lC (by unfold dt; exact LenSp.h) (fun _ _ _ _ _ _ us hl=>match us,hl with | [_,_],_=>rfl) (fun f cdv A outer s H vs Q E hr h=>?_);unfold dt at h;walk_at "el";refine ⟨_,(af (aq (joinE K rfl (aX (nt:=1) (fi:=[0]) (N':=["place", "row"]) rfl (cscope rfl (by decide +kernel)) (cnames (N:=["row", "places"]) (sc:=defScope cM) rfl rfl (by decide +kernel)) (aY (by decide)) (iterE K rfl (qv 1)) (fun _ _ _ _ _=>(ag (i:=0) (by show (["place", "row"]:List Str).Nodup; decide +kernel) rfl lc)) (fun _ _ _ _ _=>aM) (fun _ _ _ _ _=>(az (ixE K rfl) (qv 1) (qv 0) (fun _ _=>rfl))))))),?_⟩;rename_i a p;obtain ⟨r,rfl⟩:∃ x,a=st x:=⟨_,(aF a).symm⟩;obtain ⟨ps,h1,h2,h3,h4,q⟩:=h;simp only [ar] at h2 h3 q;walk_at "rd";refine .inl ⟨⟨_,h1⟩,fun D hD=>?_⟩;refine aW (item:=pl) (xs:=ps) (h:=fun i=>[V.str (st [r.getD i 0])]) hD h1 (by omega) (fun _=>by simp) ?_ ?_
 ·intro i H1 out non hi s1 ho hn;have hi':=h2 i hi;walk_at "rd";refine ⟨by omega,_,ke hi',ho _ _ (by simp [hi']) (Same.refl _)⟩
 ·intro H1 s1 e1;rw [qP (fun i=>V.str (st [r.getD i 0])) ps] at e1;exact ⟨narrow r ps,SqL.of (by rw [e1]; simp [narrow]),by simp [narrow]; omega,q H1 s1⟩
noncomputable def fA (K:Frag):Sp:=aA fun p=>aD fun H Q _=>∃ hs:List (List Nat),SqL K H p (hs.map tx)/\(∀ r ∈ hs,r.length<=1000)/\∀ H',Same H H'->Q (.int (hs.headD []).length) H'
theorem nR (T:Top K mg):Callee P w K mg base 1 "heap_width" ["heap"] (fA K):=by
 refine T.jZ.cal nB (by unfold fA; exact LenSp.h) (fun _ _ _ _ _ _ us hl=>match us,hl with | [_],_=>rfl) (fun f cdv A outer s H vs Q E hr h=>?_);unfold fA at h;walk_at "el";refine ⟨_,(af (aq (dm (aw (eqNilE K rfl (hu1 hr)) (qv 0) (br ab)) ad (au (lenE K rfl) rfl T.bc aL (aa (az (ixE K rfl) (qv 0) ad (fun _ _=>rfl)) ab))))),?_⟩;rename_i p;obtain ⟨hs,h1,h2,q⟩:=h;walk_at "rd";refine ⟨by decide,fun z hz=>⟨_,(ae hz _).seq h1,SqL.of upd_same,?_⟩⟩;cases hs with
 | nil=>exact q _ (ae hz _)
 | cons r hs=>
  refine ⟨_,_,.inl ((ae hz _).seq h1),ke (i:=0) (by simp),?_⟩;have:=h2 r List.mem_cons_self;walk_at "rd";exact ⟨show r.length<=100000 by omega,q _ (ae hz _)⟩
noncomputable def told (hs:List (List Nat)) (i:Nat):Bool:=hs.any fun r=>r.getD i 0 != 45
noncomputable def placesL (hs:List (List Nat)) (w:Nat):List Nat:=(List.range w).filter (told hs)
noncomputable def eE (K:Frag):Sp:=aA fun p=>aD fun H Q _=>∃ (hs:List (List Nat)) (w:Nat),SqL K H p (hs.map tx)/\(∀ r ∈ hs,r.length=w)/\w<=1000/\hs.length<=1000/\∀ q H',H q=none->Same H H'->H' q=some (.lst ((placesL hs (hs.headD []).length).map pl))->Q (.ref q) H'
theorem m9 (T:Top K mg):Callee P w K mg base 2 "heap_places" ["heap"] (eE K):=by
 refine T.iZ.cal eH (by unfold eE; exact LenSp.h) (fun _ _ _ _ _ _ us hl=>match us,hl with | [_],_=>rfl) (fun f cdv A outer s H vs Q E hr h=>?_);unfold eE at h;walk_at "el";refine ⟨_,(ac (ai (i:=1) eH.nd rfl lc (br ab))
   (ac (bf PassesOwn.never rfl (bo rfl T.bE (ak (nR T) hr.m rfl (aa (qv 0) ab))) (ag (i:=2) eH.nd rfl lc) (af (aJ (bx (au (vG K rfl rfl) rfl T.zr Ad (aa (aX (nt:=1) (fi:=[2]) (N':=["row", "place"]) rfl (cscope rfl (by decide +kernel)) (cnames (N:=["heap", "places", "place"]) (sc:=defScope dh) rfl rfl (by decide +kernel)) (aY (by decide)) (iterE K rfl (qv 0)) (fun _ _ _ _ _=>(ag (i:=0) (by show (["row", "place"]:List Str).Nodup; decide +kernel) rfl lc)) (fun _ _ _ _ _=>aM) (fun _ _ _ _ _=>(dY cw (az (ixE K rfl) (qv 0) (qv 1) (fun _ _=>rfl)) (qs [45])))) ab))) (af (bQ (cC (qv 1) (qv 2)))) av)))
   (af (aq (qv 1))))),?_⟩
 rename_i p;obtain ⟨hs,w,h1,h2,h3,h4,q⟩:=h;walk_at "rd";have hw:∀ r ∈ hs,r.length<=1000:=fun r hr=>by rw [h2 r hr]; exact h3
 have hh:(hs.headD []).length<=1000:=by
  cases hs with
  | nil=>simp
  | cons r hs=>exact hw r List.mem_cons_self
 refine ⟨by decide,fun g hg=>⟨hs,(ae hg _).seq h1,hw,fun H0 s0=>⟨by omega,by omega,?_⟩⟩⟩;refine bT (fun i σ H'=>∃ u,σ = [some (.ref p),some (.ref g),u]/\(∀ b o,H b=some o->H' b=some o)/\H' g=some (.lst ((placesL hs i).map pl))) ⟨none,rfl,fun b o e=>s0 b o (ae hg _ b o e),s0 _ _ upd_same⟩ ?_ ?_
 ·rintro i σ H1 hi ⟨u,rfl,s1,e1⟩;walk_at "rd";have hS1:SqL K H1 p (hs.map tx):=Same.seq s1 h1;have hi':∀ r ∈ hs,i < r.length:=fun r hr=>by
   cases hs with
   | nil=>cases hr
   | cons r0 hs=>
    have a:=h2 r0 List.mem_cons_self;have b:=h2 r hr;have c:i < r0.length:=hi;omega
  refine .inl ⟨⟨_,hS1⟩,fun D hD=>?_⟩;refine aW (item:=tx) (xs:=hs) (h:=fun r=>[V.bl (r.getD i 0 != 45)]) hD hS1 (by omega) (fun _=>by simp) ?_ ?_
  ·intro r H2 out non hr' s2 ho hn;have hir:=hi' r hr';have hlr:=hw r hr';walk_at "rd";refine ⟨by omega,_,ke hir,ho _ _ ?_ (Same.refl _)⟩;rw [List.getD_eq_getElem?_getD,List.getElem?_eq_getElem hir,Option.getD_some];simp only [bne];congr 3
  ·intro H2 s2 e2;rw [qP (fun r:List Nat=>V.bl (r.getD i 0 != 45)) hs] at e2;walk_at "rd";refine ⟨hs.map fun r=>r.getD i 0 != 45,SqL.of (by rw [e2]; simp),?_⟩;have et:(hs.map fun r=>r.getD i 0 != 45).any id=told hs i:=by unfold told; rw [List.any_map]; rfl
   rw [et];have e3:=s2 _ _ e1;have ep:placesL hs (i+1)=placesL hs i++(if told hs i=true then [i] else []):=by
    unfold placesL;rw [List.range_succ,List.filter_append];simp [List.filter];split <;> simp_all
   show if told hs i=true then _ else _
   refine ite2 (fun ht=>?_) fun ht=>?_
   ·refine ⟨⟨_,e3⟩,_,e3,?_,_,rfl,fun b o e=>?_,?_⟩
    ·have a:(placesL hs i).length<=i:=by
      have:=List.length_filter_le (told hs) (List.range i);simpa [placesL] using this
     have b:i < 1000:=by omega
     rw [List.length_map];exact small1000 (by omega)
    ·rw [ao (aQ e hg)];exact s2 _ _ (s1 _ _ e)
    ·rw [upd_same,ep,if_pos ht,List.map_append];rfl
   ·refine ⟨_,rfl,fun b o e=>s2 _ _ (s1 _ _ e),?_⟩;rw [e3,ep,if_neg ht,List.append_nil]
 ·rintro σ H1 ⟨u,rfl,s1,e1⟩;walk_at "rd";exact q g H1 hg s1 e1
noncomputable def dashes (n:Nat):List Nat:=List.replicate n 45
theorem bV {α β:Type} {F:α -> β -> Prop}:∀ {l:List α} {m:List β},Paired F l m->∀ q ∈ l.zip m,F q.1 q.2
 | _,_,.nil,q,h=>by simp at h
 | _,_,.cons p r,q,h=>by
  rw [List.zip_cons_cons] at h;rcases List.mem_cons.mp h with rfl | h
  ·exact p
  ·exact bV r q h
theorem kZ {α β γ:Type} {F:α -> γ -> Prop}:∀ {l:List α} {m:List β} {n:List γ},l.length=m.length->Paired (fun (q:α × β) c=>F q.1 c) (l.zip m) n->Paired F l n
 | [],[],_,_,h=>by cases h; exact .nil
 | a::l,b::m,_,e,h=>by
  rw [List.zip_cons_cons] at h;cases h with
  | cons r t=>exact .cons r (kZ (by simpa using e) t)
theorem ib {α β γ:Type} {F:γ -> β -> Prop} {f:α -> γ}:∀ {l:List α} {m:List β},Paired (fun a b=>F (f a) b) l m->Paired F (l.map f) m
 | _,_,.nil=>.nil
 | _,_,.cons r t=>.cons r (ib t)
theorem i3 {α β:Type} {F:α -> β -> Prop}:∀ {l:List α} {m:List β} {l':List α} {m':List β},Paired F l m->Paired F l' m'->Paired F (l++l') (m++m')
 | _,_,_,_,.nil,h=>h
 | _,_,_,_,.cons r t,h=>.cons r (i3 t h)
noncomputable def headLen (hs:List (List Nat)):Nat:=(hs.headD []).length
theorem uL {hs:List (List Nat)} {n:Nat} (h:∀ r ∈ hs,r.length=n) {r:List Nat} (hr:r ∈ hs):headLen hs=n:=by
 cases hs with
 | nil=>cases hr
 | cons r0 hs=>exact h r0 List.mem_cons_self
theorem ox {hs:List (List Nat)} {w i:Nat} (h:i ∈ placesL hs w):i < w:=by
 simpa using (List.mem_filter.mp h).1
theorem dj (c d:Nat) (x r:List Nat):within (c::x) (d::r)=((d == 45 || d == c) && within x r):=by
 unfold within;rw [List.zip_cons_cons,List.all_cons]
theorem bu:∀ (n:Nat) (x:List Nat),within x (dashes n)=true
 | 0,x=>by
  unfold within dashes;simp
 | n+1,[]=>by simp [within]
 | n+1,c::x=>by
  show within (c::x) (45::dashes n)=true;rw [dj,bu n x];rfl
theorem hX:∀ {r:List Nat} {i:Nat} (c:Nat),r[i]? = some 45->(r.set i c).count 45+1=r.count 45+(if c=45 then 1 else 0)
 | [],_,_,h=>by simp at h
 | d::r,0,c,h=>by
  have e:d=45:=by simpa using h
  subst e;rw [List.set_cons_zero,List.count_cons,List.count_cons];by_cases hc:c=45
  ·subst hc; simp
  ·simp [hc]
 | d::r,i+1,c,h=>by
  have:=hX (r:=r) (i:=i) c (by simpa using h);rw [List.set_cons_succ,List.count_cons,List.count_cons];omega
noncomputable def fitAt (x r:List Nat) (i:Nat):Bool:=r.getD i 0 == 45 || r.getD i 0 == x.getD i 0
theorem mh:∀ (W:Nat) (x r:List Nat),x.length=W->r.length=W->within x r=(List.range W).all (fitAt x r)
 | 0,x,r,h1,h2=>by
  rw [List.length_eq_zero_iff.mp h1];rfl
 | W+1,c::x,d::r,h1,h2=>by
  rw [dj,mh W x r (by simpa using h1) (by simpa using h2),List.range_succ_eq_map,List.all_cons,List.all_map];rfl
theorem nY (x r ps:List Nat):within (narrow x ps) (narrow r ps)=ps.all (fitAt x r):=by
 unfold within narrow
 induction ps with
 | nil=>rfl
 | cons p ps ih=>
  rw [List.map_cons,List.map_cons,List.zip_cons_cons,List.all_cons,ih];rfl
theorem iO (hs:List (List Nat)) (W:Nat):(placesL hs W).Pairwise (· < ·):=List.Pairwise.filter _ List.pairwise_lt_range
theorem rq (a b:Nat) (x y:List Nat):okL (a::x) (b::y)=(okS a b && okL x y):=by
 unfold okL;rw [List.zip_cons_cons,List.all_cons]
theorem pY:∀ (W:Nat) (x y:List Nat),x.length=W->y.length=W->okL x y=(List.range W).all fun i=>okS (x.getD i 0) (y.getD i 0)
 | 0,x,y,h1,h2=>by
  rw [List.length_eq_zero_iff.mp h1];rfl
 | W+1,c::x,d::y,h1,h2=>by
  rw [rq,pY W x y (by simpa using h1) (by simpa using h2),List.range_succ_eq_map,List.all_cons,List.all_map];rfl
theorem wI (c:Nat) (l:List Nat):inV (V.str (st [c])) (l.map fun c=>V.str (st [c]))=decide (c ∈ l):=by
 unfold inV
 induction l with
 | nil=>simp
 | cons d l ih=>
  rw [List.map_cons,List.any_cons,ih];simp only [eqV,List.mem_cons];by_cases h:c=d
  ·subst h; simp
  ·have h2:¬ d=c:=fun z=>h z.symm
   simp [h,h2]
noncomputable abbrev Pr:=List Nat × Nat
noncomputable def firstsL (w:Nat):List Pr->List Pr->List Pr
 | acc,[]=>acc
 | acc,p::r=>if p.1=dashes w then (if p.1 ∈ acc.map Prod.fst then acc else acc++[p]) else firstsL w (if p.1 ∈ acc.map Prod.fst then acc else acc++[p]) r
noncomputable def sideP (fs:List Pr) (c:Nat):List Pr:=(fs.filter fun p=>decide (p.1.headD 0=c) || decide (p.1.headD 0=45)).map fun p=>(p.1.tail,p.2)
noncomputable def sideF (fs:List Pr) (c n:Nat):List Pr:=firstsL n [] (sideP fs c)
noncomputable def numOf (fs:List Pr) (s:List Nat):Nat:=((fs.find? fun p=>decide (p.1=s)).map Prod.snd).getD 0
noncomputable def firstN (fs:List Pr) (y:List Nat):Option Nat:=(fs.find? fun p=>within y p.1).map Prod.snd
def GoodF (n:Nat) (fs:List Pr):Prop:=(∀ p ∈ fs,p.1.length=n)/\(fs.map Prod.fst).Nodup/\∃ pre k,fs=pre++[(dashes n,k)]
theorem ji (a b:List Pr) (y:List Nat):firstN (a++b) y=(firstN a y).or (firstN b y):=by
 unfold firstN;rw [List.find?_append];cases a.find? fun p=>within y p.1 <;> rfl
theorem kK {acc:List Pr} {p:Pr} {y:List Nat} (h:p.1 ∈ acc.map Prod.fst) (hw:within y p.1=true):∃ k,firstN acc y=some k:=by
 obtain ⟨q,hq,e⟩:=List.mem_map.mp h;cases hf:acc.find? fun p=>within y p.1 with
 | some z=>exact ⟨z.2,by unfold firstN; rw [hf]; rfl⟩
 | none=>
  have:=List.find?_eq_none.mp hf q hq;rw [e,hw] at this;exact absurd rfl this
theorem gj (w:Nat) (y:List Nat):∀ (pairs acc:List Pr),firstN (firstsL w acc pairs) y=firstN (acc++pairs) y
 | [],acc=>by rw [firstsL,List.append_nil]
 | p::r,acc=>by
  have step:firstN ((if p.1 ∈ acc.map Prod.fst then acc else acc++[p])++r) y=firstN (acc++p::r) y:=by
   split
   ·rename_i hm;rw [ji,ji];cases hw:within y p.1 with
    | true=>
     obtain ⟨k,hk⟩:=kK hm hw;rw [hk];rfl
    | false=>
     congr 1;unfold firstN;rw [List.find?_cons,hw]
   ·rw [List.append_assoc];rfl
  rw [firstsL];split
  ·rename_i hd;rw [<- step,ji];have hw:within y p.1=true:=by rw [hd]; exact bu w y
   have:∃ k,firstN (if p.1 ∈ acc.map Prod.fst then acc else acc++[p]) y=some k:=by
    split
    ·rename_i hm;exact kK hm hw
    ·exact kK (p:=p) (by simp) hw
   obtain ⟨k,hk⟩:=this;rw [hk];rfl
  ·rw [gj w y r,step]
theorem eO (w:Nat):∀ (pairs acc:List Pr),(∀ p ∈ pairs,p.1.length=w)->(∀ p ∈ acc,p.1.length=w)->(acc.map Prod.fst).Nodup->dashes w ∉ acc.map Prod.fst->dashes w ∈ pairs.map Prod.fst->GoodF w (firstsL w acc pairs)
 | [],acc,_,_,_,_,h=>by cases h
 | p::r,acc,hp,ha,nd,hn,hm=>by
  rw [firstsL];split
  ·rename_i hd;have hno:p.1 ∉ acc.map Prod.fst:=by rw [hd]; exact hn
   rw [if_neg hno];refine ⟨fun q hq=>?_,?_,acc,p.2,by rw [<- hd]⟩
   ·rcases List.mem_append.mp hq with hq | hq
    ·exact ha q hq
    ·rw [List.mem_singleton.mp hq];exact hp p List.mem_cons_self
   ·rw [List.map_append,List.nodup_append];exact ⟨nd,by simp,fun a h1 b h2 e=>hno (by rw [List.map_cons,List.map_nil,List.mem_singleton] at h2; rw [<- h2,<- e]; exact h1)⟩
  ·rename_i hd;have hm':dashes w ∈ r.map Prod.fst:=by
    rw [List.map_cons] at hm;rcases List.mem_cons.mp hm with e | h
    ·exact absurd e.symm hd
    ·exact h
   have hr:∀ q ∈ r,q.1.length=w:=fun q hq=>hp q (List.mem_cons_of_mem _ hq)
   split
   ·exact eO w r acc hr ha nd hn hm'
   ·rename_i hno;refine eO w r _ hr (fun q hq=>?_) ?_ ?_ hm'
    ·rcases List.mem_append.mp hq with hq | hq
     ·exact ha q hq
     ·rw [List.mem_singleton.mp hq];exact hp p List.mem_cons_self
    ·rw [List.map_append,List.nodup_append];exact ⟨nd,by simp,fun a h1 b h2 e=>hno (by rw [List.map_cons,List.map_nil,List.mem_singleton] at h2; rw [<- h2,<- e]; exact h1)⟩
    ·rw [List.map_append,List.mem_append];rintro (h | h)
     ·exact hn h
     ·rw [List.map_cons,List.map_nil,List.mem_singleton] at h;exact hd h.symm
theorem rO {fs:List Pr} {n:Nat} (w:∀ p ∈ fs,p.1.length=n+1) (c:Nat) (y:List Nat):firstN fs (c::y)=firstN (sideP fs c) y:=by
 unfold firstN sideP
 induction fs with
 | nil=>rfl
 | cons p fs ih=>
  obtain ⟨s,k⟩:=p;cases s with
  | nil=>have:=w _ List.mem_cons_self; simp at this
  | cons d s=>
   have ih:=ih fun q hq=>w q (List.mem_cons_of_mem _ hq)
   rw [List.find?_cons,List.filter_cons];show (match within (c::y) (d::s) with | true=>some ((d::s,k):Pr) | false=>_).map Prod.snd=_;rw [dj];by_cases h:d=c\/d=45
   ·have e1:(d == 45 || d == c)=true:=by rcases h with h | h <;> simp [h]
    have e2:(decide ((d::s).headD 0=c) || decide ((d::s).headD 0=45))=true:=by
     show (decide (d=c) || decide (d=45))=true;rcases h with h | h <;> simp [h]
    rw [e1,Bool.true_and];dsimp only;rw [if_pos e2,List.map_cons,List.find?_cons];show _=Option.map Prod.snd (match within y s with | true=>some ((s,k):Pr) | false=>_);cases within y s with
    | true=>rfl
    | false=>exact ih
   ·have e1:(d == 45 || d == c)=false:=by
     rw [Bool.or_eq_false_iff,beq_eq_false_iff_ne,beq_eq_false_iff_ne];exact ⟨fun z=>h (.inr z),fun z=>h (.inl z)⟩
    have e2:¬ (decide ((d::s).headD 0=c) || decide ((d::s).headD 0=45))=true:=by
     show ¬ (decide (d=c) || decide (d=45))=true;rw [Bool.or_eq_true,decide_eq_true_eq,decide_eq_true_eq];exact h
    rw [e1,Bool.false_and];dsimp only;rw [if_neg e2];exact ih
theorem iE {fs:List Pr} {n:Nat} (h:GoodF (n+1) fs) (c:Nat):GoodF n (sideF fs c n):=by
 obtain ⟨w,_,pre,k,e⟩:=h;unfold sideF;refine eO n _ [] (fun p hp=>?_) (fun p hp=>by cases hp) (by simp) (by simp) ?_
 ·obtain ⟨q,hq,rfl⟩:=List.mem_map.mp hp;have:=w q (List.mem_filter.mp hq).1;simp only [List.length_tail];omega
 ·refine List.mem_map.mpr ⟨(dashes n,k),List.mem_map.mpr ⟨(dashes (n+1),k),List.mem_filter.mpr ⟨?_,?_⟩,rfl⟩,rfl⟩
  ·rw [e];simp
  ·show (decide ((45:Nat)=c) || decide ((45:Nat)=45))=true;simp
theorem qx {fs:List Pr} {n:Nat} (h:GoodF n fs) (hl:fs.length=1):∃ k,fs=[(dashes n,k)]:=by
 obtain ⟨_,_,pre,k,e⟩:=h;rw [e,List.length_append,List.length_singleton] at hl;have:pre=[]:=List.length_eq_zero_iff.mp (by omega);exact ⟨k,by rw [e,this]; rfl⟩
theorem og {fs:List Pr} (h:GoodF 0 fs):∃ k,fs=[([],k)]:=by
 obtain ⟨w,nd,pre,k,e⟩:=id h;refine ⟨k,?_⟩;cases pre with
 | nil=>exact e
 | cons p pre=>
  exfalso;rw [e,List.cons_append,List.map_cons,List.nodup_cons] at nd;have h1:=List.length_eq_zero_iff.mp (w p (by rw [e]; exact List.mem_cons_self));exact nd.1 (by rw [h1]; simp [dashes])
def AscF (fs:List Pr):Prop:=fs.Pairwise fun p q=>p.2 < q.2
theorem jk (w:Nat):∀ (pairs acc:List Pr),AscF acc->AscF pairs->(∀ a ∈ acc,∀ p ∈ pairs,a.2 < p.2)->AscF (firstsL w acc pairs)
 | [],acc,h,_,_=>h
 | p::r,acc,h,h2,h3=>by
  have hp:=List.pairwise_cons.mp h2;have step:AscF (if p.1 ∈ acc.map Prod.fst then acc else acc++[p])/\∀ a ∈ (if p.1 ∈ acc.map Prod.fst then acc else acc++[p]),∀ q ∈ r,a.2 < q.2:=by
   split
   ·exact ⟨h,fun a ha q hq=>h3 a ha q (List.mem_cons_of_mem _ hq)⟩
   ·refine ⟨List.pairwise_append.mpr ⟨h,List.pairwise_singleton _ _,fun a ha b hb=>?_⟩,fun a ha q hq=>?_⟩
    ·rw [List.mem_singleton.mp hb];exact h3 a ha p List.mem_cons_self
    ·rcases List.mem_append.mp ha with ha | ha
     ·exact h3 a ha q (List.mem_cons_of_mem _ hq)
     ·rw [List.mem_singleton.mp ha];exact hp.1 q hq
  rw [firstsL];split
  ·exact step.1
  ·exact jk w r _ step.1 hp.2 step.2
theorem jP {fs:List Pr} (h:AscF fs) (c n:Nat):AscF (sideF fs c n):=by
 refine jk n _ [] List.Pairwise.nil ?_ (fun a ha=>by cases ha);unfold sideP AscF;rw [List.pairwise_map];exact List.Pairwise.filter _ h
theorem pU:∀ (b a:List Pr),AscF a->AscF b->(∀ x ∈ a,x ∈ b)->List.Sublist a b
 | [],a,_,_,h=>by
  cases a with
  | nil=>exact List.Sublist.refl _
  | cons x a=>exact absurd (h x List.mem_cons_self) List.not_mem_nil
 | y::b,[],_,_,_=>List.nil_sublist _
 | y::b,x::a,ha,hb,h=>by
  have ha':=List.pairwise_cons.mp ha;have hb':=List.pairwise_cons.mp hb;by_cases e:x=y
  ·subst e;refine List.Sublist.cons₂ _ (pU b a ha'.2 hb'.2 fun z hz=>?_);rcases List.mem_cons.mp (h z (List.mem_cons_of_mem _ hz)) with e | e
   ·have:=ha'.1 z hz;rw [e] at this;exact absurd this (Nat.lt_irrefl _)
   ·exact e
  ·refine List.Sublist.cons _ (pU b (x::a) ha hb'.2 fun z hz=>?_);rcases List.mem_cons.mp (h z hz) with q | q
   ·exfalso;have hx:x ∈ b:=(List.mem_cons.mp (h x List.mem_cons_self)).resolve_left e;have h1:=hb'.1 x hx;rcases List.mem_cons.mp hz with z1 | z1
    ·exact e (z1.symm.trans q)
    ·have h2:=ha'.1 z z1;rw [q] at h2;omega
   ·exact q
theorem rn {a b:List Pr} (ha:AscF a) (hb:AscF b) (hl:a.length=b.length) (h:∀ x ∈ a,x ∈ b):a=b:=(pU b a ha hb h).eq_of_length hl
inductive Fork where
 | leaf (n:Nat)
 | ask (p:Nat) (no yes:Fork)
noncomputable def eqK:Fork->Fork->Bool
 | .leaf n,.leaf m=>n == m
 | .ask p a b,.ask q c d=>p == q && (eqK a c && eqK b d)
 | .leaf _,.ask _ _ _=>false
 | .ask _ _ _,.leaf _=>false
theorem l6:∀ a,eqK a a=true
 | .leaf n=>by simp [eqK]
 | .ask p a b=>by simp [eqK,l6 a,l6 b]
theorem sU:∀ {a b},eqK a b=true->a=b
 | .leaf n,.leaf m,h=>by
  have:n=m:=by simpa [eqK] using h
  rw [this]
 | .ask p a b,.ask q c d,h=>by
  simp only [eqK,Bool.and_eq_true,beq_iff_eq] at h;rw [h.1,sU h.2.1,sU h.2.2]
 | .leaf _,.ask _ _ _,h=>by simp [eqK] at h
 | .ask _ _ _,.leaf _,h=>by simp [eqK] at h
noncomputable def joinK (p:Nat) (a b:Fork):Fork:=if eqK a b=true then a else .ask p a b
noncomputable def forkL:List Nat->List Pr->Fork
 | [],fs=>.leaf (numOf fs [])
 | p::ps,fs=>if fs.length=1 then .leaf (numOf fs (dashes (ps.length+1))) else joinK p (forkL ps (sideF fs 48 ps.length)) (forkL ps (sideF fs 49 ps.length))
noncomputable def evalF:Fork->List Nat->Nat
 | .leaf n,_=>n
 | .ask p a b,y=>if y.getD p 0=48 then evalF a y else evalF b y
theorem vA (p:Nat) (a b:Fork) (y:List Nat):evalF (joinK p a b) y=if y.getD p 0=48 then evalF a y else evalF b y:=by
 unfold joinK;split
 ·rename_i h;rw [<- sU h];split <;> rfl
 ·rfl
theorem jj:∀ (ps:List Nat) (fs:List Pr) (y:List Nat),GoodF ps.length fs->(∀ p ∈ ps,y.getD p 0=48\/y.getD p 0=49)->firstN fs (narrow y ps)=some (evalF (forkL ps fs) y)
 | [],fs,y,h,_=>by
  obtain ⟨k,rfl⟩:=og h;rfl
 | p::ps,fs,y,h,hy=>by
  have h:GoodF (ps.length+1) fs:=h;rw [forkL];split
  ·rename_i h1;obtain ⟨k,rfl⟩:=qx h h1;unfold firstN numOf evalF;rw [List.find?_cons,bu];simp
  ·rw [vA];have go:∀ d,firstN fs (d::narrow y ps)=firstN (sideF fs d ps.length) (narrow y ps):=fun d=>by
    unfold sideF;rw [gj,List.nil_append,rO h.1]
   have hy':∀ p ∈ ps,y.getD p 0=48\/y.getD p 0=49:=fun q hq=>hy q (List.mem_cons_of_mem _ hq)
   show firstN fs (y.getD p 0::narrow y ps)=_;rcases hy p List.mem_cons_self with e | e
   ·rw [e,go,if_pos rfl];exact jj ps _ y (iE h 48) hy'
   ·rw [e,go,if_neg (by decide)];exact jj ps _ y (iE h 49) hy'
noncomputable def Asks (W:Nat):Fork->Prop
 | .leaf _=>True
 | .ask p a b=>p < W/\Asks W a/\Asks W b
noncomputable def high:Fork->Nat
 | .leaf _=>0
 | .ask _ a b=>max (high a) (high b)+1
theorem iK {W:Nat}:∀ (ps:List Nat) (fs:List Pr),(∀ p ∈ ps,p < W)->Asks W (forkL ps fs)
 | [],fs,_=>True.intro
 | p::ps,fs,h=>by
  have h':∀ p ∈ ps,p < W:=fun q hq=>h q (List.mem_cons_of_mem _ hq)
  rw [forkL];split
  ·exact True.intro
  ·unfold joinK;split
   ·exact iK ps _ h'
   ·exact ⟨h p List.mem_cons_self,iK ps _ h',iK ps _ h'⟩
theorem fK:∀ (ps:List Nat) (fs:List Pr),high (forkL ps fs)<=ps.length
 | [],fs=>Nat.le_refl _
 | p::ps,fs=>by
  have a:=fK ps (sideF fs 48 ps.length);have b:=fK ps (sideF fs 49 ps.length);rw [forkL,List.length_cons];split
  ·exact Nat.zero_le _
  ·unfold joinK;split
   ·omega
   ·show max _ _+1<=_;omega
noncomputable def signF (p:Nat) (row over:List Nat):Nat:=if over.getD p 0=45 then row.getD p 0 else over.getD p 0
noncomputable def cutF:Fork->List Nat->List Nat->List Pr
 | .leaf n,row,_=>[(row,n)]
 | .ask p a b,row,over=>if signF p row over=45 then cutF a (row.set p 48) over++cutF b (row.set p 49) over else if signF p row over=48 then cutF a row over else cutF b row over
theorem c9:∀ (F:Fork) (row over:List Nat),(cutF F row over).length<=2 ^ high F
 | .leaf n,row,over=>Nat.le_refl _
 | .ask p a b,row,over=>by
  have h1:2 ^ high a<=2 ^ max (high a) (high b):=Nat.pow_le_pow_right (by decide) (by omega);have h2:2 ^ high b<=2 ^ max (high a) (high b):=Nat.pow_le_pow_right (by decide) (by omega);have e:2 ^ high (.ask p a b)=2 ^ max (high a) (high b)*2:=Nat.pow_succ ..;rw [cutF,e];split
  ·have i:=c9 a (row.set p 48) over;have j:=c9 b (row.set p 49) over;rw [List.length_append];omega
  ·split
   ·have i:=c9 a row over;omega
   ·have i:=c9 b row over;omega
theorem lI {W p:Nat} (h:p < W):(dashes W).getD p 0=45:=by
 unfold dashes;rw [List.getD_eq_getElem?_getD,List.getElem?_replicate,if_pos h];rfl
theorem jF (l:List Nat) (p i c:Nat) (h:p < l.length):(l.set p c).getD i 0=if i=p then c else l.getD i 0:=by
 rw [List.getD_eq_getElem?_getD,List.getElem?_set];by_cases e:p=i
 ·subst e;rw [if_pos rfl,if_pos rfl,if_pos h];rfl
 ·rw [if_neg e,if_neg fun z=>e z.symm,List.getD_eq_getElem?_getD]
theorem iD {l:List Nat} {p c:Nat} (h:IsRow l) (hc:c=48\/c=49\/c=45):IsRow (l.set p c):=fun x hx=>by
 rcases List.mem_or_eq_of_mem_set hx with z | z
 ·exact h x z
 ·rw [z]; exact hc
theorem bw {W:Nat} {x r:List Nat} (hx:x.length=W) (hr:r.length=W):within x r=true ↔ ∀ i,i < W->r.getD i 0=45\/r.getD i 0=x.getD i 0:=by
 rw [mh W x r hx hr,List.all_eq_true];constructor
 ·intro h i hi;have:=h i (List.mem_range.mpr hi);simpa [fitAt] using this
 ·intro h i hi;have:=h i (List.mem_range.mp hi);simpa [fitAt] using this
noncomputable def metL (heap:List (List Nat)) (row:List Nat):List Pr:=((heap++[dashes row.length]).zipIdx).filter fun q=>okL q.1 row
noncomputable def asked (heap:List (List Nat)) (row:List Nat):List Nat:=(placesL ((metL heap row).map Prod.fst) row.length).filter fun p=>decide (row.getD p 0=45)
noncomputable def pairsL (heap:List (List Nat)) (row:List Nat):List Pr:=(metL heap row).map fun q=>(narrow q.1 (asked heap row),q.2)
noncomputable def forkOf (heap:List (List Nat)) (row:List Nat):Fork:=forkL (asked heap row) (firstsL (asked heap row).length [] (pairsL heap row))
theorem yw (l:List (List Nat)):∀ k,(l.zipIdx k).Pairwise fun (p q:Pr)=>p.2 < q.2:=by
 induction l with
 | nil=>intro k; exact List.Pairwise.nil
 | cons x l ih=>
  intro k;rw [List.zipIdx_cons];refine List.pairwise_cons.mpr ⟨fun q hq=>?_,ih (k+1)⟩;have:=List.le_snd_of_mem_zipIdx hq;show k < q.2;omega
theorem vk (heap:List (List Nat)) (row:List Nat):AscF (pairsL heap row):=by
 unfold pairsL AscF;rw [List.pairwise_map];exact List.Pairwise.filter _ (yw _ 0)
theorem eF {heap:List (List Nat)} {row:List Nat} {p:Nat} (h:p ∈ asked heap row):p < row.length/\row.getD p 0=45:=by
 obtain ⟨h1,h2⟩:=List.mem_filter.mp h;exact ⟨ox h1,of_decide_eq_true h2⟩
theorem mN:∀ (n:Nat) (x:List Nat),okL (dashes n) x=true
 | 0,x=>by simp [okL,dashes]
 | n+1,[]=>by simp [okL]
 | n+1,c::x=>by
  have:=mN n x;unfold dashes at this ⊢;rw [List.replicate_succ,rq,this];rfl
theorem qw (heap:List (List Nat)) (row:List Nat):(dashes row.length,heap.length) ∈ metL heap row:=by
 refine List.mem_filter.mpr ⟨?_,mN _ _⟩;rw [List.zipIdx_append];exact List.mem_append_right _ (by simp)
theorem nQ {W:Nat} {ps:List Nat} (h:∀ p ∈ ps,p < W):narrow (dashes W) ps=dashes ps.length:=by
 unfold narrow;rw [show dashes ps.length=ps.map fun _=>45 by simp [dashes,List.map_const']];exact List.map_congr_left fun p hp=>lI (h p hp)
theorem ou (heap:List (List Nat)) (row:List Nat):GoodF (asked heap row).length (firstsL (asked heap row).length [] (pairsL heap row)):=by
 refine eO _ _ [] (fun p hp=>?_) (fun p hp=>by cases hp) (by simp) (by simp) ?_
 ·obtain ⟨q,_,rfl⟩:=List.mem_map.mp hp;simp [narrow]
 ·refine List.mem_map.mpr ⟨(dashes (asked heap row).length,heap.length),List.mem_map.mpr ⟨_,qw heap row,?_⟩,rfl⟩;rw [nQ fun p hp=>(eF hp).1]
theorem oh {α:Type} (P:α -> Bool) (d:α) (hd:P d=true):∀ (hs:List α) (k:Nat),(((hs++[d]).zipIdx k).find? fun q=>P q.1).map Prod.snd=some (k+hs.findIdx P)
 | [],k=>by
  rw [List.nil_append,List.zipIdx_cons,List.find?_cons,hd];rfl
 | x::hs,k=>by
  rw [List.cons_append,List.zipIdx_cons,List.find?_cons,List.findIdx_cons];cases h:P x with
  | true=>simp
  | false=>
   have:=oh P d hd hs (k+1);simp only [this,cond_false];congr 1;omega
theorem rk {heap:List (List Nat)} {row:List Nat} (hh:∀ r ∈ heap,r.length=row.length) {q:Pr} (h:q ∈ metL heap row):q.1.length=row.length/\okL q.1 row=true:=by
 obtain ⟨h1,h2⟩:=List.mem_filter.mp h;refine ⟨?_,h2⟩;have:=List.fst_mem_of_mem_zipIdx h1;rcases List.mem_append.mp this with z | z
 ·exact hh _ z
 ·rw [List.mem_singleton.mp z];simp [dashes]
theorem oi {α:Type} {f g:α -> Bool}:∀ l:List α,(∀ q ∈ l,f q=g q)->l.find? f=l.find? g
 | [],_=>rfl
 | q::l,h=>by
  rw [List.find?_cons,List.find?_cons,h q List.mem_cons_self,oi l fun z hz=>h z (List.mem_cons_of_mem _ hz)]
theorem jc {heap:List (List Nat)} {row y:List Nat} (hh:∀ r ∈ heap,r.length=row.length) (hy:y.length=row.length) (hl:IsLet y) (hw:within y row=true):evalF (forkOf heap row) y=heap.findIdx fun r=>within y r:=by
 have hy':∀ p ∈ asked heap row,y.getD p 0=48\/y.getD p 0=49:=fun p hp=>by
  have:=(eF hp).1;rw [List.getD_eq_getElem?_getD,List.getElem?_eq_getElem (by omega),Option.getD_some];exact hl _ (List.getElem_mem _)
 have t:=jj (asked heap row) _ y (ou heap row) hy';rw [gj,List.nil_append] at t;have same:∀ q ∈ metL heap row,within (narrow y (asked heap row)) (narrow q.1 (asked heap row))=within y q.1:=fun q hq=>by
  obtain ⟨l1,l2⟩:=rk hh hq;rw [nY,Bool.eq_iff_iff,List.all_eq_true,bw hy l1];rw [pY row.length _ _ l1 rfl,List.all_eq_true] at l2;constructor
  ·intro h i hi;by_cases e:q.1.getD i 0=45
   ·exact .inl e
   ·refine .inr ?_;by_cases e2:row.getD i 0=45
    ·have hm:i ∈ asked heap row:=by
      refine List.mem_filter.mpr ⟨List.mem_filter.mpr ⟨List.mem_range.mpr hi,?_⟩,decide_eq_true e2⟩;unfold told;rw [List.any_eq_true];exact ⟨q.1,List.mem_map.mpr ⟨q,hq,rfl⟩,by simpa using e⟩
     have:=h i hm;simp only [fitAt,Bool.or_eq_true,beq_iff_eq] at this;exact this.resolve_left e
    ·have h1:=l2 i (List.mem_range.mpr hi);have h2:=(bw hy rfl).mp hw i hi;simp only [okS,Bool.or_eq_true,beq_iff_eq] at h1;rcases h1 with (z | z) | z
     ·exact absurd z e
     ·exact absurd z e2
     ·exact z.trans (h2.resolve_left e2)
  ·intro h i hi;have:=h i (eF hi).1;simpa [fitAt] using this
 have find:∀ l:List Pr,(∀ q ∈ l,within (narrow y (asked heap row)) (narrow q.1 (asked heap row))=within y q.1)->firstN (l.map fun q=>(narrow q.1 (asked heap row),q.2)) (narrow y (asked heap row))=(l.find? fun q=>within y q.1).map Prod.snd:=by
  intro l
  induction l with
  | nil=>intro _; rfl
  | cons q l ih=>
   intro h;have ih:=ih fun z hz=>h z (List.mem_cons_of_mem _ hz)
   unfold firstN at ih ⊢;rw [List.map_cons,List.find?_cons,List.find?_cons];dsimp only;rw [h q List.mem_cons_self];cases within y q.1 with
   | true=>rfl
   | false=>exact ih
 have hm:((metL heap row).find? fun q=>within y q.1)=((heap++[dashes row.length]).zipIdx).find? fun q=>within y q.1:=by
  unfold metL;rw [List.find?_filter];refine oi _ fun q hq=>?_
  cases hq1:within y q.1 with
  | false=>simp
  | true=>
   rw [decide_eq_true_iff];refine ⟨?_,rfl⟩;have l1:q.1.length=row.length:=by
    rcases List.mem_append.mp (List.fst_mem_of_mem_zipIdx hq) with z | z
    ·exact hh _ z
    ·rw [List.mem_singleton.mp z];simp [dashes]
   rw [pY row.length _ _ l1 rfl,List.all_eq_true];intro i hi;have hi:=List.mem_range.mp hi;have h1:=(bw hy l1).mp hq1 i hi;have h2:=(bw hy rfl).mp hw i hi;simp only [okS,Bool.or_eq_true,beq_iff_eq];rcases h1 with z | z
   ·exact .inl (.inl z)
   ·rcases h2 with z2 | z2
    ·exact .inl (.inr z2)
    ·exact .inr (z.trans z2.symm)
 rw [show firstN (pairsL heap row) _=_ from find _ same,hm,oh (fun r=>within y r) _ (bu _ _) heap 0,Nat.zero_add] at t;exact (Option.some.inj t).symm
noncomputable def pk (p:Pr):Key × V:=(Sum.inr (st p.1),V.int p.2)
def PairAt (H:Hp) (x:Pr) (v:V):Prop:=∃ t,v=.ref t/\H t=some (.tup [tx x.1,.int x.2])
def Pairs (H:Hp) (p:Addr) (xs:List Pr):Prop:=∃ vs,H p=some (.lst vs)/\Paired (PairAt H) xs vs
theorem Pairs.same {H H':Hp} {p:Addr} {xs:List Pr} (h:Pairs H p xs) (s:Same H H'):Pairs H' p xs:=by
 obtain ⟨vs,e,pr⟩:=h;exact ⟨vs,s _ _ e,L2.Paired.mapP pr fun _ _ ⟨t,e,q⟩=>⟨t,e,s _ _ q⟩⟩
theorem lQ (s:List Nat):∀ fs:List Pr,valV (fs.map pk) (Sum.inr (st s))=(fs.find? fun p=>decide (p.1=s)).map fun p=>V.int p.2
 | []=>rfl
 | p::fs=>by
  rw [List.map_cons,List.find?_cons];by_cases h:p.1=s
  ·rw [jN (by rw [<- h]; rfl),decide_eq_true h];rfl
  ·rw [jI (fun z=>h (by have z:(Sum.inr (st p.1):Key)=Sum.inr (st s):=z; injection z with z; exact AE.mp z)),decide_eq_false h];exact lQ s fs
theorem xp {fs:List Pr} {s:List Nat}:valV (fs.map pk) (Sum.inr (st s))=none ↔ s ∉ fs.map Prod.fst:=by
 rw [lQ,Option.map_eq_none_iff,List.find?_eq_none];constructor
 ·intro h m;obtain ⟨p,hp,e⟩:=List.mem_map.mp m;exact h p hp (decide_eq_true e)
 ·intro h p hp e;exact h (List.mem_map.mpr ⟨p,hp,of_decide_eq_true e⟩)
theorem AD {fs:List Pr} {s:List Nat} {n:Nat} (h:s ∉ fs.map Prod.fst):putK (fs.map pk) (Sum.inr (st s)) (V.int n)=(fs++[(s,n)]).map pk:=by
 rw [wc _ (xp.mpr h),List.map_append];rfl
noncomputable def gx (K:Frag):Sp:=aA fun p=>bB fun w=>aD fun H Q _=>∃ (xs:List Pr) (n:Nat),w=(n:Int)/\n<=1000/\Pairs H p xs/\xs.length<=1000/\∀ q ob H',H q=none->Same H H'->H' q=some (.frz ob (.dK ((firstsL n [] xs).map pk)))->Q (.ref q) H'
theorem jC (T:Top K mg):Callee P w K mg base 1 "firsts_of" ["pairs", "width"] (gx K):=by
 refine T.lh.cal dJ (by unfold gx; exact LenSp.h) (fun _ _ _ _ _ _ us hl=>match us,hl with | [_,_],_=>rfl) (fun f cdv A outer s H vs Q E hr h=>?_);unfold gx at h;walk_at "el";refine ⟨_,(ac (ai (i:=2) dJ.nd rfl lc wn)
   (ac (bf PassesOwn.never rfl (iterE K rfl (qv 0)) (tupE K rfl rfl (n:=2) (ap (ag (i:=3) dJ.nd rfl lc) (ap (ag (i:=4) dJ.nd rfl lc) aP))) (ac (bQ (uN (qv 2) (qv 3) (qv 4) ⟨rfl,rfl,rfl,rfl⟩))
   (af (aJ (aw ba (qv 3) (am bp (qs [45]) (qv 1))) (af wq) av))))
   (af (xJ (qv 2))))),?_⟩
 rename_i p w;obtain ⟨xs,n,rfl,hn,⟨vs,e0,pr⟩,hx,q⟩:=h;have hl:=pr.length;walk_at "rd";intro g hg;refine .inl ⟨⟨_,SqL.of (ae hg _ _ _ e0)⟩,?_⟩;have fin:∀ H1,Same H H1->H1 g=some (.dK ((firstsL n [] xs).map pk))->∃ kvs,H1 g=some (.dK kvs)/\∀ ob,Q (.ref g) (upd H1 g (.frz ob (.dK kvs))):=fun H1 s1 e1=>
  ⟨_,e1,fun ob=>q g ob _ hg (aH s1 hg) upd_same⟩
 refine bN (xs:=vs) (fun i σ H'=>∃ (u v:Option V) (acc:List Pr),σ = [some (.ref p),some (.int n),some (.ref g),u,v]/\Same H H'/\H' g=some (.dK (acc.map pk))/\acc.length<=i/\firstsL n [] xs=firstsL n acc (xs.drop i)) ⟨none,none,[],rfl,ae hg _,upd_same,Nat.le_refl _,by rw [List.drop_zero]⟩ (fun i σ H' _ ⟨_,_,_,_,z,_⟩=>SqL.of (z _ _ e0)) ?_ ?_
 ·rintro i x σ H1 hxi ⟨u,v,acc,rfl,s1,e1,la,ef⟩;have hi:i < vs.length:=(List.getElem?_eq_some_iff.mp hxi).1;have hiw:i < xs.length:=by omega
  obtain ⟨y,hy,t',ey,et⟩:=aN pr (List.getElem?_eq_getElem hiw);obtain rfl:x=.ref t':=by rw [hy] at hxi; rw [<- Option.some.inj hxi,ey]
  rw [List.drop_eq_getElem_cons hiw] at ef;generalize xs[i]=pr0 at et ef;obtain ⟨s,k⟩:=pr0;refine ⟨t',[_,_],rfl,SqT.of (s1 _ _ et),rfl,_,[_],rfl,_,[],rfl,rfl,?_⟩;walk_at "rd";have small:(acc.map pk).length < sizeLine:=by rw [List.length_map,sizeLine_eq]; omega
  refine ⟨.inl ⟨_,.inl e1⟩,_,Sum.inr (st s),e1,rfl,small,fun v0 hv=>?_,fun hnone=>?_⟩
  ·have hm:s ∈ acc.map Prod.fst:=Classical.byContradiction fun z=>by rw [xp.mpr z] at hv; cases hv
   rw [firstsL,if_pos hm] at ef;dsimp only at ef;walk_at "rd";refine ⟨by omega,by omega,ite2 (fun c=>?_) fun c=>?_⟩
   ·rw [Int.toNat_natCast] at c;rw [if_pos (show s=dashes n from c)] at ef;exact fin _ s1 (by rw [e1,ef])
   ·rw [Int.toNat_natCast] at c;rw [if_neg (show ¬ s=dashes n from c)] at ef;exact ⟨_,_,acc,rfl,s1,e1,by omega,ef⟩
  ·have hm:s ∉ acc.map Prod.fst:=xp.mp hnone;rw [firstsL,if_neg hm] at ef;dsimp only at ef;rw [AD hm];walk_at "rd";refine ⟨by omega,by omega,ite2 (fun c=>?_) fun c=>?_⟩
   ·rw [Int.toNat_natCast] at c;rw [if_pos (show s=dashes n from c)] at ef;exact fin _ (aH s1 hg) (by rw [upd_same,ef])
   ·rw [Int.toNat_natCast] at c;rw [if_neg (show ¬ s=dashes n from c)] at ef;exact ⟨_,_,acc++[(s,k)],rfl,aH s1 hg,upd_same,by rw [List.length_append,List.length_singleton]; omega,ef⟩
 ·rintro σ H1 ⟨u,v,acc,rfl,s1,e1,la,ef⟩;walk_at "rd";rw [<- hl,List.drop_length] at ef;exact fin _ s1 (by rw [e1,ef]; rfl)
theorem i8 (w:Nat):∀ (pairs acc:List Pr),(firstsL w acc pairs).length<=acc.length+pairs.length
 | [],acc=>Nat.le_refl _
 | p::r,acc=>by
  have a:(if p.1 ∈ acc.map Prod.fst then acc else acc++[p]).length<=acc.length+1:=by
   split
   ·omega
   ·rw [List.length_append,List.length_singleton];omega
  have b:=i8 w r (if p.1 ∈ acc.map Prod.fst then acc else acc++[p]);rw [firstsL,List.length_cons];split
  ·omega
  ·omega
theorem mV (fs:List Pr) (c n:Nat):(sideF fs c n).length<=fs.length:=by
 have a:=i8 n (sideP fs c) [];have b:(sideP fs c).length<=fs.length:=by
  unfold sideP;rw [List.length_map];exact List.length_filter_le _ _
 rw [List.length_nil] at a;unfold sideF;omega
noncomputable def eJ (K:Frag):Sp:=aA fun d=>be fun s=>bB fun w=>aD fun H Q _=>∃ (ob:Obj) (fs:List Pr) (c n:Nat),s.cps.toList=[c]/\w=(n:Int)/\n<=1000/\H d=some (.frz ob (.dK (fs.map pk)))/\(∀ p ∈ fs,0 < p.1.length/\p.1.length<=1000)/\fs.length<=1000 /\
   ∀ q ob' H',H q=none->Same H H'->H' q=some (.frz ob' (.dK ((sideF fs c n).map pk)))->Q (.ref q) H'
theorem hV (T:Top K mg):Callee P w K mg base 2 "firsts_side" ["firsts", "sign", "width"] (eJ K):=by
 refine T.iY.cal mH (by unfold eJ; exact LenSp.h) (fun _ _ _ _ _ _ us hl=>match us,hl with | [_,_,_],_=>rfl) (fun f cdv A outer s H vs Q E hr h=>?_);unfold eJ at h;walk_at "el";refine ⟨_,(af (aq (ak (jC T) hr.m rfl (aa (aX (nt:=2) (fi:=[1]) (N':=["signs", "number", "sign"]) rfl (cscope rfl (by decide +kernel)) (cnames (N:=["firsts", "sign", "width"]) (sc:=defScope de) rfl rfl (by decide +kernel)) (dL (by decide) (by decide)) (wE (qv 0)) (fun _ _ _ _ _=>(tupE K rfl rfl (n:=2) (ap (ag (i:=0) (by show (["signs", "number", "sign"]:List Str).Nodup; decide +kernel) rfl lc) (ap (ag (i:=1) (by show (["signs", "number", "sign"]:List Str).Nodup; decide +kernel) rfl lc) aP)))) (fun _ _ _ _ _=>(jS (aw (inE K rfl) (az (ixE K rfl) (qv 0) ad (fun _ _=>rfl)) (aS (aa (qv 2) (aa (qs [45]) ab)))))) (fun _ _ _ _ _=>(aS (aa (bA (slE K rfl) (qv 0) (bF ad) cm) (aa (qv 1) ab))))) (aa (qv 2) ab))))),?_⟩;rename_i d s w;obtain ⟨ob,fs,c,n,hc,rfl,hn,h1,h2,h3,q⟩:=h;obtain rfl:s=st [c]:=by rw [<- hc,aF]
 walk_at "rd";refine ⟨ob,_,h1,fun D hD=>?_⟩;refine qD pk fs (fun p=>decide (p.1.headD 0=c) || decide (p.1.headD 0=45)) (fun x v H'=>PairAt H' (x.1.tail,x.2) v) hD h1 (by omega) ?_ ?_ ?_
 ·rintro x v H1 H2 acc hd k ⟨t,e,r⟩;exact ⟨t,e,k _ _ (fun z=>by subst z; rw [hd] at r; cases r) r⟩
 ·rintro ⟨l,k⟩ Tt H1 out non hm s1 hT ho hno;obtain ⟨a,b⟩:=h2 _ hm;refine ⟨Tt,[tx l,.int k],rfl,SqT.of hT,rfl,tx l,[.int k],rfl,.int k,[],rfl,rfl,?_⟩;cases l with
  | nil=>exact absurd a (Nat.lt_irrefl 0)
  | cons x l=>
   have b:l.length+1<=1000:=b;walk_at "rd";refine ⟨by omega,x,ke (l:=x::l) (i:=0) (by simp),by decide,fun p hp=>⟨_,.inr (SqT.of upd_same),rfl,rfl,?_⟩⟩;have e:inV (V.str (st [x])) [V.str (st [c]),V.str (st [45])]=decide (x ∈ [c,45]):=wI x [c,45];rw [e];refine ite2 (fun e2=>?_) fun e2=>hno _ ?_ (ae hp _)
   ·refine ⟨by omega,by omega,by decide,fun t ht=>ho _ _ ?_ ((ae hp _).trans (ae ht _)) ⟨t,rfl,?_⟩⟩
    ·have:x=c\/x=45:=by simpa using e2
     simpa using this
    ·rw [upd_same];simp [tx]
   ·have:¬ (x=c\/x=45):=by simpa using e2
    simpa using this
 ·intro H1 ws s1 e1 pr;refine ⟨sideP fs c,n,rfl,hn,⟨ws,e1,?_⟩,?_,fun q1 ob' H' f1 s2 e2=>q q1 ob' H' (s1.free f1) (s1.trans s2) e2⟩
  ·exact ib pr
  ·unfold sideP;rw [List.length_map];exact Nat.le_trans (List.length_filter_le _ _) h3
noncomputable def FkV (H:Hp):Fork->V->Prop
 | .leaf n,v=>v=.int n
 | .ask p a b,v=>∃ t x y,v=.ref t/\H t=some (.tup [.int p,x,y])/\FkV H a x/\FkV H b y
theorem FkV.same {H H':Hp} (s:Same H H'):∀ {F:Fork} {v:V},FkV H F v->FkV H' F v
 | .leaf _,_,h=>h
 | .ask _ _ _,_,⟨t,x,y,e,q,h1,h2⟩=>⟨t,x,y,e,s _ _ q,h1.same s,h2.same s⟩
noncomputable def forkD:Fork->D
 | .leaf n=>.f (.int n)
 | .ask p a b=>.t [.f (.int p),forkD a,forkD b]
theorem iG {H:Hp}:∀ (F:Fork) (v:V) (n:Nat),FkV H F v->high F<=n->Deep K H n v (forkD F)
 | .leaf k,v,n,h,_=>by
  rw [show v=.int k from h];exact oz n rfl
 | .ask p a b,v,n,⟨t,x,y,e,q,h1,h2⟩,hn=>by
  have hn:max (high a) (high b)+1<=n:=hn;obtain ⟨m,rfl⟩:∃ m,n=m+1:=⟨n - 1,by omega⟩;exact .inr (.inr ⟨t,_,_,e,rfl,SqT.of q,.cons (oz m rfl) (.cons (iG a x m h1 (by omega)) (.cons (iG b y m h2 (by omega)) .nil))⟩)
theorem intK (n m:Nat):eqV (.int n) (.int m)=(n == m):=by
 show ((n:Int) == (m:Int))=_;rw [Bool.eq_iff_iff,beq_iff_eq,beq_iff_eq];omega
theorem nk:∀ a b:Fork,eqD (forkD a) (forkD b)=eqK a b
 | .leaf n,.leaf m=>by
  rw [forkD,forkD,eqD,eqK];exact intK n m
 | .ask p a b,.ask q c d=>by
  rw [forkD,forkD,eqD,eqDs,eqDs,eqDs,eqDs,eqD,eqK,nk a c,nk b d,Bool.and_true];rw [intK]
 | .leaf _,.ask _ _ _=>by rw [forkD,forkD,eqD,eqK]
 | .ask _ _ _,.leaf _=>by rw [forkD,forkD,eqD,eqK]
theorem uk {H:Hp} {Q:VK} {F G:Fork} {x y:V} (hF:FkV H F x) (hG:FkV H G y) (h1:high F<=50) (h2:high G<=50) (q:Q (.bl (eqK F G)) H):kEqF K x y H Q:=by
 cases F with
 | leaf n=>
  obtain rfl:x=.int n:=hF;cases G with
  | leaf m=>
   obtain rfl:y=.int m:=hG;show Q (.bl (decide ((n:Int)=(m:Int)))) H;rw [show decide ((n:Int)=(m:Int))=eqK (.leaf n) (.leaf m) by rw [eqK,Bool.eq_iff_iff,decide_eq_true_iff,beq_iff_eq]; omega];exact q
  | ask p a b=>
   obtain ⟨t,x,y,rfl,e,_⟩:=hG;exact ⟨⟨_,SqT.of e⟩,q⟩
 | ask p a b=>
  obtain ⟨t,x1,y1,rfl,e,z1,z2⟩:=hF;cases G with
  | leaf m=>
   obtain rfl:y=.int m:=hG;exact ⟨⟨_,SqT.of e⟩,q⟩
  | ask p' a' b'=>
   have dG:=iG (K:=K) _ _ 50 hG h2;obtain ⟨t',x',y',rfl,e',z1',z2'⟩:=hG;refine ⟨50,_,_,by decide,iG (.ask p a b) _ 50 ⟨t,x1,y1,rfl,e,z1,z2⟩ h1,dG,?_⟩;rw [nk,Bool.false_xor];exact q
theorem qo (x:V) (xs:List V):cutV (x::xs) (some 1) none=xs:=by
 unfold cutV;have e1:HT.sIx (x::xs).length 0 (some 1)=1:=by
  simp [HT.sIx]
  try omega
 have e2:HT.sIx (x::xs).length (x::xs).length none=xs.length+1:=by simp [HT.sIx]
 rw [e1,e2];simp
theorem vS {a b:List Pr} (ha:AscF a) (hb:AscF b) (h:dEq (a.map pk) (b.map pk)=true):a=b:=by
 unfold dEq at h;rw [Bool.and_eq_true,beq_iff_eq,List.length_map,List.length_map,List.all_eq_true] at h;refine rn ha hb h.1 fun p hp=>?_
 have:=h.2 (pk p) (List.mem_map.mpr ⟨p,hp,rfl⟩);rw [show (pk p).2=V.int p.2 from rfl,show (pk p).1=Sum.inr (st p.1) from rfl,lQ] at this;cases e:b.find? fun q=>decide (q.1=p.1) with
 | none=>rw [e] at this; cases this
 | some q=>
  rw [e] at this;have e2:((p.2:Int) == (q.2:Int))=true:=this;have e1:q.1=p.1:=by simpa using List.find?_some e
  rw [beq_iff_eq] at e2;have:p=q:=Prod.ext e1.symm (by omega);rw [this];exact List.mem_of_find?_eq_some e
noncomputable def bK (K:Frag) (m:Nat):Sp:=aA fun d=>aA fun g=>aD fun H Q _=>∃ (ob:Obj) (fs:List Pr) (ps:List Nat),ps.length < m/\ps.length<=12/\H d=some (.frz ob (.dK (fs.map pk)))/\SqL K H g (ps.map pl)/\GoodF ps.length fs/\AscF fs/\fs.length<=1000 /\
   ∀ v H',Same H H'->FkV H' (forkL ps fs) v->Q v H'
theorem mM (T:Top K mg):∀ m:Nat,Callee P w K mg base (m+3) "fork_below" ["firsts", "places"] (bK K m):=by
 intro m
 induction m with
 | zero=>
  refine T.gK.cal bJ (by unfold bK; exact LenSp.h) (fun _ _ _ _ _ _ us hl=>match us,hl with | [_,_],_=>rfl) (fun f cdv A outer s H vs Q E hr h=>?_);unfold bK at h;walk_at "el";obtain ⟨_,_,_,hn,_⟩:=h;exact absurd hn (Nat.not_lt_zero _)
 | succ m ih=>
  refine T.gK.cal bJ (by unfold bK; exact LenSp.h) (fun _ _ _ _ _ _ us hl=>match us,hl with | [_,_],_=>rfl) (fun f cdv A outer s H vs Q E hr h=>?_);unfold bK at h;walk_at "el";refine ⟨_,(ac (aJ (aw ba (au tH rfl T.bc aL (aa (qv 0) ab)) ad) (af (aq (xQ (A1 hr) (qv 0) (am bp (qs [45]) (au (lenE K rfl) rfl T.bc aL (aa (qv 1) ab))) (fun _ _=>rfl)))) av)
   (ac (ai (i:=2) bJ.nd rfl lc (ak (hV T) hr.m rfl (aa (qv 0) (aa (qs [48]) (aa (am eZ (au (lenE K rfl) rfl T.bc aL (aa (qv 1) ab)) ad) ab)))))
   (ac (ai (i:=3) bJ.nd rfl lc (ak (hV T) hr.m rfl (aa (qv 0) (aa (qs [49]) (aa (am eZ (au (lenE K rfl) rfl T.bc aL (aa (qv 1) ab)) ad) ab)))))
   (ac (ai (i:=4) bJ.nd rfl lc (ak ih hr.m rfl (aa (qv 2) (aa (bA (slE K rfl) (qv 1) (bF ad) cm) ab))))
   (ac (aJ (aw (eqDictE hr) (qv 2) (qv 3)) (af (aq (qv 4))) av)
   (ac (ai (i:=5) bJ.nd rfl lc (ak ih hr.m rfl (aa (qv 3) (aa (bA (slE K rfl) (qv 1) (bF ad) cm) ab))))
   (af (aq (dm (aw (eqFE K rfl hr) (qv 4) (qv 5)) (qv 4) (aS (aa (az (ixE K rfl) (qv 1) ad (fun _ _=>rfl)) (aa (qv 4) (aa (qv 5) ab))))))))))))),?_⟩
  rename_i d g;obtain ⟨ob,fs,ps,hm,hm12,h1,h2,hG,hA,hl,q⟩:=h;walk_at "rd";refine ⟨d,_,rfl,.inr ⟨ob,h1⟩,?_⟩;rw [List.length_map];refine ite2 (fun c1=>?_) fun c1=>?_
  ·have c1:fs.length=1:=by omega
   obtain ⟨k,rfl⟩:=qx hG c1;refine ⟨_,.inl h2,by rw [List.length_map]; omega,by rw [List.length_map]; omega,V.int k,.inl ⟨_,Sum.inr (st (dashes ps.length)),.inr ⟨ob,h1⟩,?_,?_⟩,q _ H (Same.refl _) ?_⟩
   ·rw [List.length_map,Int.toNat_natCast];rfl
   ·rw [lQ];simp
   ·cases ps with
    | nil=>
     show V.int k=V.int (numOf _ []);rfl
    | cons p ps=>
     rw [forkL,if_pos c1];show V.int k=V.int (numOf _ _);unfold numOf;simp
  ·have c1:fs.length≠1:=by omega
   cases ps with
   | nil=>
    obtain ⟨k,rfl⟩:=og hG;exact absurd rfl c1
   | cons p ps=>
    have hG:GoodF (ps.length+1) fs:=hG;have ek:(((p::ps).map pl).length:Int) - 1=(ps.length:Int):=by rw [List.length_map,List.length_cons]; omega
    have hm':ps.length < m:=by rw [List.length_cons] at hm; omega
    have hm12':ps.length<=11:=by rw [List.length_cons] at hm12; omega
    have hw:∀ x ∈ fs,0 < x.1.length/\x.1.length<=1000:=fun x hx=>by have:=hG.1 x hx; omega
    have t0:=mV fs 48 ps.length;have t1:=mV fs 49 ps.length;refine ⟨_,.inl h2,ob,fs,48,ps.length,rfl,ek,by omega,h1,hw,hl,fun d0 ob0 H1 f0 s1 e0=>?_⟩;refine ⟨_,.inl (s1.seq h2),ob,fs,49,ps.length,rfl,ek,by omega,s1 _ _ h1,hw,hl,fun d1 ob1 H2 f1 s2 e1=>?_⟩;have s02:=s1.trans s2;refine ⟨_,s02.seq h2,fun g1 hg1=>?_⟩;rw [List.map_cons,qo];have s3:=ae hg1 (.lst (ps.map pl));refine ⟨ob0,_,ps,hm',by omega,s3 _ _ (s2 _ _ e0),SqL.of upd_same,iE hG 48,jP hA 48 _,by omega,fun no H3 s4 k0=>?_⟩;have s24:=s3.trans s4;have e0':=s24 _ _ (s2 _ _ e0);have e1':=s24 _ _ e1;walk_at "rd";refine ⟨_,_,.inr ⟨ob0,e0'⟩,.inr ⟨ob1,e1'⟩,fun x hx=>?_,fun x hx=>?_,?_⟩
    ·obtain ⟨y,_,rfl⟩:=List.mem_map.mp hx;exact ⟨_,rfl⟩
    ·obtain ⟨y,_,rfl⟩:=List.mem_map.mp hx;exact ⟨_,rfl⟩
    have s04:=s02.trans s24;have ef:forkL (p::ps) fs=joinK p (forkL ps (sideF fs 48 ps.length)) (forkL ps (sideF fs 49 ps.length)):=by rw [forkL,if_neg c1]
    walk_at "rd";refine ite2 (fun c2=>?_) fun c2=>?_
    ·have e:=vS (jP hA 48 _) (jP hA 49 _) c2;refine q no H3 s04 ?_;rw [ef,<- e];unfold joinK;rw [if_pos (l6 _)];exact k0
    ·refine ⟨_,s04.seq h2,fun g2 hg2=>?_⟩;rw [List.map_cons,qo];have s5:=ae hg2 (.lst (ps.map pl));refine ⟨ob1,_,ps,hm',by omega,s5 _ _ e1',SqL.of upd_same,iE hG 49,jP hA 49 _,by omega,fun yes H4 s6 k1=>?_⟩;have s06:=s04.trans (s5.trans s6);have k0':=k0.same (s5.trans s6);have b0:=fK ps (sideF fs 48 ps.length);have b1:=fK ps (sideF fs 49 ps.length);walk_at "rd";refine uk k0' k1 (by omega) (by omega) ?_;walk_at "rd";refine ite2 (fun c3=>?_) fun c3=>?_
     ·refine q no H4 s06 ?_;rw [ef];unfold joinK;rw [if_pos c3];exact k0'
     ·refine ⟨_,pl p,.inl (s06.seq h2),ke (l:=(p::ps).map pl) (i:=0) (by simp),by decide,fun t ht=>q _ _ (s06.trans (ae ht _)) ?_⟩;rw [ef];unfold joinK;rw [if_neg c3];exact ⟨t,_,_,rfl,upd_same,k0'.same (ae ht _),k1.same (ae ht _)⟩
theorem nT (T:Top K mg):Callee P w K mg base 19 "fork_below" ["firsts", "places"] (bK K 16):=mM T 16
theorem lJ {l:List Nat} {i:Nat} (h:i < l.length):atI l (i:Int)=some (l.getD i 0):=by
 rw [ke h];simp [h]
noncomputable def bO (K:Frag) (m:Nat):Sp:=iQ fun f=>be fun a=>be fun b=>aD fun H Q _=>∃ (F:Fork) (W:Nat),FkV H F f/\high F < m/\high F<=12/\Asks W F/\a.cps.toList.length=W/\b.cps.toList.length=W/\W<=1000 /\
   ∀ q H',H q=none->Same H H'->Pairs H' q (cutF F a.cps.toList b.cps.toList)->Q (.ref q) H'
theorem ma (T:Top K mg):∀ m:Nat,Callee P w K mg base (m+2) "fork_parts" ["fork", "row", "over"] (bO K m):=by
 intro m
 induction m with
 | zero=>
  refine T.gJ.cal cf (by unfold bO; exact LenSp.h) (fun _ _ _ _ _ _ us hl=>match us,hl with | [_,_,_],_=>rfl) (fun f cdv A outer s H vs Q E hr h=>?_);unfold bO at h;walk_at "el";obtain ⟨_,_,_,hn,_⟩:=h;exact absurd hn (Nat.not_lt_zero _)
 | succ m ih=>
  refine T.gJ.cal cf (by unfold bO; exact LenSp.h) (fun _ _ _ _ _ _ us hl=>match us,hl with | [_,_,_],_=>rfl) (fun f cdv A outer s H vs Q E hr h=>?_);unfold bO at h;walk_at "el";refine ⟨_,(ac (aJ (bx (aR .int rfl T.aB (qv 0) rfl T.oV mt)) (af (aq (br (aa (aS (aa (qv 1) (aa (qv 0) ab))) ab)))) av)
   (ac (ai (i:=3) cf.nd rfl lc (az (ixE K rfl) (qv 0) ad (fun _ _=>rfl)))
   (ac (ai (i:=4) cf.nd rfl lc (dm (aw ba (az (ixE K rfl) (qv 2) (qv 3) (fun _ _=>rfl)) (qs [45])) (az (ixE K rfl) (qv 1) (qv 3) (fun _ _=>rfl)) (az (ixE K rfl) (qv 2) (qv 3) (fun _ _=>rfl))))
   (ac (aJ (aw ba (qv 4) (qs [45])) (ac (ai (i:=5) cf.nd rfl lc (ak ih hr.m rfl (aa (az (ixE K rfl) (qv 0) ad (fun _ _=>rfl)) (aa (ak (kP T) hr.m rfl (aa (qv 1) (aa (qv 3) (aa (qs [48]) ab)))) (aa (qv 2) ab)))))
   (af (aq (am aj (qv 5) (ak ih hr.m rfl (aa (az (ixE K rfl) (qv 0) ad (fun _ _=>rfl)) (aa (ak (kP T) hr.m rfl (aa (qv 1) (aa (qv 3) (aa (qs [49]) ab)))) (aa (qv 2) ab)))))))) av)
   (af (aq (ak ih hr.m rfl (aa (dm (aw ba (qv 4) (qs [48])) (az (ixE K rfl) (qv 0) ad (fun _ _=>rfl)) (az (ixE K rfl) (qv 0) ad (fun _ _=>rfl))) (aa (qv 1) (aa (qv 2) ab)))))))))),?_⟩
  rename_i fv a b;obtain ⟨r,rfl⟩:∃ x,a=st x:=⟨_,(aF a).symm⟩;obtain ⟨o,rfl⟩:∃ x,b=st x:=⟨_,(aF b).symm⟩;obtain ⟨F,W,hF,hm,hm12,hA,l1,l2,hW,q⟩:=h;simp only [ar] at l1 l2 q;cases F with
  | leaf n=>
   obtain rfl:fv=.int n:=hF;walk_at "rd";refine ⟨by decide,fun t ht=>⟨by decide,fun l hl=>q l _ ((ae ht _).free hl) ((ae ht _).trans (ae hl _)) ⟨_,upd_same,.cons ⟨t,rfl,?_⟩ .nil⟩⟩⟩;rw [ao (aQ upd_same hl),upd_same]
  | ask p x y=>
   obtain ⟨t,u,v,rfl,e,k0,k1⟩:=hF;obtain ⟨hp,a0,a1⟩:=hA;have hm:max (high x) (high y)+1 < m+1:=hm;have hm12:max (high x) (high y)+1<=12:=hm12;have c0:=c9 x (r.set p 48) o;have c1:=c9 y (r.set p 49) o;have b0:2 ^ high x<=2 ^ 12:=Nat.pow_le_pow_right (by decide) (by omega);have b1:2 ^ high y<=2 ^ 12:=Nat.pow_le_pow_right (by decide) (by omega);walk_at "rd";refine .inr ⟨⟨_,e⟩,_,_,.inr (SqT.of e),rfl,?_⟩;walk_at "rd";have go:∀ (sgn:Nat),signF p r o=sgn->cutF (.ask p x y) r o=if sgn=45 then cutF x (r.set p 48) o++cutF y (r.set p 49) o else if sgn=48 then cutF x r o else cutF y r o:=fun sgn z=>by rw [cutF,z]
   refine ⟨by omega,_,lJ (by omega),ite2 (fun c=>⟨by omega,_,lJ (by omega),?_⟩) fun c=>⟨by omega,_,lJ (by omega),?_⟩⟩
   ·have es:=go (r.getD p 0) (by unfold signF; rw [if_pos c]);generalize r.getD p 0=sgn at es;walk_at "rd";refine ite2 (fun g1=>?_) fun g1=>?_
    ·rw [if_pos g1] at es;refine ⟨_,_,.inr (SqT.of e),rfl,48,rfl,by omega,by simp only [ar]; omega,by simp only [ar]; omega,?_⟩;simp only [ar,Int.toNat_natCast];refine ⟨x,W,k0,by omega,by omega,a0,by simpa using l1,by simpa using l2,hW,fun z0 H1 f0 s1 u0=>?_⟩;simp only [ar] at u0;refine ⟨_,_,.inr (SqT.of (s1 _ _ e)),rfl,49,rfl,by omega,by simp only [ar]; omega,by simp only [ar]; omega,?_⟩;simp only [ar,Int.toNat_natCast];refine ⟨y,W,k1.same s1,by omega,by omega,a1,by simpa using l1,by simpa using l2,hW,fun z1 H2 f1 s2 u1=>?_⟩;simp only [ar] at u1;obtain ⟨x8,e8,y8⟩:=u0.same s2;obtain ⟨x9,e9,y9⟩:=u1;have z8:=y8.length;have z9:=y9.length;walk_at "rd";refine ⟨_,_,e8,e9,by rw [sizeLine_eq]; omega,fun z2 f2=>?_⟩;have s02:=s1.trans s2;refine q z2 _ (s02.free f2) (s02.trans (ae f2 _)) ?_;rw [es];exact ⟨_,upd_same,L2.Paired.mapP (i3 y8 y9) fun _ _ ⟨t,e,h⟩=>⟨t,e,ae f2 _ _ _ h⟩⟩
    ·rw [if_neg g1] at es;refine ite2 (fun g2=>⟨_,_,.inr (SqT.of e),rfl,?_⟩) fun g2=>⟨_,_,.inr (SqT.of e),rfl,?_⟩
     ·rw [if_pos g2] at es;refine ⟨x,W,k0,by omega,by omega,a0,by simpa using l1,by simpa using l2,hW,fun z0 H1 f0 s1 u0=>q z0 H1 f0 s1 ?_⟩;simp only [ar] at u0;rw [es];exact u0
     ·rw [if_neg g2] at es;refine ⟨y,W,k1,by omega,by omega,a1,by simpa using l1,by simpa using l2,hW,fun z0 H1 f0 s1 u0=>q z0 H1 f0 s1 ?_⟩;simp only [ar] at u0;rw [es];exact u0
   ·have es:=go (o.getD p 0) (by unfold signF; rw [if_neg c]);generalize o.getD p 0=sgn at es c;walk_at "rd";refine ite2 (fun g1=>absurd g1 c) fun g1=>?_
    rw [if_neg g1] at es;refine ite2 (fun g2=>⟨_,_,.inr (SqT.of e),rfl,?_⟩) fun g2=>⟨_,_,.inr (SqT.of e),rfl,?_⟩
    ·rw [if_pos g2] at es;refine ⟨x,W,k0,by omega,by omega,a0,by simpa using l1,by simpa using l2,hW,fun z0 H1 f0 s1 u0=>q z0 H1 f0 s1 ?_⟩;simp only [ar] at u0;rw [es];exact u0
    ·rw [if_neg g2] at es;refine ⟨y,W,k1,by omega,by omega,a1,by simpa using l1,by simpa using l2,hW,fun z0 H1 f0 s1 u0=>q z0 H1 f0 s1 ?_⟩;simp only [ar] at u0;rw [es];exact u0
theorem iN (T:Top K mg):Callee P w K mg base 18 "fork_parts" ["fork", "row", "over"] (bO K 16):=ma T 16
theorem vF {xs:List Pr} {vs:List V} (h:xs.length=vs.length):(xs.zip vs).map Prod.snd=vs:=List.map_snd_zip (by omega)
theorem qB:∀ (l:List Pr) (m:List V),l.length=m.length->((l.zip m).flatMap fun pr=>[tx pr.1.1])=(l.map Prod.fst).map tx
 | [],_,_=>rfl
 | x::l,[],h=>by cases h
 | x::l,v::m,h=>by
  rw [List.zip_cons_cons,List.flatMap_cons,qB l m (by simpa using h)];rfl
theorem mC {α:Type} (f:α -> V) (k:α -> Bool):∀ l:List α,(l.flatMap fun x=>if k x=true then [f x] else [])=(l.filter k).map f
 | []=>rfl
 | x::l=>by
  rw [List.flatMap_cons,mC f k l,List.filter_cons];split <;> rfl
noncomputable def jp (K:Frag):Sp:=aA fun p=>be fun r=>aD fun H Q _=>∃ hs:List (List Nat),H p=some (.lst (hs.map tx))/\(∀ x ∈ hs,x.length=r.cps.toList.length)/\r.cps.toList.length<=1000/\hs.length<=500/\(asked hs r.cps.toList).length<=12/\∀ v H',Same H H'->FkV H' (forkOf hs r.cps.toList) v->Q v H'
theorem mO (T:Top K mg):Callee P w K mg base 20 "fork_of" ["heap", "row"] (jp K):=by
 refine T.o0.cal gu (by unfold jp; exact LenSp.h) (fun _ _ _ _ _ _ us hl=>match us,hl with | [_,_],_=>rfl) (fun f cdv A outer s H vs Q E hr h=>?_);unfold jp at h;walk_at "el";refine ⟨_,(ac (ai (i:=2) gu.nd rfl lc (am aj (qv 0) (br (aa (am bp (qs [45]) (au (lenE K rfl) rfl T.bc aL (aa (qv 1) ab))) ab))))
   (ac (dN (i:=3) (nt:=2) (fi:=[1]) (N':=["number", "mine", "row"]) gu.nd rfl lc rfl (cscope rfl (by decide +kernel)) (cnames (N:=["heap", "row", "rows", "met", "places"]) (sc:=defScope cV) rfl rfl (by decide +kernel)) (dL (by decide) (by decide)) (my K rfl rfl T.fg (qv 2)) (fun _ _ _ _ _=>(tupE K rfl rfl (n:=2) (ap (ag (i:=0) (by show (["number", "mine", "row"]:List Str).Nodup; decide +kernel) rfl lc) (ap (ag (i:=1) (by show (["number", "mine", "row"]:List Str).Nodup; decide +kernel) rfl lc) aP)))) (fun _ _ _ _ _=>(jS (aw uU (ak (qu T) hr.m rfl (aa (qv 1) (aa (qv 2) ab))) kD))) (fun _ _ _ _ _=>(aS (aa (qv 1) (aa (qv 0) ab)))))
   (ac (ai (i:=4) gu.nd rfl lc (aX (nt:=1) (fi:=[1]) (N':=["place", "row"]) rfl (cscope rfl (by decide +kernel)) (cnames (N:=["heap", "row", "rows", "met", "places"]) (sc:=defScope cV) rfl rfl (by decide +kernel)) (aY (by decide)) (iterE K rfl (ak (m9 T) hr.m rfl (aa (aX (nt:=2) (fi:=[]) (N':=["mine", "number"]) rfl (cscope rfl (by decide +kernel)) (cnames (N:=["heap", "row", "rows", "met", "places"]) (sc:=defScope cV) rfl rfl (by decide +kernel)) (dL (by decide) (by decide)) (iterE K rfl (qv 3)) (fun _ _ _ _ _=>(tupE K rfl rfl (n:=2) (ap (ag (i:=0) (by show (["mine", "number"]:List Str).Nodup; decide +kernel) rfl lc) (ap (ag (i:=1) (by show (["mine", "number"]:List Str).Nodup; decide +kernel) rfl lc) aP)))) (fun _ _ _ _ _=>aM) (fun _ _ _ _ _=>(qv 0))) ab))) (fun _ _ _ _ _=>(ag (i:=0) (by show (["place", "row"]:List Str).Nodup; decide +kernel) rfl lc)) (fun _ _ _ _ _=>(jS (aw ba (az (ixE K rfl) (qv 1) (qv 0) (fun _ _=>rfl)) (qs [45])))) (fun _ _ _ _ _=>(qv 0))))
   (af (aq (ak (nT T) hr.m rfl (aa (ak (jC T) hr.m rfl (aa (aX (nt:=2) (fi:=[4]) (N':=["mine", "number", "places"]) rfl (cscope rfl (by decide +kernel)) (cnames (N:=["heap", "row", "rows", "met", "places"]) (sc:=defScope cV) rfl rfl (by decide +kernel)) (dL (by decide) (by decide)) (iterE K rfl (qv 3)) (fun _ _ _ _ _=>(tupE K rfl rfl (n:=2) (ap (ag (i:=0) (by show (["mine", "number", "places"]:List Str).Nodup; decide +kernel) rfl lc) (ap (ag (i:=1) (by show (["mine", "number", "places"]:List Str).Nodup; decide +kernel) rfl lc) aP)))) (fun _ _ _ _ _=>aM) (fun _ _ _ _ _=>(aS (aa (ak (lE T) hr.m rfl (aa (qv 0) (aa (qv 2) ab))) (aa (qv 1) ab))))) (aa (au (lenE K rfl) rfl T.bc aL (aa (qv 4) ab)) ab))) (aa (qv 4) ab)))))))),?_⟩
 rename_i p r;obtain ⟨r,rfl⟩:∃ x,r=st x:=⟨_,(aF r).symm⟩;obtain ⟨hs,h1,h2,h3,h4,h5,q⟩:=h;simp only [ar] at h2 h3 h5 q;walk_at "rd";refine ⟨by omega,by omega,by omega,by decide,fun z hz=>?_⟩;refine ⟨_,_,ae hz _ _ _ h1,upd_same,by rw [List.length_map,sizeLine_eq]; simp; omega,fun ra hra=>?_⟩;have er:upd (upd H z (.lst [V.str (st (List.replicate (r.length:Int).toNat 45))])) ra (.lst (hs.map tx++[V.str (st (List.replicate (r.length:Int).toNat 45))]))=upd (upd H z (.lst [tx (dashes r.length)])) ra (.lst ((hs++[dashes r.length]).map tx)):=by
  rw [Int.toNat_natCast,List.map_append];rfl
 have s1:Same H (upd (upd H z (.lst [tx (dashes r.length)])) ra (.lst ((hs++[dashes r.length]).map tx))):=by
  rw [<- er];exact (ae hz _).trans (ae hra _)
 rw [er];generalize hrows:hs++[dashes r.length]=rows at s1;have hrl:rows.length<=501:=by rw [<- hrows]; simp; omega
 have hrw:∀ x ∈ rows,x.length=r.length:=fun x hx=>by
  rw [<- hrows] at hx;rcases List.mem_append.mp hx with hx | hx
  ·exact h2 x hx
  ·rw [List.mem_singleton.mp hx];simp [dashes]
 have e1:upd (upd H z (.lst [tx (dashes r.length)])) ra (.lst (rows.map tx)) ra=some (.lst (rows.map tx)):=upd_same;generalize upd (upd H z (.lst [tx (dashes r.length)])) ra (.lst (rows.map tx))=H1 at s1 e1;walk_at "rd";refine ⟨⟨_,SqL.of e1⟩,fun D hD=>?_⟩;refine mE (xs:=rows.zipIdx) (keep:=fun q=>okL q.1 r) (R:=fun x v H'=>PairAt H' x v) hD (by rw [List.length_zipIdx]; omega) ?_ ?_ ?_ ?_ ?_ ?_
 ·intro i H2 hi s2;rw [List.length_zipIdx] at hi;exact ⟨_,tx rows[i],SqL.of (s2 _ _ e1),by rw [List.getElem?_map,List.getElem?_eq_getElem hi]; rfl⟩
 ·intro H2 s2;exact ⟨_,SqL.of (s2 _ _ e1),by rw [List.length_zipIdx,List.length_map]⟩
 ·rintro i H2 v H3 hi ⟨Tt,x,rfl,hT,_,rfl⟩;exact ae hT _
 ·rintro x v H2 H3 acc hd k ⟨t,e,r⟩;exact ⟨t,e,k _ _ (fun z=>by subst z; rw [hd] at r; cases r) r⟩
 ·rintro i x v H2 H3 out non hx s2 ⟨Tt,y,rfl,hT,hxi,rfl⟩ ho hno;have hi:i < rows.length:=by
   have:=(List.getElem?_eq_some_iff.mp hx).1;simpa using this
  have ex:x=(rows[i],i):=by
   rw [List.getElem?_zipIdx,List.getElem?_eq_getElem hi] at hx;have:=Option.some.inj hx;rw [<- this,Nat.zero_add]
  subst ex;have ey:=hxi _ (SqL.of (s2 _ _ e1));rw [List.getElem?_map,List.getElem?_eq_getElem hi] at ey;obtain rfl:tx rows[i]=y:=Option.some.inj ey;have hrl':=hrw _ (List.getElem_mem hi);refine ⟨Tt,[.int i,tx rows[i]],rfl,SqT.upd_same,rfl,.int i,[tx rows[i]],rfl,tx rows[i],[],rfl,rfl,?_⟩;walk_at "rd";refine ⟨by simp only [ar]; omega,fun H4 s4=>?_⟩;simp only [ar];unfold meetV;cases hk:okL rows[i] r with
  | true=>
   walk_at "rd";exact ⟨by decide,fun t ht=>ho _ _ hk (s4.trans (ae ht _)) ⟨t,rfl,upd_same⟩⟩
  | false=>
   walk_at "rd";exact hno _ hk s4
 intro H2 ws s2 e2 pr;have hmet:rows.zipIdx.filter (fun q=>okL q.1 r)=metL hs r:=by unfold metL; rw [hrows]
 rw [hmet] at pr;have mw:∀ x ∈ metL hs r,x.1.length=r.length:=fun x hx=>(rk h2 hx).1
 have ml:(metL hs r).length<=501:=by
  rw [<- hmet];refine Nat.le_trans (List.length_filter_le _ _) ?_;rw [List.length_zipIdx];exact hrl
 have hz:=pr.length;have hS:SqL K H2 D (((metL hs r).zip ws).map Prod.snd):=by rw [vF hz]; exact SqL.of e2
 walk_at "rd";refine .inl ⟨⟨_,hS⟩,fun D2 hD2=>?_⟩;refine aW (item:=Prod.snd) (xs:=(metL hs r).zip ws) (h:=fun x=>[tx x.1.1]) hD2 hS (by rw [List.length_zip]; omega) (fun _=>by simp) ?_ ?_
 ·rintro ⟨x,v⟩ H3 out non hm s3 ho hno;obtain ⟨t,rfl,et⟩:=bV pr _ hm;refine ⟨t,[tx x.1,.int x.2],rfl,SqT.of (s3 _ _ et),rfl,tx x.1,[.int x.2],rfl,.int x.2,[],rfl,rfl,?_⟩;walk_at "rd";exact ho _ _ rfl (Same.refl _)
 intro H3 s3 e3;rw [qB _ _ hz] at e3;have hd0:dashes r.length ∈ (metL hs r).map Prod.fst:=List.mem_map.mpr ⟨_,qw hs r,rfl⟩;have hw0:∀ x ∈ (metL hs r).map Prod.fst,x.length=r.length:=fun x hx=>by
  obtain ⟨y,hy,rfl⟩:=List.mem_map.mp hx;exact mw y hy
 refine ⟨(metL hs r).map Prod.fst,r.length,SqL.of e3,hw0,h3,by rw [List.length_map]; omega,fun pa H4 f4 s4 e4=>?_⟩;have hhd:(((metL hs r).map Prod.fst).headD []).length=r.length:=uL hw0 hd0;rw [hhd] at e4;have lt4:∀ i ∈ placesL ((metL hs r).map Prod.fst) r.length,i < r.length:=fun i hi=>ox hi
 have pl4:(placesL ((metL hs r).map Prod.fst) r.length).length<=1000:=by
  have:=List.length_filter_le (told ((metL hs r).map Prod.fst)) (List.range r.length);rw [List.length_range] at this;exact Nat.le_trans this h3
 refine .inl ⟨⟨_,SqL.of e4⟩,fun D3 hD3=>?_⟩;refine aW (item:=pl) (xs:=placesL ((metL hs r).map Prod.fst) r.length) (h:=fun i=>if decide (r.getD i 0=45)=true then [pl i] else []) hD3 (SqL.of e4) (by omega) (fun _=>by split <;> simp) ?_ ?_
 ·intro i H5 out non hi s5 ho hno;have:=lt4 i hi;walk_at "rd";exact ⟨by omega,_,lJ this,ite2 (fun g=>ho _ _ (if_pos (decide_eq_true g)) (Same.refl _)) fun g=>hno _ (if_neg (by simpa using g)) (Same.refl _)⟩
 intro H5 s5 e5;rw [mC pl fun i=>decide (r.getD i 0=45)] at e5;have e5:H5 D3=some (.lst ((asked hs r).map pl)):=e5;have s25:=s3.trans (s4.trans s5);have pr5:=L2.Paired.mapP pr fun _ _ (h:PairAt H2 _ _)=>(⟨h.choose,h.choose_spec.1,s25 _ _ h.choose_spec.2⟩:PairAt H5 _ _)
 have hS5:=s25.seq hS;walk_at "rd";refine .inl ⟨⟨_,hS5⟩,fun D4 hD4=>?_⟩;refine mo (K:=K) Prod.snd ((metL hs r).zip ws) (fun _=>true) (fun x v H'=>PairAt H' (narrow x.1.1 (asked hs r),x.1.2) v) hD4 hS5 (by rw [List.length_zip]; omega) ?_ ?_ ?_
 ·rintro x v H6 H7 acc hd k ⟨t,e,q⟩;exact ⟨t,e,k _ _ (fun z=>by subst z; rw [hd] at q; cases q) q⟩
 ·rintro ⟨x,v⟩ H6 out non hm s6 ho _;obtain ⟨t,rfl,et⟩:=bV pr5 _ hm;have hx:=mw x (List.of_mem_zip hm).1;refine ⟨t,[tx x.1,.int x.2],rfl,SqT.of (s6 _ _ et),rfl,tx x.1,[.int x.2],rfl,.int x.2,[],rfl,rfl,?_⟩;walk_at "rd";refine ⟨asked hs r,s6.seq (SqL.of e5),fun i hi=>?_,by simp only [ar]; omega,by omega,fun H7 s7=>?_⟩
  ·have:=(eF hi).1;simp only [ar];omega
  ·simp only [ar];walk_at "rd";exact ⟨by decide,fun t2 ht2=>ho _ _ rfl (s7.trans (ae ht2 _)) ⟨t2,rfl,upd_same⟩⟩
 intro H6 us s6 e6 pr6;rw [List.filter_eq_self.mpr fun _ _=>rfl] at pr6;have e56:=s6 _ _ e5;walk_at "rd";refine ⟨_,.inl (SqL.of e56),pairsL hs r,(asked hs r).length,by rw [List.length_map],by omega,⟨us,e6,?_⟩,by unfold pairsL; rw [List.length_map]; omega,fun d ob H7 f7 s7 e7=>?_⟩
 ·exact ib (kZ (F:=fun x v=>PairAt H6 (narrow x.1 (asked hs r),x.2) v) hz pr6)
 have fl:=i8 (asked hs r).length (pairsL hs r) [];have fl2:(pairsL hs r).length=(metL hs r).length:=by unfold pairsL; rw [List.length_map]
 rw [List.length_nil] at fl;refine ⟨ob,_,asked hs r,by omega,h5,e7,SqL.of (s7 _ _ e56),ou hs r,jk _ _ [] List.Pairwise.nil (vk hs r) (fun a ha=>by cases ha),by omega,fun v H8 s8 k8=>?_⟩;exact q v H8 (s1.trans (s2.trans (s25.trans (s6.trans (s7.trans s8))))) k8
theorem tZ (hs:List (List Nat)) (r:List Nat):high (forkOf hs r)<=(asked hs r).length:=fK _ _
theorem tU (hs:List (List Nat)) (r:List Nat):Asks r.length (forkOf hs r):=iK _ _ fun p hp=>(eF hp).1
noncomputable def rowOfW (n:Nat) (x:Way):List Nat:=x.1++dashes (n - x.1.length)
theorem mi {n:Nat} {x:Way} (h:x.1.length<=n):(rowOfW n x).length=n:=by
 unfold rowOfW dashes;rw [List.length_append,List.length_replicate];omega
theorem sZ {n i:Nat} {x:Way} (h:x.1.length<=i) (hi:i < n):(rowOfW n x).getD i 0=45:=by
 unfold rowOfW dashes;rw [List.getD_eq_getElem?_getD,List.getElem?_append_right h,List.getElem?_replicate,if_pos (by omega)];rfl
theorem mf:∀ (b:List Nat) (y:List Nat) (n:Nat),IsLet b->b.length<=y.length->within y (b++dashes n)=decide (b <+: y)
 | [],y,n,_,_=>by
  rw [List.nil_append,bu];simp
 | c::b,[],n,_,h=>by simp at h
 | c::b,d::y,n,hb,h=>by
  rw [List.cons_append,dj,mf b y n (fun z hz=>hb z (List.mem_cons_of_mem _ hz)) (by simpa using h)];have h45:(c == 45)=false:=by
   rcases hb c List.mem_cons_self with z | z <;> rw [z] <;> rfl
  rw [h45,Bool.false_or];by_cases e:c=d
  ·subst e;simp [List.cons_prefix_cons]
  ·rw [show (c == d)=false by simpa using e,Bool.false_and]
   symm
   simp [List.cons_prefix_cons,e]
theorem pO:∀ (l m:List Nat),l.Nodup->(∀ x ∈ l,x ∈ m)->l.length<=m.length
 | [],m,_,_=>Nat.zero_le _
 | x::l,m,hn,h=>by
  rw [List.nodup_cons] at hn;have ih:=pO l (m.erase x) hn.2 fun y hy=>(List.mem_erase_of_ne (show y≠x from fun e=>hn.1 (by rw [<- e]; exact hy))).mpr (h y (List.mem_cons_of_mem _ hy))
  have hx:=h x List.mem_cons_self;rw [List.length_erase_of_mem hx] at ih;have:=List.length_pos_of_mem hx;rw [List.length_cons];omega
noncomputable def leastW (r:List Nat):List Nat:=r.map fun c=>if c=45 then 48 else c
theorem mY {r:List Nat} (h:IsRow r):IsLet (leastW r):=fun k hk=>by
 obtain ⟨z,hz,rfl⟩:=List.mem_map.mp hk;rcases h z hz with e | e | e <;> rw [e] <;> simp
theorem oq {r:List Nat} {i:Nat}:r.getD i 0=45\/r.getD i 0=(leastW r).getD i 0:=by
 unfold leastW;rw [List.getD_eq_getElem?_getD,List.getD_eq_getElem?_getD,List.getElem?_map];cases e:r[i]? with
 | none=>exact .inr rfl
 | some c=>
  by_cases h:c=45
  ·exact .inl h
  ·exact .inr (by simp [h])
theorem oS:∀ {ws:List Way} {x y:Way},(ws.map fun x=>x.1).Nodup->x ∈ ws->y ∈ ws->x.1=y.1->x=y
 | [],_,_,_,h,_,_=>by cases h
 | z::ws,x,y,nd,hx,hy,e=>by
  rw [List.map_cons,List.nodup_cons] at nd;rcases List.mem_cons.mp hx with hx | hx
  ·rcases List.mem_cons.mp hy with hy | hy
   ·rw [hx,hy]
   ·exact absurd (List.mem_map.mpr ⟨y,hy,by rw [<- e,hx]⟩) nd.1
  ·rcases List.mem_cons.mp hy with hy | hy
   ·exact absurd (List.mem_map.mpr ⟨x,hx,by rw [e,hy]⟩) nd.1
   ·exact oS nd.2 hx hy e
theorem so {ws ws':List Way} {s:List Nat} (hp:ws'.Perm ws) (nd:(ws.map fun x=>x.1).Nodup) (hd:ws'.Pairwise fun a b=>b.1.length<=a.1.length):doorD ws s (s.length+1)=(ws'.find? fun w=>decide (w.1 <+: s)).map fun x=>x.2:=by
 have key:∀ n w,ws.find? (fun w=>decide (w.1=s.take n))=some w->w ∈ ws'/\w.1=s.take n:=fun n w h=>by
  have h1:=List.mem_of_find?_eq_some h;have h2:=List.find?_some h;exact ⟨hp.mem_iff.mpr h1,by simpa using h2⟩
 cases e:ws'.find? fun w=>decide (w.1 <+: s) with
 | none=>
  rw [List.find?_eq_none] at e;refine kF _ fun n hn=>?_
  unfold doorAt;cases z:ws.find? (fun w=>decide (w.1=s.take n)) with
  | none=>rfl
  | some w=>
   obtain ⟨k1,k2⟩:=key n w z;exact absurd (by rw [k2]; simpa using List.take_prefix _ _) (e w k1)
 | some w=>
  obtain ⟨hw,l1,l2,e2,e3⟩:=List.find?_eq_some_iff_append.mp e;have hw:w.1 <+: s:=by simpa using hw
  have hl:w.1.length<=s.length:=hw.length_le;have hmem:w ∈ ws:=hp.mem_iff.mp (by rw [e2]; simp);refine kC (m:=w.1.length) (d:=w.2) ?_ _ (by omega) fun n h1 h2=>?_
  ·unfold doorAt;have:ws.find? (fun x=>decide (x.1=s.take w.1.length))=some w:=by
    cases z:ws.find? (fun x=>decide (x.1=s.take w.1.length)) with
    | none=>
     rw [List.find?_eq_none] at z;exact absurd (by simpa using List.prefix_iff_eq_take.mp hw) (z w hmem)
    | some x=>
     have x1:=List.mem_of_find?_eq_some z;have x2:x.1=s.take w.1.length:=by simpa using List.find?_some z
     have x3:x.1=w.1:=x2.trans (List.prefix_iff_eq_take.mp hw).symm;rw [show x=w from oS nd x1 hmem x3]
   rw [this];rfl
  ·unfold doorAt;cases z:ws.find? (fun x=>decide (x.1=s.take n)) with
   | none=>rfl
   | some x=>
    obtain ⟨k1,k2⟩:=key n x z;have kp:x.1 <+: s:=by rw [k2]; exact List.take_prefix _ _
    have kl:x.1.length=n:=by rw [k2,List.length_take]; omega
    rw [e2] at k1 hd;rcases List.mem_append.mp k1 with k1 | k1
    ·exact absurd (by simpa using kp) (by simpa using e3 x k1)
    ·rcases List.mem_cons.mp k1 with k1 | k1
     ·rw [k1] at kl; omega
     ·have:=(List.pairwise_cons.mp (List.pairwise_append.mp hd).2.1).1 x k1;omega
theorem f9 {α β:Type} {R:α -> β -> Prop}:∀ {l:List α} {m:List β},Paired R l m->Paired (fun b a=>R a b) m l
 | _,_,.nil=>.nil
 | _,_,.cons a r=>.cons a (f9 r)
noncomputable def keyW (H:Hp) (v:V):Nat:=match v with
 | .ref t=>match H t with
  | some (.tup (.str y::_))=>y.length
  | _=>0
 | _=>0
theorem pT {H:Hp} {x:Way} {v:V} (h:WayAt H x v):keyW H v=x.1.length:=by
 obtain ⟨t,rfl,e⟩:=h;unfold keyW;simp only [e];rw [strlen,ar]
noncomputable def c7 (K:Frag):Sp:=aA fun p=>aD fun H Q _=>∃ ws:List Way,Ways H p ws/\ws.length < 64/\(∀ x ∈ ws,x.1.length<=1000)/\∃ c TT,PySem.W.tabIn K "longest_first" = some (c,TT)/\H TT=some (.tbl #[]) /\
   ∀ q H' ws',H q=none->Same H H'->Ways H' q ws'->ws'.Perm ws->(ws'.Pairwise fun a b=>b.1.length<=a.1.length)->Q (.ref q) H'
theorem j9 (T:Top K mg):Callee P w K mg base 1 "longest_first" ["ways"] (c7 K):=by
 obtain ⟨cc,TT,LL⟩:=T.lam_longest_first;refine T.gS.calC LL kH (by unfold c7; exact LenSp.h) (fun _ _ _ _ _ _ us hl=>match us,hl with | [_],_=>rfl) (fun f A outer s H vs Q E hr h=>?_);unfold c7 at h;walk_at "el";refine ⟨_,(af (aq (rM rfl hr rfl T.ny T.bc rfl LL.lam (qv 0) rfl rfl rfl (by decide) rfl rfl rfl rfl rfl (fun _ _ _ _ _ _=>rfl)))),?_⟩;rename_i p;obtain ⟨ws,⟨vs,e0,pr⟩,hl,hw,c2,T2,ht,hT,q⟩:=h;have et:=LL.tb.symm.trans ht;cases et;have hln:=pr.length;have pf:=f9 pr;walk_at "rd";refine ⟨vs,keyW H,SqL.of e0,by omega,fun x hx=>?_,hT,fun z H' xs' hz sz ez hd=>?_⟩
 ·obtain ⟨y,hy,hyx⟩:=g9 pr x hx;have hk:=pT hyx;obtain ⟨t,rfl,e⟩:=hyx;have:=hw y hy;exact ⟨t,st y.1,[tx y.2],rfl,SqT.of e,by rw [strlen,ar,sizeLine_eq]; omega,by rw [hk,strlen,ar]⟩
 ·obtain ⟨ws',p1,p2⟩:=kS hd.1 pf;refine q z _ ws' hz sz ⟨xs',ez,ku (fun t us e=>sz _ _ e) (f9 p2)⟩ p1 (du (fun a b c d ra rc h=>?_) p2 hd.2);rw [pT ra,pT rc] at h;exact h
noncomputable def i0:Sp:=aA fun t=>bB fun n=>aD fun H Q _=>∃ (x:Way) (m:Nat),H t=some (.tup [tx x.1,tx x.2])/\n=(m:Int)/\x.1.length<=m/\m<=1000/\Q (tx (rowOfW m x)) H
theorem sP (T:Top K mg):Callee P w K mg base 1 "way_row" ["way", "size"] i0:=by
 refine T.oX.cal rN (by unfold i0; exact LenSp.h) (fun _ _ _ _ _ _ us hl=>match us,hl with | [_,_],_=>rfl) (fun f cdv A outer s H vs Q E hr h=>?_);unfold i0 at h;walk_at "el";refine ⟨_,(af (aq (am aj (az (ixE K rfl) (qv 0) ad (fun _ _=>rfl)) (am bp (qs [45]) (am eZ (qv 1) (au (lenE K rfl) rfl T.bc aL (aa (az (ixE K rfl) (qv 0) ad (fun _ _=>rfl)) ab))))))),?_⟩;rename_i t n;obtain ⟨x,m,e,rfl,h1,h2,q⟩:=h;walk_at "rd";refine ⟨_,_,.inr (SqT.of e),rfl,?_⟩;walk_at "rd";refine ⟨_,_,.inr (SqT.of e),rfl,?_⟩;walk_at "rd";have en:((m:Int) - (x.1.length:Int)).toNat=m - x.1.length:=by omega
 refine ⟨by omega,by omega,by omega,?_,?_⟩
 ·rw [List.length_replicate,en]; omega
 ·rw [en];exact q
noncomputable def i9 (K:Frag):Sp:=aA fun p=>bB fun n=>aD fun H Q _=>∃ (ws:List Way) (k:Nat),Ways H p ws/\n=(k:Int)/\k<=ws.length/\Q (optV ((ws[k]?).map fun x=>x.2)) H
theorem sD (T:Top K mg):Callee P w K mg base 1 "door_at" ["ways", "number"] (i9 K):=by
 refine T.oW.cal rZ (by unfold i9; exact LenSp.h) (fun _ _ _ _ _ _ us hl=>match us,hl with | [_,_],_=>rfl) (fun f cdv A outer s H vs Q E hr h=>?_);unfold i9 at h;walk_at "el";refine ⟨_,(af (aq (dm (aw ba (qv 1) (au (lenE K rfl) rfl T.bc aL (aa (qv 0) ab))) kD (az (ixE K rfl) (az (ixE K rfl) (qv 0) (qv 1) (fun _ _=>rfl)) ad (fun _ _=>rfl))))),?_⟩;rename_i p n;obtain ⟨ws,k,⟨vs,e0,pr⟩,rfl,h1,q⟩:=h;have hl:=pr.length;walk_at "rd";refine ⟨vs,.inl (SqL.of e0),ite2 (fun g=>?_) fun g=>?_⟩
 ·rw [List.getElem?_eq_none (by omega)] at q;exact q
 ·have hk:k < ws.length:=by omega
  obtain ⟨y,hy,t,ey,et⟩:=aN pr (List.getElem?_eq_getElem hk);rw [List.getElem?_eq_getElem hk] at q;subst ey;refine ⟨vs,_,.inl (SqL.of e0),bR hy,?_⟩;walk_at "rd";exact ⟨_,_,.inr (SqT.of et),rfl,q⟩
theorem yJ {x o:List Nat} (h:x.length=o.length) {i:Nat} (hi:i < x.length):(written x o).getD i 0=if o.getD i 0=45 then x.getD i 0 else o.getD i 0:=by
 have hi2:i < o.length:=by omega
 unfold written;rw [List.getD_eq_getElem?_getD,List.getElem?_map,List.getElem?_zip_eq_some (z:=(x[i],o[i])).mpr ⟨List.getElem?_eq_getElem hi,List.getElem?_eq_getElem hi2⟩,List.getD_eq_getElem?_getD,List.getElem?_eq_getElem hi2,List.getD_eq_getElem?_getD,List.getElem?_eq_getElem hi];rfl
theorem pS {p:Nat} {row over:List Nat} (h:signF p row over=45):row.getD p 0=45/\over.getD p 0=45:=by
 unfold signF at h;split at h
 ·rename_i e;exact ⟨h,e⟩
 ·rename_i e;exact absurd h e
theorem bM {W:Nat}:∀ (F:Fork) (row over:List Nat),Asks W F->row.length=W->IsRow row->∀ x ∈ cutF F row over,x.1.length=W/\IsRow x.1
 | .leaf n,row,over,_,hl,hr,x,hx=>by
  rw [List.mem_singleton.mp hx];exact ⟨hl,hr⟩
 | .ask p a b,row,over,⟨hp,ha,hb⟩,hl,hr,x,hx=>by
  rw [cutF] at hx;split at hx
  ·rcases List.mem_append.mp hx with hx | hx
   ·exact bM a _ over ha (by simpa using hl) (iD hr (.inl rfl)) x hx
   ·exact bM b _ over hb (by simpa using hl) (iD hr (.inr (.inl rfl))) x hx
  ·split at hx
   ·exact bM a _ over ha hl hr x hx
   ·exact bM b _ over hb hl hr x hx
theorem dR {W:Nat}:∀ (F:Fork) (row over:List Nat),Asks W F->row.length=W->∀ x ∈ cutF F row over,∀ i,row.getD i 0≠45->x.1.getD i 0=row.getD i 0
 | .leaf n,row,over,_,hl,x,hx,i,_=>by
  rw [List.mem_singleton.mp hx]
 | .ask p a b,row,over,⟨hp,ha,hb⟩,hl,x,hx,i,hi=>by
  rw [cutF] at hx;split at hx
  ·rename_i e;have ne:i≠p:=fun z=>hi (by rw [z]; exact (pS e).1)
   have key:∀ c,(row.set p c).getD i 0=row.getD i 0:=fun c=>by rw [jF _ _ _ _ (by omega),if_neg ne]
   rcases List.mem_append.mp hx with hx | hx
   ·rw [dR a _ over ha (by simpa using hl) x hx i (by rw [key]; exact hi),key]
   ·rw [dR b _ over hb (by simpa using hl) x hx i (by rw [key]; exact hi),key]
  ·split at hx
   ·exact dR a _ over ha hl x hx i hi
   ·exact dR b _ over hb hl x hx i hi
theorem iH {W:Nat} {x row y:List Nat} (hx:x.length=W) (hl:row.length=W) (hy:y.length=W) (h:∀ i,row.getD i 0≠45->x.getD i 0=row.getD i 0) (hw:within y x=true):within y row=true:=by
 rw [bw hy hl];intro i hi;by_cases e:row.getD i 0=45
 ·exact .inl e
 ·have h1:=h i e;have h2:=(bw hy hx).mp hw i hi;rcases h2 with z | z
  ·exact absurd (h1.symm.trans z) e
  ·exact .inr (h1.symm.trans z)
theorem bU {W:Nat}:∀ (F:Fork) (row over:List Nat),Asks W F->row.length=W->over.length=W->IsRow row->∀ x ∈ cutF F row over,∀ y:List Nat,y.length=W->within y x.1=true->evalF F (written y over)=x.2
 | .leaf n,row,over,_,hl,ho,hr,x,hx,y,_,_=>by
  rw [List.mem_singleton.mp hx];rfl
 | .ask p a b,row,over,⟨hp,ha,hb⟩,hl,ho,hr,x,hx,y,hy,hw=>by
  rw [cutF] at hx;have told:∀ (G:Fork) (r:List Nat),Asks W G->r.length=W->IsRow r->x ∈ cutF G r over->r.getD p 0≠45->y.getD p 0=r.getD p 0:=fun G r hG h1 h2 hm h3=>by
   rcases (bw hy h1).mp (iH (bM G r over hG h1 h2 x hm).1 h1 hy (dR G r over hG h1 x hm) hw) p hp with z | z
   ·exact absurd z h3
   ·exact z.symm
  have setp:∀ c,(row.set p c).getD p 0=c:=fun c=>by rw [jF _ _ _ _ (by omega),if_pos rfl]
  have wp:=yJ (x:=y) (o:=over) (by omega) (i:=p) (by omega);show (if (written y over).getD p 0=48 then evalF a (written y over) else evalF b (written y over))=x.2;rw [wp];split at hx
  ·rename_i e;rw [if_pos (pS e).2];rcases List.mem_append.mp hx with hx | hx
   ·have e:=told a _ ha (by simpa using hl) (iD hr (.inl rfl)) hx (by rw [setp]; decide);rw [setp] at e;rw [if_pos e];exact bU a _ over ha (by simpa using hl) ho (iD hr (.inl rfl)) x hx y hy hw
   ·have e:=told b _ hb (by simpa using hl) (iD hr (.inr (.inl rfl))) hx (by rw [setp]; decide);rw [setp] at e;rw [if_neg (by omega)];exact bU b _ over hb (by simpa using hl) ho (iD hr (.inr (.inl rfl))) x hx y hy hw
  ·rename_i e;have es:(if over.getD p 0=45 then y.getD p 0 else over.getD p 0)=signF p row over\/∃ G,(G=a\/G=b)/\x ∈ cutF G row over/\Asks W G:=by
    split at hx
    ·exact .inr ⟨a,.inl rfl,hx,ha⟩
    ·exact .inr ⟨b,.inr rfl,hx,hb⟩
   have es:(if over.getD p 0=45 then y.getD p 0 else over.getD p 0)=signF p row over:=by
    rcases es with z | ⟨G,_,hG,hA⟩
    ·exact z
    ·unfold signF at e ⊢;split
     ·rename_i g;rw [if_pos g] at e;exact told G row hA hl hr hG e
     ·rfl
   rw [es];split at hx
   ·rename_i e2;rw [if_pos e2];exact bU a _ over ha hl ho hr x hx y hy hw
   ·rename_i e2;rw [if_neg e2];exact bU b _ over hb hl ho hr x hx y hy hw
def Off (W:Nat) (x y:List Nat):Prop:=∃ i,i < W/\x.getD i 0≠45/\y.getD i 0≠45/\x.getD i 0≠y.getD i 0
theorem yF {W:Nat} {x y p q:List Nat} (h:Off W p q) (hx:∀ i,p.getD i 0≠45->x.getD i 0=p.getD i 0) (hy:∀ i,q.getD i 0≠45->y.getD i 0=q.getD i 0):Off W x y:=by
 obtain ⟨i,hi,h1,h2,h3⟩:=h;exact ⟨i,hi,by rw [hx i h1]; exact h1,by rw [hy i h2]; exact h2,by rw [hx i h1,hy i h2]; exact h3⟩
theorem xG {W:Nat} {x y l:List Nat} (hx:x.length=W) (hy:y.length=W) (hl:l.length=W) (h:Off W x y) (h1:within l x=true) (h2:within l y=true):False:=by
 obtain ⟨i,hi,k1,k2,k3⟩:=h;rcases (bw hl hx).mp h1 i hi with z | z
 ·exact k1 z
 ·rcases (bw hl hy).mp h2 i hi with z2 | z2
  ·exact k2 z2
  ·exact k3 (z.trans z2.symm)
theorem fP {W:Nat}:∀ (F:Fork) (row over:List Nat),Asks W F->row.length=W->(cutF F row over).Pairwise fun x y=>Off W x.1 y.1
 | .leaf n,row,over,_,_=>List.pairwise_singleton _ _
 | .ask p a b,row,over,⟨hp,ha,hb⟩,hl=>by
  rw [cutF];split
  ·refine List.pairwise_append.mpr ⟨fP a _ over ha (by simpa using hl),fP b _ over hb (by simpa using hl),fun x hx y hy=>?_⟩;have setp:∀ c,(row.set p c).getD p 0=c:=fun c=>by rw [jF _ _ _ _ (by omega),if_pos rfl]
   have h1:=dR a _ over ha (by simpa using hl) x hx p (by rw [setp]; decide);have h2:=dR b _ over hb (by simpa using hl) y hy p (by rw [setp]; decide);rw [setp] at h1 h2;exact ⟨p,hp,by rw [h1]; decide,by rw [h2]; decide,by rw [h1,h2]; decide⟩
  ·split
   ·exact fP a _ over ha hl
   ·exact fP b _ over hb hl
theorem c6 {W:Nat}:∀ (F:Fork) (row over:List Nat),Asks W F->row.length=W->((cutF F row over).map fun x=>2 ^ x.1.count 45).sum=2 ^ row.count 45
 | .leaf n,row,over,_,_=>by simp [cutF]
 | .ask p a b,row,over,⟨hp,ha,hb⟩,hl=>by
  rw [cutF];split
  ·rename_i e;have e:=(pS e).1;have hp':p < row.length:=by omega
   have e':row[p]? = some 45:=by
    rw [List.getD_eq_getElem?_getD,List.getElem?_eq_getElem hp',Option.getD_some] at e;rw [List.getElem?_eq_getElem hp',e]
   have c0:=hX 48 e';have c1:=hX 49 e';rw [if_neg (by decide)] at c0 c1;rw [List.map_append,List.sum_append,c6 a _ over ha (by simpa using hl),c6 b _ over hb (by simpa using hl)];rw [show row.count 45=(row.set p 48).count 45+1 by omega,Nat.pow_succ,show (row.set p 49).count 45=(row.set p 48).count 45 by omega];omega
  ·split
   ·exact c6 a _ over ha hl
   ·exact c6 b _ over hb hl
theorem cY {W:Nat} {y:List Nat} (hy:y.length=W) (hL:IsLet y):∀ (F:Fork) (row over:List Nat),Asks W F->row.length=W->within y row=true->∃ x ∈ cutF F row over,within y x.1=true
 | .leaf n,row,over,_,_,h=>⟨_,List.mem_singleton.mpr rfl,h⟩
 | .ask p a b,row,over,⟨hp,ha,hb⟩,hl,h=>by
  rw [cutF];have ws:∀ c,y.getD p 0=c->within y (row.set p c)=true:=fun c e=>by
   rw [bw hy (by simpa using hl)];intro i hi;rw [jF _ _ _ _ (by omega)];split
   ·rename_i g;rw [g];exact .inr e.symm
   ·exact (bw hy hl).mp h i hi
  split
  ·have hy2:y.getD p 0=48\/y.getD p 0=49:=by
    rw [List.getD_eq_getElem?_getD,List.getElem?_eq_getElem (by omega),Option.getD_some];exact hL _ (List.getElem_mem _)
   rcases hy2 with e | e
   ·obtain ⟨x,h1,h2⟩:=cY hy hL a _ over ha (by simpa using hl) (ws 48 e);exact ⟨x,List.mem_append_left _ h1,h2⟩
   ·obtain ⟨x,h1,h2⟩:=cY hy hL b _ over hb (by simpa using hl) (ws 49 e);exact ⟨x,List.mem_append_right _ h1,h2⟩
  ·split
   ·exact cY hy hL a _ over ha hl h
   ·exact cY hy hL b _ over hb hl h
noncomputable def wRow (a W:Nat) (x:Way):List Nat:=dashes a++rowOfW (W - a) x
theorem mQ {a W:Nat} {x:Way} (h:a+x.1.length<=W):(wRow a W x).length=W:=by
 unfold wRow;rw [List.length_append,mi (by omega)];simp [dashes];omega
theorem kX:∀ (a:Nat) (z r:List Nat),a<=z.length->within z (dashes a++r)=within (z.drop a) r
 | 0,z,r,_=>rfl
 | a+1,[],r,h=>by simp at h
 | a+1,c::z,r,h=>by
  show within (c::z) (45::(dashes a++r))=_;rw [dj,kX a z r (by simpa using h)];rfl
theorem r9 {a b W:Nat} {x:Way} {z:List Nat} (hz:z.length=W) (hb:b<=W) (hx:a+x.1.length<=b) (hL:IsLet x.1):within z (wRow a W x)=decide (x.1 <+: (z.drop a).take (b - a)):=by
 unfold wRow rowOfW;rw [kX a z _ (by omega),mf _ _ _ hL (by rw [List.length_drop]; omega)];congr 1;rw [List.prefix_take_iff];exact propext ⟨fun h=>⟨h,by omega⟩,fun h=>h.1⟩
theorem rj {α:Type} (P:α -> Bool):∀ l:List α,l[l.findIdx P]? = l.find? P
 | []=>rfl
 | x::l=>by
  rw [List.findIdx_cons,List.find?_cons];cases h:P x with
  | true=>rfl
  | false=>
   show (x::l)[l.findIdx P+1]? = _;rw [List.getElem?_cons_succ];exact rj P l
theorem pP {α β:Type} (f:α -> β) (P:β -> Bool):∀ l:List α,(l.map f).findIdx P=l.findIdx fun x=>P (f x)
 | []=>rfl
 | x::l=>by
  rw [List.map_cons,List.findIdx_cons,List.findIdx_cons,pP f P l]
theorem qM {α:Type} {P Q:α -> Bool}:∀ l:List α,(∀ x ∈ l,P x=Q x)->l.findIdx P=l.findIdx Q
 | [],_=>rfl
 | x::l,h=>by
  rw [List.findIdx_cons,List.findIdx_cons,h x List.mem_cons_self,qM l fun z hz=>h z (List.mem_cons_of_mem _ hz)]
noncomputable abbrev Ruled:=List Nat × Nat × List V
noncomputable def overR (rs:List Rule) (n:Nat):List Nat:=(rs[n]?.map (·.2.2)).getD []
noncomputable def doorN (ws:List Way) (i:Nat):Option (List Nat):=(ws[i]?).map fun x=>x.2
noncomputable def doneP (rs:List Rule) (ws:List Way) (FW:Fork) (p:Pr):List Ruled:=
 if dropB rs p.2 then [(p.1,p.2,[tx dropT,.int p.2])] else (cutF FW p.1 (overR rs p.2)).map fun c=>(c.1,p.2,sentV (doorN ws c.2) (overR rs p.2))
noncomputable def ruledP (rs:List Rule) (ws:List Way) (FR FW:Fork) (row:List Nat):List Ruled:=(cutF FR row (dashes row.length)).flatMap (doneP rs ws FW)
structure GateM (W a b:Nat) (rs:List Rule) (ws ws':List Way) (FR FW:Fork):Prop where
 rows:∀ r ∈ rs,r.1.length=W/\r.2.2.length=W/\IsRow r.2.2
 hb:b<=W
 way:∀ x ∈ ws',a+x.1.length<=b/\IsLet x.1
 perm:ws'.Perm ws
 nd:(ws.map fun x=>x.1).Nodup
 desc:ws'.Pairwise fun x y=>y.1.length<=x.1.length
 fr:FR=forkOf (rs.map (·.1)) (dashes W)
 fw:FW=forkOf (ws'.map (wRow a W)) (dashes W)
theorem aK (n:Nat):(dashes n).length=n:=by simp [dashes]
theorem rS (n:Nat):IsRow (dashes n):=fun c hc=>.inr (.inr (List.eq_of_mem_replicate hc))
theorem GateM.askR {W a b:Nat} {rs:List Rule} {ws ws':List Way} {FR FW:Fork} (g:GateM W a b rs ws ws' FR FW):Asks W FR:=by
 have:=tU (rs.map (·.1)) (dashes W);rw [aK] at this;rw [g.fr];exact this
theorem GateM.askW {W a b:Nat} {rs:List Rule} {ws ws':List Way} {FR FW:Fork} (g:GateM W a b rs ws ws' FR FW):Asks W FW:=by
 have:=tU (ws'.map (wRow a W)) (dashes W);rw [aK] at this;rw [g.fw];exact this
theorem mT {y o:List Nat} (hy:IsLet y) (ho:IsRow o):IsLet (written y o):=fun c hc=>by
 unfold written at hc;obtain ⟨q,hq,rfl⟩:=List.mem_map.mp hc;have h1:=(List.of_mem_zip hq).1;have h2:=(List.of_mem_zip hq).2;unfold wSign;split
 ·exact hy _ h1
 ·rename_i g;rcases ho _ h2 with z | z | z
  ·exact .inl z
  ·exact .inr z
  ·exact absurd z g
theorem GateM.over {W a b:Nat} {rs:List Rule} {ws ws':List Way} {FR FW:Fork} (g:GateM W a b rs ws ws' FR FW) {n:Nat} (h:dropB rs n=false):n < rs.length/\(overR rs n).length=W/\IsRow (overR rs n):=by
 have hn:n < rs.length:=by
  rcases Nat.lt_or_ge n rs.length with z | z
  ·exact z
  ·unfold dropB at h;rw [List.getElem?_eq_none z] at h;cases h
 unfold overR;rw [List.getElem?_eq_getElem hn];exact ⟨hn,(g.rows _ (List.getElem_mem hn)).2⟩
noncomputable def whatL (rs:List Rule) (ws:List Way) (a b:Nat) (y:List Nat):List V:=
 if dropB rs (firstR rs y) then [tx dropT,.int (firstR rs y:Nat)] else sentV (wayL ws (((written y (overR rs (firstR rs y))).drop a).take (b - a))).2 (overR rs (firstR rs y))
theorem GateM.first {W a b:Nat} {rs:List Rule} {ws ws':List Way} {FR FW:Fork} (g:GateM W a b rs ws ws' FR FW) {y:List Nat} (hy:y.length=W) (hL:IsLet y):evalF FR y=firstR rs y:=by
 rw [g.fr,jc (fun r hr=>by
  obtain ⟨x,hx,rfl⟩:=List.mem_map.mp hr;rw [(g.rows x hx).1,aK]) (by rw [aK]; exact hy) hL (bu _ _),pP]
 rfl
theorem GateM.door {W a b:Nat} {rs:List Rule} {ws ws':List Way} {FR FW:Fork} (g:GateM W a b rs ws ws' FR FW) {z:List Nat} (hz:z.length=W) (hL:IsLet z):doorN ws' (evalF FW z)=(wayL ws ((z.drop a).take (b - a))).2:=by
 rw [wo,so g.perm g.nd g.desc,g.fw,jc (fun r hr=>by
  obtain ⟨x,hx,rfl⟩:=List.mem_map.mp hr;rw [mQ (Nat.le_trans (g.way x hx).1 g.hb),aK]) (by rw [aK]; exact hz) hL (bu _ _),pP,qM (Q:=fun w=>decide (w.1 <+: (z.drop a).take (b - a))) _ fun x hx=>r9 hz g.hb (g.way x hx).1 (g.way x hx).2]
 unfold doorN;rw [rj]
theorem GateM.done {W a b:Nat} {rs:List Rule} {ws ws':List Way} {FR FW:Fork} (g:GateM W a b rs ws ws' FR FW) {p:Pr} (hl:p.1.length=W) (hr:IsRow p.1):
  (∀ x ∈ doneP rs ws' FW p,x.1.length=W/\IsRow x.1/\(∀ i,p.1.getD i 0≠45->x.1.getD i 0=p.1.getD i 0)) /\
  (doneP rs ws' FW p).Pairwise (fun x y=>Off W x.1 y.1)/\((doneP rs ws' FW p).map fun x=>2 ^ x.1.count 45).sum=2 ^ p.1.count 45 /\
  (∀ y:List Nat,y.length=W->IsLet y->within y p.1=true->∃ x ∈ doneP rs ws' FW p,within y x.1=true) /\
  ∀ x ∈ doneP rs ws' FW p,∀ y:List Nat,y.length=W->IsLet y->within y x.1=true->firstR rs y=p.2->x.2.1=p.2/\x.2.2=whatL rs ws a b y:=by
 unfold doneP;cases hd:dropB rs p.2 with
 | true=>
  rw [if_pos rfl];refine ⟨fun x hx=>?_,List.pairwise_singleton _ _,by simp,fun y _ _ h=>⟨_,List.mem_singleton.mpr rfl,h⟩,fun x hx y _ _ _ e=>?_⟩
  ·rw [List.mem_singleton.mp hx];exact ⟨hl,hr,fun i _=>rfl⟩
  ·rw [List.mem_singleton.mp hx];refine ⟨rfl,?_⟩;unfold whatL;rw [e,hd,if_pos rfl]
 | false=>
  rw [if_neg (by decide)];obtain ⟨hn,ho,hor⟩:=g.over hd;have A:=g.askW;refine ⟨fun x hx=>?_,?_,?_,fun y h1 h2 h3=>?_,fun x hx y h1 h2 h3 e=>?_⟩
  ·obtain ⟨c,hc,rfl⟩:=List.mem_map.mp hx;have:=bM _ _ _ A hl hr c hc;exact ⟨this.1,this.2,dR _ _ _ A hl c hc⟩
  ·rw [List.pairwise_map];exact fP _ _ _ A hl
  ·rw [List.map_map];exact c6 _ _ _ A hl
  ·obtain ⟨c,hc,hw⟩:=cY h1 h2 _ _ (overR rs p.2) A hl h3;exact ⟨_,List.mem_map.mpr ⟨c,hc,rfl⟩,hw⟩
  ·obtain ⟨c,hc,rfl⟩:=List.mem_map.mp hx;refine ⟨rfl,?_⟩;have ht:=bU _ _ _ A hl ho hr c hc y h1 h3;unfold whatL;rw [e,hd,if_neg (by decide),<- g.door (z:=written y (overR rs p.2)) (by rw [eV (by omega)]; exact h1) (mT h2 hor),ht]
theorem qX {α β:Type} {R:β -> β -> Prop} {S:α -> α -> Prop} {f:α -> List β}:∀ {l:List α},(∀ p ∈ l,(f p).Pairwise R)->l.Pairwise S->(∀ p ∈ l,∀ q ∈ l,S p q->∀ x ∈ f p,∀ y ∈ f q,R x y)->(l.flatMap f).Pairwise R
 | [],_,_,_=>List.Pairwise.nil
 | p::l,h1,h2,h3=>by
  have h2':=List.pairwise_cons.mp h2;rw [List.flatMap_cons];refine List.pairwise_append.mpr ⟨h1 p List.mem_cons_self,qX (fun q hq=>h1 q (List.mem_cons_of_mem _ hq)) h2'.2 (fun q hq r hr=>h3 q (List.mem_cons_of_mem _ hq) r (List.mem_cons_of_mem _ hr)),fun x hx y hy=>?_⟩;obtain ⟨q,hq,hy⟩:=List.mem_flatMap.mp hy;exact h3 p List.mem_cons_self q (List.mem_cons_of_mem _ hq) (h2'.1 q hq) x hx y hy
theorem qS {α β:Type} {f:α -> List β} {g:β -> Nat} {h:α -> Nat}:∀ l:List α,(∀ p ∈ l,((f p).map g).sum=h p)->((l.flatMap f).map g).sum=(l.map h).sum
 | [],_=>rfl
 | p::l,e=>by
  rw [List.flatMap_cons,List.map_append,List.sum_append,e p List.mem_cons_self,qS l fun q hq=>e q (List.mem_cons_of_mem _ hq),List.map_cons,List.sum_cons]
structure RuledOk (W:Nat) (row:List Nat) (first:List Nat->Nat) (what:List Nat->List V) (xs:List Ruled):Prop where
 rows:∀ x ∈ xs,x.1.length=W/\IsRow x.1
 off:xs.Pairwise fun x y=>Off W x.1 y.1
 size:(xs.map fun x=>2 ^ x.1.count 45).sum=2 ^ row.count 45
 cover:∀ y:List Nat,y.length=W->IsLet y->within y row=true->∃ x ∈ xs,within y x.1=true
 inn:∀ x ∈ xs,∀ y:List Nat,y.length=W->within y x.1=true->within y row=true
 told:∀ x ∈ xs,∀ y:List Nat,y.length=W->IsLet y->within y x.1=true->x.2.1=first y/\x.2.2=what y
theorem GateM.ruled {W a b:Nat} {rs:List Rule} {ws ws':List Way} {FR FW:Fork} (g:GateM W a b rs ws ws' FR FW) {row:List Nat} (hl:row.length=W) (hr:IsRow row):RuledOk W row (firstR rs) (whatL rs ws a b) (ruledP rs ws' FR FW row):=by
 have A:=g.askR;have P:∀ p ∈ cutF FR row (dashes row.length),p.1.length=W/\IsRow p.1:=fun p hp=>bM _ _ _ A hl hr p hp
 have inn:∀ x ∈ ruledP rs ws' FR FW row,∃ p ∈ cutF FR row (dashes row.length),x ∈ doneP rs ws' FW p:=fun x hx=>by
  obtain ⟨p,hp,h⟩:=List.mem_flatMap.mp hx;exact ⟨p,hp,h⟩
 refine ⟨fun x hx=>?_,?_,?_,fun y h1 h2 h3=>?_,fun x hx y h1 h3=>?_,fun x hx y h1 h2 h3=>?_⟩
 ·obtain ⟨p,hp,h⟩:=inn x hx;have:=(g.done (P p hp).1 (P p hp).2).1 x h;exact ⟨this.1,this.2.1⟩
 ·refine qX (fun p hp=>(g.done (P p hp).1 (P p hp).2).2.1) (fP _ _ _ A hl) fun p hp q hq o x hx y hy=>?_
  exact yF o ((g.done (P p hp).1 (P p hp).2).1 x hx).2.2 ((g.done (P q hq).1 (P q hq).2).1 y hy).2.2
 ·unfold ruledP;rw [qS (h:=fun p=>2 ^ p.1.count 45) _ fun p hp=>(g.done (P p hp).1 (P p hp).2).2.2.1];exact c6 _ _ _ A hl
 ·obtain ⟨p,hp,hw⟩:=cY h1 h2 _ _ (dashes row.length) A hl h3;obtain ⟨x,hx,hw⟩:=(g.done (P p hp).1 (P p hp).2).2.2.2.1 y h1 h2 hw;exact ⟨x,List.mem_flatMap.mpr ⟨p,hp,hx⟩,hw⟩
 ·obtain ⟨p,hp,h⟩:=inn x hx;have d:=(g.done (P p hp).1 (P p hp).2).1 x h;exact iH (P p hp).1 hl h1 (dR _ _ _ A hl p hp) (iH d.1 (P p hp).1 h1 d.2.2 h3)
 ·obtain ⟨p,hp,h⟩:=inn x hx;have d:=(g.done (P p hp).1 (P p hp).2);have hin:=iH (d.1 x h).1 (P p hp).1 h1 (d.1 x h).2.2 h3;have e:=bU _ _ _ A hl (aK _ |>.trans hl) hr p hp y h1 hin;have ew:written y (dashes row.length)=y:=by
   have:row.length=y.length:=by omega
   rw [this];unfold written dashes;apply List.ext_getElem
   ·simp
   ·intro i k1 k2;simp [wSign]
  rw [ew,g.first h1 h2] at e;obtain ⟨z1,z2⟩:=d.2.2.2.2 x h y h1 h2 h3 e;exact ⟨z1.trans e.symm,z2⟩
theorem we {α:Type} {R:α -> α -> Prop} {P:α -> Bool}:∀ {l:List α},l.Pairwise R->(∀ x ∈ l,∀ y ∈ l,R x y->P x=true->P y=true->False)->(∃ x ∈ l,P x=true)->∃ x ∈ l,P x=true/\l.filter P=[x]
 | [],_,_,⟨_,h,_⟩=>by cases h
 | x::l,h1,h2,h3=>by
  have h1':=List.pairwise_cons.mp h1;cases e:P x with
  | true=>
   refine ⟨x,List.mem_cons_self,e,?_⟩;rw [List.filter_cons,if_pos e,List.filter_eq_nil_iff.mpr fun y hy z=>h2 x List.mem_cons_self y (List.mem_cons_of_mem _ hy) (h1'.1 y hy) e z]
  | false=>
   obtain ⟨y,hy,h,z⟩:=we h1'.2 (fun a ha b hb=>h2 a (List.mem_cons_of_mem _ ha) b (List.mem_cons_of_mem _ hb)) (by
    obtain ⟨z,hz,hp⟩:=h3;rcases List.mem_cons.mp hz with rfl | hz
    ·rw [e] at hp; cases hp
    ·exact ⟨z,hz,hp⟩)
   exact ⟨y,List.mem_cons_of_mem _ hy,h,by rw [List.filter_cons,e]; exact z⟩
theorem RuledOk.filter {W:Nat} {row:List Nat} {first:List Nat->Nat} {what:List Nat->List V} {xs:List Ruled} (h:RuledOk W row first what xs) {y:List Nat} (hy:y.length=W) (hL:IsLet y):
  (within y row=true->∃ x ∈ xs,within y x.1=true/\xs.filter (fun x=>within y x.1)=[x])/\(within y row=false->xs.filter (fun x=>within y x.1)=[]):=by
 constructor
 ·intro hw;exact we h.off (fun x hx z hz o k1 k2=>xG (h.rows x hx).1 (h.rows z hz).1 hy o k1 k2) (h.cover y hy hL hw)
 ·intro hw;rw [List.filter_eq_nil_iff];intro x hx k;rw [h.inn x hx y hy k] at hw;cases hw
noncomputable abbrev clsG (K:Frag):Addr:=xA K "Gate"
noncomputable def j6 (K:Frag):Sp:=aA fun p=>aA fun t=>aD fun H Q _=>∃ (ls:List Fld) (x:Way) (a b:Nat),Lay H p ls/\ls.length<=1000/\H t=some (.tup [tx x.1,tx x.2])/\spanF ls toT 0=some (a,b)/\a+x.1.length<=widthL ls/\widthL ls<=1000/\∀ H',Same H H'->Q (tx (wRow a (widthL ls) x)) H'
theorem uM (T:Top K mg):Callee P w K mg base 2 "to_row" ["layout", "way"] (j6 K):=by
 refine T.rE.cal oy (by unfold j6; exact LenSp.h) (fun _ _ _ _ _ _ us hl=>match us,hl with | [_,_],_=>rfl) (fun f cdv A outer s H vs Q E hr h=>?_);unfold j6 at h;walk_at "el";refine ⟨_,(ac (ai (i:=2) oy.nd rfl lc (az (ixE K rfl) (ak (nX T) hr.m rfl (aa (qv 0) (aa (qs [116,111]) ab))) ad (fun _ _=>rfl)))
   (af (aq (am aj (am bp (qs [45]) (qv 2)) (ak (sP T) hr.m rfl (aa (qv 1) (aa (am eZ (ak (gQ T) hr.m rfl (aa (qv 0) ab)) (qv 2)) ab))))))),?_⟩
 rename_i p t;obtain ⟨ls,x,a,b,hL,hl,e,esp,h1,h2,q⟩:=h;walk_at "rd";refine ⟨ls,a,b,hL,esp,fun t1 H1 ht1 s1 e1=>?_⟩;refine ⟨_,_,.inr (SqT.of e1),rfl,?_⟩;walk_at "rd";refine ⟨by omega,by omega,ls,hL.same s1,hl,fun H2 s2=>?_⟩;walk_at "rd";refine ⟨x,widthL ls - a,s2 _ _ (s1 _ _ e),by omega,by omega,by omega,?_⟩;have hl2:=mi (n:=widthL ls - a) (x:=x) (by omega);walk_at "rd";refine ⟨by rw [List.length_replicate]; omega,?_⟩;have:=q H2 (s1.trans s2);unfold wRow at this;rw [Int.toNat_natCast];exact this
def RuledAt (H:Hp) (x:Ruled) (v:V):Prop:=∃ t u,v=.ref t/\H t=some (.tup [tx x.1,.int x.2.1,.ref u])/\H u=some (.tup x.2.2)
def Ruleds (H:Hp) (p:Addr) (xs:List Ruled):Prop:=∃ vs,H p=some (.lst vs)/\Paired (RuledAt H) xs vs
theorem ig {H H':Hp} (k:∀ t vs,H t=some (.tup vs)->H' t=some (.tup vs)) {xs:List Ruled} {vs:List V} (h:Paired (RuledAt H) xs vs):Paired (RuledAt H') xs vs:=
 L2.Paired.mapP h fun _ _ ⟨t,u,e,h1,h2⟩=>⟨t,u,e,k _ _ h1,k _ _ h2⟩
def GtAt (K:Frag) (H:Hp) (ga:Addr) (rs:List Rule) (ws:List Way) (FR FW:Fork):Prop:=
 ∃ dx ra wa fr fw,H ga=some (.ins (clsG K) dx (putF "ways_fork" fw (putF "rules_fork" fr (putF "ways" (.ref wa) (putF "rules" (.ref ra) [])))))/\Rules H ra rs/\Ways H wa ws/\FkV H FR fr/\FkV H FW fw
theorem GtAt.same {H H':Hp} {ga:Addr} {rs:List Rule} {ws:List Way} {FR FW:Fork} (h:GtAt K H ga rs ws FR FW) (s:Same H H'):GtAt K H' ga rs ws FR FW:=by
 obtain ⟨dx,ra,wa,fr,fw,h1,h2,h3,h4,h5⟩:=h;exact ⟨dx,ra,wa,fr,fw,s _ _ h1,h2.same s,h3.same s,h4.same s,h5.same s⟩
theorem GateM.lowR {W a b:Nat} {rs:List Rule} {ws ws':List Way} {FR FW:Fork} (g:GateM W a b rs ws ws' FR FW) {row:List Nat} (hl:row.length=W) (hr:IsRow row):∀ p ∈ cutF FR row (dashes W),p.2<=rs.length:=fun p hp=>by
 obtain ⟨k1,k2⟩:=bM _ _ _ g.askR hl hr p hp;have e:=bU _ _ _ g.askR hl (aK W) hr p hp (leastW p.1) (by simp [leastW,k1]) ((bw (W:=W) (by simp [leastW,k1]) k1).mpr fun i _=>oq);rw [g.first (by rw [eV (by simp [leastW,k1,aK])]; simp [leastW,k1]) (mT (mY k2) (rS W))] at e;rw [<- e];exact List.findIdx_le_length
theorem GateM.lowW {W a b:Nat} {rs:List Rule} {ws ws':List Way} {FR FW:Fork} (g:GateM W a b rs ws ws' FR FW) {row over:List Nat} (hl:row.length=W) (hr:IsRow row) (ho:over.length=W) (hor:IsRow over):∀ p ∈ cutF FW row over,p.2<=ws'.length:=fun p hp=>by
 obtain ⟨k1,k2⟩:=bM _ _ _ g.askW hl hr p hp;have e:=bU _ _ _ g.askW hl ho hr p hp (leastW p.1) (by simp [leastW,k1]) ((bw (W:=W) (by simp [leastW,k1]) k1).mpr fun i _=>oq);rw [g.fw,jc (fun r hr=>by
  obtain ⟨x,hx,rfl⟩:=List.mem_map.mp hr;rw [mQ (Nat.le_trans (g.way x hx).1 g.hb),aK]) (by rw [aK,eV (by simp [leastW,k1,ho])]; simp [leastW,k1]) (mT (mY k2) hor) (bu _ _)] at e
 rw [<- e];refine Nat.le_trans List.findIdx_le_length ?_;rw [List.length_map];exact Nat.le_refl _
theorem vC {α:Type} {f:α -> Ruled} {H:Hp} {l:List α} {vs:List V} (h:Paired (fun x v=>RuledAt H (f x) v) l vs):Paired (RuledAt H) (l.map f) vs:=by
 induction h with
 | nil=>exact .nil
 | cons r _ ih=>exact .cons r ih
theorem mW {α:Type} {F:α -> V->Prop} {us:List V}:∀ {l:List α} {vs:List V},l.length=vs.length->Paired (fun x u=>F x.1 u) (l.zip vs) us->Paired F l us
 | [],[],_,h=>by cases h; exact .nil
 | x::l,v::vs,hl,h=>by
  cases h with
  | cons r p=>exact .cons r (mW (by simpa using hl) p)
noncomputable def cb (K:Frag):Sp:=aA fun ga=>be fun r=>bB fun n=>aD fun H Q _=>∃ (W a b k:Nat) (rs:List Rule) (ws ws':List Way) (FR FW:Fork),GtAt K H ga rs ws' FR FW/\GateM W a b rs ws ws' FR FW/\high FW<=12/\W<=1000/\n=(k:Int)/\k<=rs.length/\r.cps.toList.length=W/\IsRow r.cps.toList /\
   ∀ q H',H q=none->Same H H'->Ruleds H' q (doneP rs ws' FW (r.cps.toList,k))->Q (.ref q) H'
theorem iL (T:Top K mg):MCal P w K mg base 19 "Gate" "done_parts" ["self", "row", "number"] (cb K):=by
 refine T.eN.cal ca (by unfold cb; exact LenSp.h) (fun _ _ _ _ _ _ us hl=>match us,hl with | [_,_,_],_=>rfl) (fun f cdv A outer s H vs Q E hr h=>?_);unfold cb at h;walk_at "el";refine ⟨_,(ac (aJ (bx (ak (nJ T) hr.m rfl (aa (jm (qv 0) rfl) (aa (qv 2) ab)))) (af (aq (br (aa (aS (aa (qv 1) (aa (qv 2) (aa (aS (aa (qs [100,114,111,112]) (aa (qv 2) ab))) ab)))) ab)))) av)
   (ac (ai (i:=3) ca.nd rfl lc (az (ixE K rfl) (az (ixE K rfl) (jm (qv 0) rfl) (qv 2) (fun _ _=>rfl)) ad (fun _ _=>rfl)))
   (ac (ai (i:=4) ca.nd rfl lc (ak (iN T) hr.m rfl (aa (jm (qv 0) rfl) (aa (qv 1) (aa (qv 3) ab)))))
   (af (aq (aX (nt:=2) (fi:=[2,3,0]) (N':=["part", "its", "number", "over", "self"]) rfl (cscope rfl (by decide +kernel)) (cnames (N:=["self", "row", "number", "over", "parts"]) (sc:=defScope aT) rfl rfl (by decide +kernel)) (dL (by decide) (by decide)) (iterE K rfl (qv 4)) (fun _ _ _ _ _=>(tupE K rfl rfl (n:=2) (ap (ag (i:=0) (by show (["part", "its", "number", "over", "self"]:List Str).Nodup; decide +kernel) rfl lc) (ap (ag (i:=1) (by show (["part", "its", "number", "over", "self"]:List Str).Nodup; decide +kernel) rfl lc) aP)))) (fun _ _ _ _ _=>aM) (fun _ _ _ _ _=>(aS (aa (qv 0) (aa (qv 2) (aa (ak (rP T) hr.m rfl (aa (ak (sD T) hr.m rfl (aa (yY K rfl (qv 4) rfl) (aa (qv 1) ab))) (aa (qv 3) ab))) ab))))))))))),?_⟩
 rename_i ga r n;obtain ⟨r,rfl⟩:∃ x,r=st x:=⟨_,(aF r).symm⟩;obtain ⟨W,a,b,k,rs,ws,ws',FR,FW,hG,M,h12,hW,rfl,hk,hl,hrow,q⟩:=h;simp only [ar] at hl hrow q;obtain ⟨dx,ra,wa,fr,fw,eg,hR,hWs,hFR,hFW⟩:=id hG;walk_at "rd";refine ⟨ga,_,dx,_,_,rfl,eg,T.c_Gate.c,T.a_Gate_rules,rfl,rs,k,hR,rfl,hk,ite2 (fun g=>?_) fun g=>?_⟩
 ·refine ⟨by decide,fun t1 ht1=>⟨by decide,fun t2 ht2=>⟨by decide,fun l hl=>?_⟩⟩⟩;have s1:=ae ht1 (.tup [tx dropT,V.int k]);have s2:=ae ht2 (.tup [tx r,V.int k,V.ref t1]);have s3:=ae hl (.lst [V.ref t2]);refine q l _ ((s1.trans s2).free hl) (s1.trans (s2.trans s3)) ?_;unfold doneP;rw [if_pos g];exact ⟨_,upd_same,.cons ⟨t2,t1,rfl,s3 _ _ upd_same,s3 _ _ (s2 _ _ upd_same)⟩ .nil⟩
 have g:dropB rs k=false:=by simpa using g
 obtain ⟨hn,ho,hor⟩:=M.over g;obtain ⟨vs,e0,pr⟩:=hR;obtain ⟨y,hy,t',ey,et⟩:=aN pr (List.getElem?_eq_getElem hn);subst ey;have eo:overR rs k=rs[k].2.2:=by unfold overR; rw [List.getElem?_eq_getElem hn]; rfl
 refine ⟨ga,_,dx,_,_,rfl,eg,T.c_Gate.c,T.a_Gate_rules,rfl,vs,_,.inl (SqL.of e0),bR hy,?_⟩;walk_at "rd";refine ⟨_,_,.inr (SqT.of et),rfl,?_⟩;rw [<- eo];walk_at "rd";refine ⟨ga,_,dx,_,_,rfl,eg,T.c_Gate.c,T.a_Gate_ways_fork,rfl,FW,W,hFW,by omega,h12,M.askW,by simpa using hl,by simpa using ho,hW,fun pq H1 f1 s1 u1=>?_⟩;simp only [ar] at u1;have hfew:=c9 FW r (overR rs k);have hp12:2 ^ high FW<=2 ^ 12:=Nat.pow_le_pow_right (by decide) h12;have low:=M.lowW hl hrow ho hor;generalize hxs:cutF FW r (overR rs k)=xs at u1 low hfew;obtain ⟨pv,e1,pp⟩:=u1;have lp:=pp.length;have hS:SqL K H1 pq ((xs.zip pv).map Prod.snd):=by rw [List.map_snd_zip (by omega)]; exact SqL.of e1
 walk_at "rd";refine .inl ⟨⟨_,hS⟩,fun D hD=>?_⟩;refine mo (K:=K) Prod.snd (xs.zip pv) (fun _=>true) (fun x v H'=>RuledAt H' (x.1.1,k,sentV (doorN ws' x.1.2) (overR rs k)) v) hD hS (by rw [List.length_zip]; omega) ?_ ?_ ?_
 ·rintro x v H6 H7 acc hd kk ⟨t,u,e,h1,h2⟩;exact ⟨t,u,e,kk _ _ (fun z=>by subst z; rw [hd] at h1; cases h1) h1,kk _ _ (fun z=>by subst z; rw [hd] at h2; cases h2) h2⟩
 ·rintro ⟨x,v⟩ H6 out non hm s6 ho' _;obtain ⟨t,rfl,et⟩:=bV pp _ hm;refine ⟨t,[tx x.1,.int x.2],rfl,SqT.of (s6 _ _ et),rfl,tx x.1,[.int x.2],rfl,.int x.2,[],rfl,rfl,?_⟩;walk_at "rd";have s16:=s1.trans s6;refine ⟨ga,_,dx,_,_,rfl,s16 _ _ eg,T.c_Gate.c,T.a_Gate_ways,rfl,ws',x.2,hWs.same s16,rfl,low x (List.of_mem_zip hm).1,?_⟩;refine ⟨_,rfl,fun t2 H7 ht2 s7 e7=>⟨by decide,fun t3 ht3=>?_⟩⟩;simp only [ar] at e7;exact ho' _ _ rfl (s7.trans (ae ht3 _)) ⟨t3,t2,rfl,upd_same,ae ht3 _ _ _ e7⟩
 intro H4 us s4 e4 pr4;rw [List.filter_eq_self.mpr fun _ _=>rfl] at pr4;refine q D H4 (s1.free hD) (s1.trans s4) ⟨us,e4,?_⟩;unfold doneP;rw [g,if_neg (by decide)];dsimp only;rw [hxs];exact vC (f:=fun c:Pr=>(c.1,k,sentV (doorN ws' c.2) (overR rs k))) (mW (F:=fun (x:Pr) v=>RuledAt H4 (x.1,k,sentV (doorN ws' x.2) (overR rs k)) v) lp pr4)
noncomputable def hole (g:Addr) (H:Hp):Hp:=fun b=>if b=g then none else H b
theorem ub {g:Addr} {H:Hp}:hole g H g=none:=if_pos rfl
theorem lL {g b:Addr} {H:Hp} (n:b≠g):hole g H b=H b:=if_neg n
theorem vi {g:Addr} {H:Hp}:Same (hole g H) H:=fun b o e=>by
 by_cases n:b=g
 ·rw [n,ub] at e; cases e
 ·rw [lL n] at e; exact e
theorem uR {g:Addr} {H0 H:Hp} (s:Same H0 H) (h:H0 g=none):Same H0 (hole g H):=fun b o e=>by
 rw [lL (fun n=>by rw [n,h] at e; cases e)];exact s b o e
theorem mZ {rs:List Rule} {ws:List Way} {FW:Fork} (p:Pr):(doneP rs ws FW p).length<=2 ^ high FW:=by
 unfold doneP;split
 ·exact Nat.one_le_two_pow
 ·rw [List.length_map];exact c9 _ _ _
theorem l0 {α β:Type} {f:α -> List β} {n:Nat}:∀ l:List α,(∀ x ∈ l,(f x).length<=n)->(l.flatMap f).length<=l.length*n
 | [],_=>Nat.zero_le _
 | x::l,h=>by
  have:=l0 l fun y hy=>h y (List.mem_cons_of_mem _ hy)
  have:=h x List.mem_cons_self;rw [List.flatMap_cons,List.length_append,List.length_cons,Nat.succ_mul];omega
theorem uQ {rs:List Rule} {ws:List Way} {FR FW:Fork} (row:List Nat):(ruledP rs ws FR FW row).length<=2 ^ high FR*2 ^ high FW:=by
 unfold ruledP;exact Nat.le_trans (l0 _ fun p _=>mZ p) (Nat.mul_le_mul_right _ (c9 _ _ _))
noncomputable def bS (K:Frag):Sp:=aA fun ga=>be fun r=>aD fun H Q _=>∃ (W a b:Nat) (rs:List Rule) (ws ws':List Way) (FR FW:Fork),GtAt K H ga rs ws' FR FW/\GateM W a b rs ws ws' FR FW/\high FR<=12/\high FW<=12/\W<=1000/\r.cps.toList.length=W/\IsRow r.cps.toList /\
   ∀ q H',H q=none->Same H H'->Ruleds H' q (ruledP rs ws' FR FW r.cps.toList)->Q (.ref q) H'
theorem iq (T:Top K mg):MCal P w K mg base 20 "Gate" "ruled_parts" ["self", "row"] (bS K):=by
 refine T.dH.cal bC (by unfold bS; exact LenSp.h) (fun _ _ _ _ _ _ us hl=>match us,hl with | [_,_],_=>rfl) (fun f cdv A outer s H vs Q E hr h=>?_);unfold bS at h;walk_at "el";refine ⟨_,(ac (ai (i:=2) bC.nd rfl lc (br ab))
   (ac (bf PassesOwn.never rfl (iterE K rfl (ak (iN T) hr.m rfl (aa (jm (qv 0) rfl) (aa (qv 1) (aa (am bp (qs [45]) (au (lenE K rfl) rfl T.bc aL (aa (qv 1) ab))) ab))))) (tupE K rfl rfl (n:=2) (ap (ag (i:=3) bC.nd rfl lc) (ap (ag (i:=4) bC.nd rfl lc) aP))) (af (bQ (vj (qv 2) (pC T.c_Gate (iL T) hr.m (qv 0) (aa (qv 3) (aa (qv 4) ab)))))))
   (af (aq (qv 2))))),?_⟩
 rename_i ga r;obtain ⟨r,rfl⟩:∃ x,r=st x:=⟨_,(aF r).symm⟩;obtain ⟨W,a,b,rs,ws,ws',FR,FW,hG,M,h12r,h12,hW,hl,hrow,q⟩:=h;simp only [ar] at hl hrow q;obtain ⟨dx,ra,wa,fr,fw,eg,hR,hWs,hFR,hFW⟩:=id hG;have hp12:2 ^ high FW<=2 ^ 12:=Nat.pow_le_pow_right (by decide) h12;have hp12r:2 ^ high FR<=2 ^ 12:=Nat.pow_le_pow_right (by decide) h12r;walk_at "rd";refine ⟨Nat.zero_le _,fun g hg=>?_⟩;have s0:=ae hg (.lst []);refine ⟨ga,_,dx,_,_,rfl,s0 _ _ eg,T.c_Gate.c,T.a_Gate_rules_fork,rfl,by omega,by omega,by omega,?_⟩;rw [Int.toNat_natCast];refine ⟨FR,W,hFR.same s0,by omega,h12r,M.askR,by simpa using hl,by simpa using hl,hW,fun pq H1 f1 s1 u1=>?_⟩;simp only [ar] at u1;have low:=M.lowR hl hrow;have P:∀ p ∈ cutF FR r (dashes W),p.1.length=W/\IsRow p.1:=fun p hp=>bM _ _ _ M.askR hl hrow p hp
 have hfew:=c9 FR r (dashes W);have e2:ruledP rs ws' FR FW r=(cutF FR r (dashes W)).flatMap (doneP rs ws' FW):=by unfold ruledP; rw [hl]
 rw [e2] at q;have u1:Pairs H1 pq (cutF FR r (dashes W)):=by
  rw [<- hl];exact u1
 generalize hxs:cutF FR r (dashes W)=xs at u1 low P hfew q;obtain ⟨pv,e1,pp⟩:=u1;have lp:=pp.length;have s01:=s0.trans s1;have eg1:H1 g=some (.lst []):=s1 _ _ upd_same;have npg:pq≠g:=fun z=>by rw [z,upd_same] at f1; cases f1
 have sG:Same H (hole g H1):=uR s01 hg;have eG:hole g H1 pq=some (.lst pv):=by rw [lL npg]; exact e1
 have pG:Paired (PairAt (hole g H1)) xs pv:=L2.Paired.mapP pp fun _ _ ⟨t,e,q⟩=>⟨t,e,by rw [lL (fun z=>by rw [z,eg1] at q; cases q)]; exact q⟩
 refine .inl ⟨⟨_,SqL.of e1⟩,?_⟩;refine bN (xs:=pv) (fun i σ H'=>∃ u3 u4,σ = [some (.ref ga),some (.str (st r)),some (.ref g),u3,u4]/\Same (hole g H1) H'/\Ruleds H' g ((xs.take i).flatMap (doneP rs ws' FW))) ⟨none,none,rfl,vi,⟨[],eg1,.nil⟩⟩ (fun i σ H' _ ⟨_,_,_,z,_⟩=>SqL.of (z _ _ eG)) ?_ ?_
 ·rintro i x σ H2 hx ⟨u3,u4,rfl,s2,⟨us,e3,p3⟩⟩;have hi:i < pv.length:=(List.getElem?_eq_some_iff.mp hx).1;have hil:i < xs.length:=by omega
  obtain ⟨y,hy,t,ey,et⟩:=aN pG (List.getElem?_eq_getElem hil);obtain rfl:x=.ref t:=by rw [hy] at hx; rw [<- Option.some.inj hx,ey]
  have hm:=List.getElem_mem hil;refine ⟨t,[_,_],rfl,SqT.of (s2 _ _ et),rfl,_,[_],rfl,_,[],rfl,rfl,?_⟩;walk_at "rd";have s02:=sG.trans s2;refine ⟨⟨_,e3⟩,ga,dx,_,rfl,s02 _ _ eg,rfl,W,a,b,xs[i].2,rs,ws,ws',FR,FW,hG.same s02,M,h12,hW,rfl,low _ hm,by simpa using (P _ hm).1,by simpa using (P _ hm).2,fun z H3 f3 s3 R3=>?_⟩;simp only [ar] at R3;obtain ⟨zs,e4,p4⟩:=R3;have l3:=p3.length;have l4:=p4.length;have b3:=l0 (f:=doneP rs ws' FW) (n:=2 ^ 12) (xs.take i) fun p _=>Nat.le_trans (mZ p) hp12
  have b4:=Nat.le_trans (mZ (rs:=rs) (ws:=ws') (FW:=FW) xs[i]) hp12;have b5:(xs.take i).length=i:=by rw [List.length_take]; omega
  have l4:(doneP rs ws' FW xs[i]).length=zs.length:=l4;rw [b5] at b3;have b6:i*2 ^ 12<=4095*2 ^ 12:=Nat.mul_le_mul_right _ (by omega);have e5:=s3 _ _ e3;refine ⟨us,zs,e5,e4,by rw [sizeLine_eq]; omega,_,_,rfl,aH (s2.trans s3) ub,⟨_,upd_same,?_⟩⟩;rw [List.take_add_one,List.getElem?_eq_getElem hil,Option.toList_some,List.flatMap_append];refine i3 (ig (cg e5) (ig (fun t vs z=>s3 _ _ z) p3)) ?_;rw [List.flatMap_cons,List.flatMap_nil,List.append_nil];exact ig (cg e5) p4
 ·rintro σ H2 ⟨u3,u4,rfl,s2,R2⟩;rw [<- lp,List.take_length] at R2;walk_at "rd";exact q g H2 hg (sG.trans s2) R2
def WhatAt (H:Hp) (x:Ruled) (v:V):Prop:=∃ t u,v=.ref t/\H t=some (.tup [tx x.1,.ref u])/\H u=some (.tup x.2.2)
def Whats (H:Hp) (p:Addr) (xs:List Ruled):Prop:=∃ vs,H p=some (.lst vs)/\Paired (WhatAt H) xs vs
noncomputable def cQ (K:Frag):Sp:=aA fun ga=>be fun r=>aD fun H Q _=>∃ (W a b:Nat) (rs:List Rule) (ws ws':List Way) (FR FW:Fork),GtAt K H ga rs ws' FR FW/\GateM W a b rs ws ws' FR FW/\high FR<=12/\high FW<=12/\W<=1000/\r.cps.toList.length=W/\IsRow r.cps.toList/\(ruledP rs ws' FR FW r.cps.toList).length<=100000 /\
   ∀ q H',H q=none->Same H H'->Whats H' q (ruledP rs ws' FR FW r.cps.toList)->Q (.ref q) H'
theorem jR (T:Top K mg):MCal P w K mg base 21 "Gate" "parts_of" ["self", "row"] (cQ K):=by
 refine T.fS.cal jz (by unfold cQ; exact LenSp.h) (fun _ _ _ _ _ _ us hl=>match us,hl with | [_,_],_=>rfl) (fun f cdv A outer s H vs Q E hr h=>?_);unfold cQ at h;walk_at "el";refine ⟨_,(af (aq (aX (nt:=3) (fi:=[]) (N':=["part", "number", "what"]) rfl (cscope rfl (by decide +kernel)) (cnames (N:=["self", "row"]) (sc:=defScope bi) rfl rfl (by decide +kernel)) (xH (by decide) (by decide) (by decide)) (iterE K rfl (pC T.c_Gate (iq T) hr.m (qv 0) (aa (qv 1) ab))) (fun _ _ _ _ _=>(tupE K rfl rfl (n:=3) (ap (ag (i:=0) (by show (["part", "number", "what"]:List Str).Nodup; decide +kernel) rfl lc) (ap (ag (i:=1) (by show (["part", "number", "what"]:List Str).Nodup; decide +kernel) rfl lc) (ap (ag (i:=2) (by show (["part", "number", "what"]:List Str).Nodup; decide +kernel) rfl lc) aP))))) (fun _ _ _ _ _=>aM) (fun _ _ _ _ _=>(aS (aa (qv 0) (aa (qv 2) ab))))))),?_⟩;rename_i ga r;obtain ⟨W,a,b,rs,ws,ws',FR,FW,hG,M,h12r,h12,hW,hl,hrow,hfew,q⟩:=h;obtain ⟨dx,ra,wa,fr,fw,eg,hR,hWs,hFR,hFW⟩:=id hG;walk_at "rd";refine ⟨ga,dx,_,rfl,eg,rfl,W,a,b,rs,ws,ws',FR,FW,hG,M,h12r,h12,hW,hl,hrow,fun pq H1 f1 s1 R1=>?_⟩;generalize ruledP rs ws' FR FW r.cps.toList=xs at q hfew R1;obtain ⟨pv,e1,pp⟩:=R1;have lp:=pp.length;have hS:SqL K H1 pq ((xs.zip pv).map Prod.snd):=by rw [List.map_snd_zip (by omega)]; exact SqL.of e1
 refine .inl ⟨⟨_,hS⟩,fun D hD=>?_⟩;refine mo (K:=K) Prod.snd (xs.zip pv) (fun _=>true) (fun x v H'=>WhatAt H' x.1 v) hD hS (by rw [List.length_zip]; omega) ?_ ?_ ?_
 ·rintro x v H6 H7 acc hd kk ⟨t,u,e,h1,h2⟩;exact ⟨t,u,e,kk _ _ (fun z=>by subst z; rw [hd] at h1; cases h1) h1,kk _ _ (fun z=>by subst z; rw [hd] at h2; cases h2) h2⟩
 ·rintro ⟨x,v⟩ H6 out non hm s6 ho' _;obtain ⟨t,u,rfl,et,eu⟩:=bV pp _ hm;refine ⟨t,[tx x.1,.int x.2.1,.ref u],rfl,SqT.of (s6 _ _ et),rfl,_,[_,_],rfl,_,[_],rfl,_,[],rfl,rfl,?_⟩;walk_at "rd";exact ⟨by decide,fun t3 ht3=>ho' _ _ rfl (ae ht3 _) ⟨t3,u,rfl,upd_same,ae ht3 _ _ _ (s6 _ _ eu)⟩⟩
 intro H4 us s4 e4 pr4;rw [List.filter_eq_self.mpr fun _ _=>rfl] at pr4;exact q D H4 (s1.free hD) (s1.trans s4) ⟨us,e4,mW lp pr4⟩
structure GateI (ls:List Fld) (rs:List Rule) (ws:List Way) (a b:Nat):Prop where
 wide:widthL ls<=1000
 few:ls.length<=1000
 to:spanF ls toT 0=some (a,b)
 hb:b<=widthL ls
 rows:∀ r ∈ rs,r.1.length=widthL ls/\r.2.2.length=widthL ls/\IsRow r.2.2
 rl:rs.length<=500
 ra:(asked (rs.map fun x=>x.1) (dashes (widthL ls))).length<=5
 way:∀ x ∈ ws,a+x.1.length<=b/\IsLet x.1/\x.1.length<=8
 wl:ws.length < 64
 nd:(ws.map fun x=>x.1).Nodup
theorem cj {H:Hp} {g C dx:Addr} {fs:List (Str × V)} {o:HO} (h:H g=some (.ins C dx fs)):∀ t vs,H t=some (.tup vs)->upd H g o t=some (.tup vs):=fun t vs q=>by
 rw [ao (fun e=>by rw [e,h] at q; cases q)];exact q
theorem cW {H:Hp} {g C dx:Addr} {fs:List (Str × V)} {o:HO} (h:H g=some (.ins C dx fs)):∀ t vs,H t=some (.lst vs)->upd H g o t=some (.lst vs):=fun t vs q=>by
 rw [ao (fun e=>by rw [e,h] at q; cases q)];exact q
theorem FkV.keep {H H':Hp} (k:∀ t vs,H t=some (.tup vs)->H' t=some (.tup vs)):∀ {F:Fork} {v:V},FkV H F v->FkV H' F v
 | .leaf _,_,h=>h
 | .ask _ _ _,_,⟨t,x,y,e,h,h1,h2⟩=>⟨t,x,y,e,k _ _ h,FkV.keep k h1,FkV.keep k h2⟩
theorem Ways.keep {H H':Hp} {p:Addr} {ws:List Way} (h:Ways H p ws) (k:∀ t vs,H t=some (.tup vs)->H' t=some (.tup vs)) (kl:∀ t vs,H t=some (.lst vs)->H' t=some (.lst vs)):Ways H' p ws:=by
 obtain ⟨vs,e,pr⟩:=h;exact ⟨vs,kl _ _ e,ku k pr⟩
theorem mL:∀ (l:List Rule) (m:List V),l.length=m.length->((l.zip m).flatMap fun pr=>[tx pr.1.1])=(l.map fun x=>x.1).map tx
 | [],_,_=>rfl
 | x::l,[],h=>by cases h
 | x::l,v::m,h=>by
  rw [List.zip_cons_cons,List.flatMap_cons,mL l m (by simpa using h)];rfl
theorem oE (a n:Nat):∀ (l:List Way) (m:List V),l.length=m.length->((l.zip m).flatMap fun pr=>[tx (wRow a n pr.1)])=(l.map (wRow a n)).map tx
 | [],_,_=>rfl
 | x::l,[],h=>by cases h
 | x::l,v::m,h=>by
  rw [List.zip_cons_cons,List.flatMap_cons,oE a n l m (by simpa using h)];rfl
theorem mU {ws:List Way} {a b W:Nat} (hb:b<=W) (hw:∀ x ∈ ws,a+x.1.length<=b/\IsLet x.1/\x.1.length<=8):(asked (ws.map (wRow a W)) (dashes W)).length<=8:=by
 have:=pO (asked (ws.map (wRow a W)) (dashes W)) ((List.range 8).map (a+·)) ?_ fun i hi=>?_
 ·simpa using this
 ·unfold asked;exact (List.Pairwise.filter _ (iO _ _)).imp fun h=>Nat.ne_of_lt h
 ·have hlt:=(eF hi).1;rw [aK] at hlt;obtain ⟨r,hr,h45⟩:=List.any_eq_true.mp (List.mem_filter.mp (List.mem_filter.mp hi).1).2;obtain ⟨q,hq,rfl⟩:=List.mem_map.mp hr;have hq1:=List.fst_mem_of_mem_zipIdx (List.mem_filter.mp hq).1;have d45:(dashes W).getD i 0=45:=lI hlt;rcases List.mem_append.mp hq1 with z | z
  ·obtain ⟨x,hx,e⟩:=List.mem_map.mp z;obtain ⟨k1,k2,k3⟩:=hw x hx;rw [List.mem_map];have hnd:(wRow a W x).getD i 0≠45:=by rw [e]; simpa using h45
   rcases Nat.lt_or_ge i a with g1 | g1
   ·exfalso;apply hnd;unfold wRow;rw [List.getD_eq_getElem?_getD,List.getElem?_append_left (by rw [aK]; exact g1),<- List.getD_eq_getElem?_getD,lI g1]
   ·rcases Nat.lt_or_ge i (a+x.1.length) with g2 | g2
    ·exact ⟨i - a,List.mem_range.mpr (by omega),by omega⟩
    ·exfalso;apply hnd;unfold wRow;rw [List.getD_eq_getElem?_getD,List.getElem?_append_right (by rw [aK]; exact g1),<- List.getD_eq_getElem?_getD,aK,sZ (by omega) (by omega)]
  ·rw [List.mem_singleton.mp z,aK,d45] at h45;exact absurd h45 (by decide)
noncomputable def cD (K:Frag):Sp:=aA fun ga=>aA fun p=>aA fun t=>be fun d=>aD fun H Q _=>∃ (G:Hp) (dx c TT:Addr) (a b:Nat) (ls:List Fld) (hs:House) (rs:List Rule),Same G H/\G ga=none/\H ga=some (.ins (clsG K) dx [])/\Lay G p ls/\HouseAt G t hs/\gateOf hs.1 d.cps.toList=some rs/\GateI ls rs hs.2 a b/\PySem.W.tabIn K "longest_first" = some (c,TT)/\G TT=some (.tbl #[]) /\
   ∀ ws' FR FW H',Same G H'->GtAt K H' ga rs ws' FR FW->GateM (widthL ls) a b rs hs.2 ws' FR FW->high FR<=5->high FW<=8->Q .non H'
theorem jw (T:Top K mg):KCal P w K mg base 21 "Gate" ["self", "layout", "house", "door"] (cD K):=by
 refine T.fU.cal eX (by unfold cD; exact LenSp.h) (fun _ _ _ _ _ _ us hl=>match us,hl with | [_,_,_,_],_=>rfl) (fun f cdv A outer s H vs Q E hr h=>?_);unfold cD at h;walk_at "el";refine ⟨_,(ac (pi (qv 0) (ak (nM T) hr.m rfl (aa (qv 2) (aa (qv 3) ab))) rfl)
   (ac (pi (qv 0) (ak (j9 T) hr.m rfl (aa (az (ixE K rfl) (qv 2) ad (fun _ _=>rfl)) ab)) rfl)
   (ac (ai (i:=4) eX.nd rfl lc (am bp (qs [45]) (ak (gQ T) hr.m rfl (aa (qv 1) ab))))
   (ac (pi (qv 0) (ak (mO T) hr.m rfl (aa (aX (nt:=1) (fi:=[]) (N':=["rule"]) rfl (cscope rfl (by decide +kernel)) (cnames (N:=["self", "layout", "house", "door", "every"]) (sc:=defScope aU) rfl rfl (by decide +kernel)) (aY (by decide)) (iterE K rfl (jm (qv 0) rfl)) (fun _ _ _ _ _=>(ag (i:=0) (by show (["rule"]:List Str).Nodup; decide +kernel) rfl lc)) (fun _ _ _ _ _=>aM) (fun _ _ _ _ _=>(az (ixE K rfl) (qv 0) ad (fun _ _=>rfl)))) (aa (qv 4) ab))) rfl)
   (af (pi (qv 0) (ak (mO T) hr.m rfl (aa (aX (nt:=1) (fi:=[1]) (N':=["way", "layout"]) rfl (cscope rfl (by decide +kernel)) (cnames (N:=["self", "layout", "house", "door", "every"]) (sc:=defScope aU) rfl rfl (by decide +kernel)) (aY (by decide)) (iterE K rfl (jm (qv 0) rfl)) (fun _ _ _ _ _=>(ag (i:=0) (by show (["way", "layout"]:List Str).Nodup; decide +kernel) rfl lc)) (fun _ _ _ _ _=>aM) (fun _ _ _ _ _=>(ak (uM T) hr.m rfl (aa (qv 1) (aa (qv 0) ab))))) (aa (qv 4) ab))) rfl)))))),?_⟩
 rename_i ga p t d;obtain ⟨G,dx,c,TT,a,b,ls,hs,rs,sG,hga,eg,hL,hH,hgr,I,ht,hT,q⟩:=h;have w1:=I.wide;have w2:=I.few;walk_at "rd";refine ⟨hs,rs,hH.same sG,hgr,fun ra H1 s1 R1=>?_⟩;refine ⟨ga,_,dx,[],rfl,s1 _ _ eg,T.c_Gate.c,T.a_Gate_rules,by decide,?_⟩;have s2:Same G (upd H1 ga (.ins (clsG K) dx (putF "rules" (.ref ra) []))):=aH (sG.trans s1) hga;have R2:Rules (upd H1 ga (.ins (clsG K) dx (putF "rules" (.ref ra) []))) ra rs:=by
  obtain ⟨vs,e,pr⟩:=R1;exact ⟨vs,cW (s1 _ _ eg) _ _ e,cz (cj (s1 _ _ eg)) pr⟩
 have e2:upd H1 ga (.ins (clsG K) dx (putF "rules" (.ref ra) [])) ga=_:=upd_same;generalize upd H1 ga (.ins (clsG K) dx (putF "rules" (.ref ra) []))=H2 at s2 R2 e2 ⊢;obtain ⟨g0,w0,eh,hg,hw⟩:=hH.same s2;refine ⟨_,_,.inr (SqT.of eh),rfl,?_⟩;walk_at "rd";refine ⟨hs.2,hw,I.wl,fun x hx=>by have:=(I.way x hx).2.2; omega,c,TT,ht,s2 _ _ hT,fun wa H3 ws' f3 s3 W3 hp hd=>?_⟩;have e3:=s3 _ _ e2;refine ⟨ga,_,dx,_,rfl,e3,T.c_Gate.c,T.a_Gate_ways,by show 1 < 1000; decide,?_⟩;have s4:Same G (upd H3 ga (.ins (clsG K) dx (putF "ways" (.ref wa) (putF "rules" (.ref ra) [])))):=aH (s2.trans s3) hga;have R4:Rules (upd H3 ga (.ins (clsG K) dx (putF "ways" (.ref wa) (putF "rules" (.ref ra) [])))) ra rs:=by
  obtain ⟨vs,e,pr⟩:=R2.same s3;exact ⟨vs,cW e3 _ _ e,cz (cj e3) pr⟩
 have W4:Ways (upd H3 ga (.ins (clsG K) dx (putF "ways" (.ref wa) (putF "rules" (.ref ra) [])))) wa ws':=W3.keep (cj e3) (cW e3);have e4:upd H3 ga (.ins (clsG K) dx (putF "ways" (.ref wa) (putF "rules" (.ref ra) []))) ga=_:=upd_same;generalize upd H3 ga (.ins (clsG K) dx (putF "ways" (.ref wa) (putF "rules" (.ref ra) [])))=H4 at s4 R4 W4 e4 ⊢;refine ⟨ls,hL.same s4,w2,fun H5 s5=>?_⟩;have e5:=s5 _ _ e4;have s05:=s4.trans s5;have R5:=R4.same s5;have W5:=W4.same s5;walk_at "rd";refine ⟨by omega,by omega,?_⟩;rw [Int.toNat_natCast];obtain ⟨rv,er,pr⟩:=id R5;have lr:=pr.length;have hrl:=I.rl;have hS:SqL K H5 ra ((rs.zip rv).map Prod.snd):=by rw [List.map_snd_zip (by omega)]; exact SqL.of er
 refine ⟨ga,_,dx,_,_,rfl,e5,T.c_Gate.c,T.a_Gate_rules,rfl,.inl ⟨⟨_,hS⟩,fun D hD=>?_⟩⟩;refine aW (item:=Prod.snd) (xs:=rs.zip rv) (h:=fun x=>[tx x.1.1]) hD hS (by rw [List.length_zip]; omega) (fun _=>by simp) ?_ ?_
 ·rintro ⟨x,v⟩ H6 out non hm s6 ho hno;obtain ⟨t1,rfl,et⟩:=bV pr _ hm;walk_at "rd";exact ⟨_,_,.inr (SqT.of (s6 _ _ et)),rfl,ho _ _ rfl (Same.refl _)⟩
 intro H6 s6 e6;rw [mL _ _ lr] at e6;refine ⟨rs.map fun x=>x.1,e6,fun x hx=>?_,by simp; omega,by rw [List.length_map]; omega,?_,fun fr H7 s7 F7=>?_⟩
 ·obtain ⟨y,hy,rfl⟩:=List.mem_map.mp hx;rw [(I.rows y hy).1];simp
 ·have:=I.ra;simp only [ar];exact Nat.le_trans this (by decide)
 simp only [ar] at F7;have F7:FkV H7 (forkOf (rs.map fun x=>x.1) (dashes (widthL ls))) fr:=F7;have s07:=s05.trans (s6.trans s7);have s57:=s6.trans s7;have e7:=s57 _ _ e5;refine ⟨ga,_,dx,_,rfl,e7,T.c_Gate.c,T.a_Gate_rules_fork,by show 2 < 1000; decide,?_⟩;have s8:Same G (upd H7 ga (.ins (clsG K) dx (putF "rules_fork" fr (putF "ways" (.ref wa) (putF "rules" (.ref ra) []))))):=aH s07 hga;have R8:Rules (upd H7 ga (.ins (clsG K) dx (putF "rules_fork" fr (putF "ways" (.ref wa) (putF "rules" (.ref ra) []))))) ra rs:=by
  obtain ⟨vs,e,pr⟩:=R5.same s57;exact ⟨vs,cW e7 _ _ e,cz (cj e7) pr⟩
 have W8:Ways (upd H7 ga (.ins (clsG K) dx (putF "rules_fork" fr (putF "ways" (.ref wa) (putF "rules" (.ref ra) []))))) wa ws':=(W5.same s57).keep (cj e7) (cW e7);have F8:FkV (upd H7 ga (.ins (clsG K) dx (putF "rules_fork" fr (putF "ways" (.ref wa) (putF "rules" (.ref ra) []))))) (forkOf (rs.map fun x=>x.1) (dashes (widthL ls))) fr:=F7.keep (cj e7);have e8:upd H7 ga (.ins (clsG K) dx (putF "rules_fork" fr (putF "ways" (.ref wa) (putF "rules" (.ref ra) [])))) ga=_:=upd_same;generalize upd H7 ga (.ins (clsG K) dx (putF "rules_fork" fr (putF "ways" (.ref wa) (putF "rules" (.ref ra) []))))=H8 at s8 R8 W8 F8 e8 ⊢;obtain ⟨wv,ew,pw⟩:=id W8;have lw:=pw.length;have hwl:=hp.length_eq;have hwl2:=I.wl;have hway:∀ x ∈ ws',a+x.1.length<=b/\IsLet x.1/\x.1.length<=8:=fun x hx=>I.way x (hp.mem_iff.mp hx)
 have hb:=I.hb;have hS8:SqL K H8 wa ((ws'.zip wv).map Prod.snd):=by rw [List.map_snd_zip (by omega)]; exact SqL.of ew
 refine ⟨ga,_,dx,_,_,rfl,e8,T.c_Gate.c,T.a_Gate_ways,rfl,.inl ⟨⟨_,hS8⟩,fun D2 hD2=>?_⟩⟩;refine aW (item:=Prod.snd) (xs:=ws'.zip wv) (h:=fun x=>[tx (wRow a (widthL ls) x.1)]) hD2 hS8 (by rw [List.length_zip]; omega) (fun _=>by simp) ?_ ?_
 ·rintro ⟨x,v⟩ H9 out non hm s9 ho hno;obtain ⟨t1,rfl,et⟩:=bV pw _ hm;have hx:=hway x (List.of_mem_zip hm).1;walk_at "rd";exact ⟨ls,x,a,b,hL.same (s8.trans s9),w2,s9 _ _ et,I.to,by omega,w1,fun H10 s10=>ho _ _ rfl s10⟩
 intro H9 s9 e9;rw [oE _ _ _ _ lw] at e9;refine ⟨ws'.map (wRow a (widthL ls)),e9,fun x hx=>?_,by simp; omega,by rw [List.length_map]; omega,?_,fun fw H10 s10 F10=>?_⟩
 ·obtain ⟨y,hy,rfl⟩:=List.mem_map.mp hx;rw [mQ (by have:=(hway y hy).1; omega)];simp
 ·simp only [ar];exact Nat.le_trans (mU hb hway) (by decide)
 simp only [ar] at F10;have F10:FkV H10 (forkOf (ws'.map (wRow a (widthL ls))) (dashes (widthL ls))) fw:=F10;have s810:=s9.trans s10;have e10:=s810 _ _ e8;refine ⟨ga,_,dx,_,rfl,e10,T.c_Gate.c,T.a_Gate_ways_fork,by show 3 < 1000; decide,?_⟩;refine q ws' _ _ _ (aH (s8.trans s810) hga) ⟨dx,ra,wa,fr,fw,upd_same,?_,(W8.same s810).keep (cj e10) (cW e10),(F8.same s810).keep (cj e10),F10.keep (cj e10)⟩ ⟨I.rows,hb,fun x hx=>⟨(hway x hx).1,(hway x hx).2.1⟩,hp,I.nd,hd,rfl,rfl⟩ ?_ ?_
 ·obtain ⟨vs,e,pr⟩:=R8.same s810;exact ⟨vs,cW e10 _ _ e,cz (cj e10) pr⟩
 ·exact Nat.le_trans (tZ _ _) I.ra
 ·exact Nat.le_trans (tZ _ _) (mU hb hway)
noncomputable def dz (K:Frag):Sp:=aA fun p=>aA fun t=>be fun d=>be fun r=>aD fun H Q _=>∃ (c TT:Addr) (a b:Nat) (ls:List Fld) (hs:House) (rs:List Rule),Lay H p ls/\HouseAt H t hs/\gateOf hs.1 d.cps.toList=some rs/\GateI ls rs hs.2 a b/\PySem.W.tabIn K "longest_first" = some (c,TT)/\H TT=some (.tbl #[])/\r.cps.toList.length=widthL ls/\IsRow r.cps.toList /\
   ∀ q H' xs,H q=none->Same H H'->Whats H' q xs->xs.length<=8192->RuledOk (widthL ls) r.cps.toList (firstR rs) (whatL rs hs.2 a b) xs->Q (.ref q) H'
theorem lx (T:Top K mg):Callee P w K mg base 23 "house_shares" ["layout", "house", "door", "row"] (dz K):=by
 refine T.iw.cal lu (by unfold dz; exact LenSp.h) (fun _ _ _ _ _ _ us hl=>match us,hl with | [_,_,_,_],_=>rfl) (fun f cdv A outer s H vs Q E hr h=>?_);unfold dz at h;walk_at "el";refine ⟨_,(af (aq (pC T.c_Gate (jR T) hr.m (Aa T.c_Gate (jw T) hr.m rfl (aa (qv 0) (aa (qv 1) (aa (qv 2) ab)))) (aa (qv 3) ab)))),?_⟩;rename_i p t d r;obtain ⟨c,TT,a,b,ls,hs,rs,hL,hH,hgr,I,ht,hT,hl,hr,q⟩:=h;walk_at "rd";intro ga dx hga hdx hne;have s1:Same H (upd (upd H dx (.own ga)) ga (.ins (clsG K) dx [])):=(ae hdx _).trans (ae (by rw [ao (Ne.symm hne)]; exact hga) _);refine ⟨H,dx,c,TT,a,b,ls,hs,rs,s1,hga,upd_same,hL,hH,hgr,I,ht,hT,fun ws' FR FW H2 s2 G2 M h5 h8=>?_⟩;obtain ⟨dx2,ra,wa,fr,fw,eg,_⟩:=id G2;have hlen:(ruledP rs ws' FR FW r.cps.toList).length<=8192:=Nat.le_trans (uQ _) (Nat.mul_le_mul (Nat.pow_le_pow_right (n:=2) (by decide) h5) (Nat.pow_le_pow_right (n:=2) (by decide) h8));refine ⟨rfl,ga,dx2,_,rfl,eg,rfl,widthL ls,a,b,rs,hs.2,ws',FR,FW,G2,M,by omega,by omega,I.wide,hl,hr,by omega,fun z H3 f3 s3 R3=>?_⟩;exact q z H3 _ (s2.free f3) (s2.trans s3) R3 hlen (M.ruled hl hr)
noncomputable def eL:Sp:=be fun r=>bB fun n=>aD fun H Q _=>r.cps.toList.length<=1000/\n=(r.cps.toList.length:Int)/\IsRow r.cps.toList/\∀ H',Same H H'->Q (.bl true) H'
theorem oM {α:Type}:∀ l:List α,((l.map fun _=>true).all id)=true
 | []=>rfl
 | _::l=>by rw [List.map_cons,List.all_cons,oM l]; rfl
theorem ij (T:Top K mg):Callee P w K mg base 1 "_law_is_row" ["_law_thing", "_law_width_here"] eL:=by
 refine T.iW.cal mD (by unfold eL; exact LenSp.h) (fun _ _ _ _ _ _ us hl=>match us,hl with | [_,_],_=>rfl) (fun f cdv A outer s H vs Q E hr h=>?_);unfold eL at h;walk_at "el";refine ⟨_,(af (aq (gY (aR .str rfl T.aB (qv 0) rfl T.oU mB) (gY (dY ba (au (lenE K rfl) rfl T.bc aL (aa (qv 0) ab)) (qv 1)) (jb (au (oO K rfl rfl) rfl T.xu vN (aa (aX (nt:=1) (fi:=[]) (N':=["_law_sign"]) rfl (cscope rfl (by decide +kernel)) (cnames (N:=["_law_thing", "_law_width_here"]) (sc:=defScope dg) rfl rfl (by decide +kernel)) (aY (by decide)) (iterE K rfl (qv 0)) (fun _ _ _ _ _=>(ag (i:=0) (by show (["_law_sign"]:List Str).Nodup; decide +kernel) rfl lc)) (fun _ _ _ _ _=>aM) (fun _ _ _ _ _=>(dY (inE K rfl) (qv 0) (qs [48,49,45])))) ab))))))),?_⟩;rename_i r n;obtain ⟨r,rfl⟩:∃ x,r=st x:=⟨_,(aF r).symm⟩;obtain ⟨h1,rfl,h2,q⟩:=h;simp only [ar] at h1 h2;walk_at "rd";refine ⟨by omega,fun D hD=>?_⟩;refine vP (h:=fun _=>[V.bl true]) hD (by omega) (fun _=>by simp) ?_ ?_
 ·intro c H1 out non hc s1 ho _;walk_at "rd";refine ho _ _ ?_ (Same.refl _);have:c ∈ [48,49,45]:=by
   rcases h2 c hc with z | z | z <;> rw [z] <;> decide
  simp [this]
 ·intro H1 s1 e1;walk_at "rd";refine ⟨r.map fun _=>true,SqL.of ?_,?_⟩
  ·rw [e1,List.map_map];congr 2;clear e1 h1 h2
   induction r with
   | nil=>rfl
   | cons c r ih=>rw [List.flatMap_cons,ih]; rfl
  ·rw [oM];exact q H1 s1
noncomputable def fI:Sp:=be fun x=>be fun y=>aD fun H Q _=>(∃ i c d:Nat,x.cps.toList[i]? = some c/\y.cps.toList[i]? = some d/\c≠45/\d≠45/\c≠d)/\∀ H',Same H H'->Q (.bl true) H'
theorem nC (T:Top K mg):Callee P w K mg base 1 "_law_apart" ["_law_one", "_law_other"] fI:=by
 refine T.jU.cal fE (by unfold fI; exact LenSp.h) (fun _ _ _ _ _ _ us hl=>match us,hl with | [_,_],_=>rfl) (fun f cdv A outer s H vs Q E hr h=>?_);unfold fI at h;walk_at "el";refine ⟨_,(ac (bf PassesOwn.never rfl (zipE K rfl rfl T.oZ (qv 0) (qv 1)) (tupE K rfl rfl (n:=2) (ap (ag (i:=2) fE.nd rfl lc) (ap (ag (i:=3) fE.nd rfl lc) aP))) (af (aJ (PW.pt (fB (aw cw (qv 2) (qv 3)) (fB (aw cw (qv 2) (qs [45])) (gr (aw cw (qv 3) (qs [45])))))) (af (aq eB)) av)))
   (af (aq eB))),?_⟩
 rename_i x y;obtain ⟨x,rfl⟩:∃ z,x=st z:=⟨_,(aF x).symm⟩;obtain ⟨y,rfl⟩:∃ z,y=st z:=⟨_,(aF y).symm⟩;obtain ⟨⟨j,a,b,ha,hb,n1,n2,n3⟩,q⟩:=h;simp only [ar] at ha hb;walk_at "rd";refine mv (xs:=x.map fun c=>V.str (st [c])) (ys:=y.map fun c=>V.str (st [c])) (fun i σ H'=>∃ u v,σ = [some (.str (st x)),some (.str (st y)),u,v]/\Same H H'/\i<=j) ⟨none,none,rfl,Same.refl _,Nat.zero_le _⟩
  (fun i σ H' _=>⟨rfl,rfl⟩) ?_ ?_
 ·rintro i c d σ H1 p hx hy ⟨u,v,rfl,s1,hij⟩ hp;rw [List.getElem?_map] at hx hy;obtain ⟨c,hc,rfl⟩:=Option.map_eq_some_iff.mp hx;obtain ⟨d,hd,rfl⟩:=Option.map_eq_some_iff.mp hy;walk_at "rd";have s2:Same H (upd H1 p (.tup [V.str (st [c]),V.str (st [d])])):=s1.trans (ae hp _);have next:(c=d\/c=45\/d=45)->i+1<=j:=fun z=>by
   rcases Nat.lt_or_ge i j with g | g
   ·exact g
   ·have e:i=j:=by omega
    subst e;rw [ha] at hc;rw [hb] at hd;cases hc;cases hd;rcases z with z | z | z
    ·exact absurd z n3
    ·exact absurd z n1
    ·exact absurd z n2
  refine ite2 (fun g=>⟨_,_,rfl,s2,next (.inl g)⟩) fun g1=>ite2 (fun g=>⟨_,_,rfl,s2,next (.inr (.inl g))⟩) fun g2=>ite2 (fun g=>⟨_,_,rfl,s2,next (.inr (.inr g))⟩) fun g3=>q _ s2
 ·rintro σ H1 ⟨u,v,rfl,s1,hij⟩;have:=(List.getElem?_eq_some_iff.mp ha).1;have:=(List.getElem?_eq_some_iff.mp hb).1;simp only [List.length_map] at hij;omega
noncomputable def gt:Sp:=be fun x=>aD fun H Q _=>x.cps.toList.length<=1000/\∀ H',Same H H'->Q (.int (2 ^ x.cps.toList.count 45:Nat)) H'
theorem ju (T:Top K mg):Callee P w K mg base 1 "_law_size" ["_law_row"] gt:=by
 refine T.ld.cal dP (by unfold gt; exact LenSp.h) (fun _ _ _ _ _ _ us hl=>match us,hl with | [_],_=>rfl) (fun f cdv A outer s H vs Q E hr h=>?_);unfold gt at h;walk_at "el";refine ⟨_,(ac (ai (i:=1) dP.nd rfl lc ad)
   (ac (bf PassesOwn.never rfl (iterE K rfl (qv 0)) (ag (i:=2) dP.nd rfl lc) (af (aJ (aw ba (qv 2) (qs [45])) (af (ai (i:=1) dP.nd rfl lc (am bp (qv 1) ad))) av)))
   (af (aq (qv 1))))),?_⟩
 rename_i x;obtain ⟨x,rfl⟩:∃ z,x=st z:=⟨_,(aF x).symm⟩;obtain ⟨h1,q⟩:=h;simp only [ar] at h1 q;walk_at "rd";refine vZ (fun i σ H'=>∃ u,σ = [some (.str (st x)),some (.int (2 ^ (x.take i).count 45:Nat)),u]/\H'=H) ⟨none,by simp,rfl⟩ ?_ ?_
 ·rintro i c σ H1 hc ⟨u,rfl,rfl⟩;walk_at "rd";have hi:i < x.length:=(List.getElem?_eq_some_iff.mp hc).1;have hcl:(x.take i).count 45<=1000:=Nat.le_trans List.count_le_length (by rw [List.length_take]; omega);have e:(x.take (i+1)).count 45=(x.take i).count 45+if c=45 then 1 else 0:=by
   rw [List.take_add_one,hc,Option.toList_some,List.count_append,List.count_singleton];simp [beq_iff_eq]
  refine ite2 (fun g=>⟨.inr ⟨by decide,by decide⟩,some (.str (st [c])),?_⟩) fun g=>⟨some (.str (st [c])),?_⟩
  ·rw [e,if_pos g,Nat.pow_succ]
   push_cast
   rfl
  ·rw [e,if_neg g,Nat.add_zero]
 ·rintro σ H1 ⟨u,rfl,rfl⟩;rw [List.take_length];walk_at "rd";exact q _ (Same.refl _)
noncomputable def cJ (K:Frag):Sp:=aA fun p=>aD fun H Q _=>∃ (W:Nat) (rs:List (List Nat)),H p=some (.lst (rs.map tx))/\rs.length<=10000/\(∀ r ∈ rs,r.length=W)/\rs.Pairwise (Off W)/\∀ H',Same H H'->Q (.bl true) H'
theorem vD {W:Nat} {x y:List Nat} (hx:x.length=W) (hy:y.length=W) (h:Off W x y):∃ i c d:Nat,x[i]? = some c/\y[i]? = some d/\c≠45/\d≠45/\c≠d:=by
 obtain ⟨i,hi,h1,h2,h3⟩:=h;refine ⟨i,x.getD i 0,y.getD i 0,?_,?_,h1,h2,h3⟩
 ·rw [List.getD_eq_getElem?_getD,List.getElem?_eq_getElem (by omega)]; rfl
 ·rw [List.getD_eq_getElem?_getD,List.getElem?_eq_getElem (by omega)]; rfl
theorem jQ (T:Top K mg):Callee P w K mg base 2 "_law_all_apart" ["_law_rows"] (cJ K):=by
 refine T.fV.cal bP (by unfold cJ; exact LenSp.h) (fun _ _ _ _ _ _ us hl=>match us,hl with | [_],_=>rfl) (fun f cdv A outer s H vs Q E hr h=>?_);unfold cJ at h;walk_at "el";refine ⟨_,(ac (bf PassesOwn.never rfl (my K rfl rfl T.fg (qv 0)) (tupE K rfl rfl (n:=2) (ap (ag (i:=1) bP.nd rfl lc) (ap (ag (i:=2) bP.nd rfl lc) aP))) (af (bf PassesOwn.never rfl (iterE K rfl (bA (slE K rfl) (qv 0) cm (bF (qv 1)))) (ag (i:=3) bP.nd rfl lc) (af (aJ (fz (bx (ak (nC T) hr.m rfl (aa (qv 2) (aa (qv 3) ab))))) (af (aq eB)) av)))))
   (af (aq eB))),?_⟩
 rename_i p;obtain ⟨W,rs,e,hl,hw,hoff,q⟩:=h;walk_at "rd";have hv:(rs.map tx).length=rs.length:=List.length_map ..;refine ⟨⟨_,SqL.of e⟩,?_⟩;refine mI (xs:=rs.map tx) (fun i σ H'=>∃ u v w,σ = [some (.ref p),u,v,w]/\Same H H') ⟨none,none,none,rfl,Same.refl _⟩ (fun i σ H' _ ⟨_,_,_,_,z⟩=>SqL.of (z _ _ e)) ?_ ?_
 ·rintro i x σ H1 t hx ⟨u,v,w,rfl,s1⟩ ht;have hi:i < rs.length:=by rw [<- hv]; exact (List.getElem?_eq_some_iff.mp hx).1
  obtain rfl:x=tx rs[i]:=by
   rw [List.getElem?_map,List.getElem?_eq_getElem hi] at hx;exact (Option.some.inj hx).symm
  have s2:=s1.trans (ae ht (.tup [.int i,tx rs[i]]));walk_at "rd";refine ⟨_,SqL.of (s2 _ _ e),fun c hc=>.inl ⟨⟨_,SqL.of upd_same⟩,?_⟩⟩;have s3:=s2.trans (ae hc (.lst (cutV (rs.map tx) none (some (i:Int)))));have ec:cutV (rs.map tx) none (some (i:Int))=(rs.take i).map tx:=by
   rw [Ac _ _ (by rw [hv]; omega),List.map_take]
  have e3:upd (upd H1 t (.tup [V.int i,tx rs[i]])) c (.lst (cutV (rs.map tx) none (some (i:Int)))) c=some (.lst ((rs.take i).map tx)):=by rw [upd_same,ec]
  generalize upd (upd H1 t (.tup [V.int i,tx rs[i]])) c (.lst (cutV (rs.map tx) none (some (i:Int))))=H3 at s3 e3 ⊢;refine dX tx (rs.take i) (fun j σ H'=>∃ w,σ = [some (.ref p),some (.int i),some (tx rs[i]),w]/\Same H3 H') ⟨_,rfl,Same.refl _⟩ (fun j σ H' _ ⟨_,_,z⟩=>SqL.of (z _ _ e3)) ?_ ?_
  ·rintro j y σ H4 hy ⟨w,rfl,s4⟩;have hj:j < i:=by
    have:=(List.getElem?_eq_some_iff.mp hy).1;rw [List.length_take] at this;omega
   rw [List.getElem?_take_of_lt hj,List.getElem?_eq_getElem (by omega)] at hy;obtain rfl:rs[j]=y:=Option.some.inj hy;have o:=List.pairwise_iff_getElem.mp hoff j i (by omega) hi hj;obtain ⟨a,c1,d1,k1,k2,k3,k4,k5⟩:=vD (hw _ (List.getElem_mem _)) (hw _ (List.getElem_mem _)) o;walk_at "rd";refine ⟨⟨a,d1,c1,by simpa using k2,by simpa using k1,k4,k3,Ne.symm k5⟩,fun H5 s5=>?_⟩;walk_at "rd";exact ⟨_,rfl,s4.trans s5⟩
  ·rintro σ H4 ⟨w,rfl,s4⟩;exact ⟨_,_,_,rfl,s3.trans s4⟩
 ·rintro σ H1 ⟨u,v,w,rfl,s1⟩;walk_at "rd";exact q H1 s1
noncomputable def cx (K:Frag):Sp:=aA fun wa=>be fun y=>aA fun da=>aD fun H Q _=>((∃ n:Nat,H wa=some (.tup [tx dropT,.int n])/\H da=some (.tup [tx dropT,.int n])) \/
   ∃ (o:Option (List Nat)) (over:List Nat),H wa=some (.tup (sentV o over))/\H da=some (.tup (sentV o (written y.cps.toList over)))/\over.length=y.cps.toList.length/\over.length<=1000/\IsRow over)/\∀ H',Same H H'->Q (.bl true) H'
theorem jq (T:Top K mg):Callee P w K mg base 12 "_law_what_alike" ["_law_what", "_law_letter", "_law_due"] (cx K):=by
 refine T.fj.cal jh (by unfold cx; exact LenSp.h) (fun _ _ _ _ _ _ us hl=>match us,hl with | [_,_,_],_=>rfl) (fun f cdv A outer s H vs Q E hr h=>?_);unfold cx at h;walk_at "el";refine ⟨_,(ac (aJ (aw cw (az (ixE K rfl) (qv 2) ad (fun _ _=>rfl)) (qs [115,101,110,116])) (af (aq (ak (fY T) hr.m rfl (aa (qv 0) (aa (qv 2) ab))))) av)
   (ac (aJ (PW.pt (oF (fz (bx (aR .tuple rfl T.aB (qv 0) rfl T.gI fO))) (oF (aw cw (au (lenE K rfl) rfl T.bc aL (aa (qv 0) ab)) ad) (pK (fz (bx (ak (fY T) hr.m rfl (aa (bA (slTE K rfl) (qv 0) cm (bF ad)) (aa (bA (slTE K rfl) (qv 2) cm (bF ad)) ab))))))))) (af (aq eB)) av)
   (af (aq (gY (ak (ij T) hr.m rfl (aa (az (ixE K rfl) (qv 0) ad (fun _ _=>rfl)) (aa (au (lenE K rfl) rfl T.bc aL (aa (qv 1) ab)) ab))) (jb (dY ba (ak (gO T) hr.m rfl (aa (qv 1) (aa (az (ixE K rfl) (qv 0) ad (fun _ _=>rfl)) ab))) (az (ixE K rfl) (qv 2) ad (fun _ _=>rfl))))))))),?_⟩
 rename_i wa y da;obtain ⟨y,rfl⟩:∃ z,y=st z:=⟨_,(aF y).symm⟩;obtain ⟨h,q⟩:=h;simp only [ar] at h;walk_at "rd";rcases h with ⟨n,e1,e2⟩ | ⟨o,over,e1,e2,hl,h1000,hrow⟩
 ·refine ⟨_,tx dropT,.inr (SqT.of e2),rfl,?_⟩;walk_at "rd";exact ⟨1,.t [.f (tx dropT),.f (.int n)],by decide,fN e1 rfl (by simp),fN e2 rfl (by simp),q⟩
 cases o with
 | none=>
  refine ⟨_,tx lostT,.inr (SqT.of e2),rfl,?_⟩;walk_at "rd";exact ⟨1,.t [.f (tx lostT)],by decide,fN e1 rfl (by simp [sentV]),fN e2 rfl (by simp [sentV]),q⟩
 | some d=>
  refine ⟨_,tx sentW,.inr (SqT.of e2),rfl,?_⟩;walk_at "rd";refine .inr ⟨⟨_,e1⟩,_,.inr (SqT.of e1),?_⟩;walk_at "rd";rw [if_pos (show (((sentV (some d) over).length:Nat):Int)=3 from rfl)];refine ⟨_,2,SqT.of e1,rfl,(show 2 < 3 by decide),fun q1 hq1=>?_⟩;have s1:=ae hq1 (.tup ((sentV (some d) over).take 2));refine ⟨_,2,SqT.of (s1 _ _ e2),rfl,(show 2 < 3 by decide),fun q2 hq2=>?_⟩;have s2:=ae hq2 (.tup ((sentV (some d) (written y over)).take 2));refine ⟨1,.t [.f (tx sentW),.f (tx d)],by decide,fN (s2 _ _ upd_same) rfl (show 2<=1000 by decide),fN upd_same rfl (show 2<=1000 by decide),fun H3 s3=>?_⟩;walk_at "rd";have s03:=s1.trans (s2.trans s3);refine ⟨_,tx over,.inr (SqT.of (s03 _ _ e1)),rfl,by omega,by simp only [ar]; omega,by simp only [ar]; omega,by simpa using hrow,fun H4 s4=>?_⟩;walk_at "rd";have s04:=s03.trans s4;refine ⟨_,tx over,.inr (SqT.of (s04 _ _ e1)),rfl,by simp only [ar]; omega,fun H5 s5=>?_⟩;simp only [ar];have s05:=s04.trans s5;refine ⟨_,tx (written y over),.inr (SqT.of (s05 _ _ e2)),rfl,?_⟩;walk_at "rd";exact q _ s05
theorem sS (l:List Ruled):(l.map fun x=>x.1).flatMap (fun x=>[V.int (2 ^ x.count 45:Nat)])=(l.map fun x=>((2 ^ x.1.count 45:Nat):Int)).map V.int:=by
 induction l with
 | nil=>rfl
 | cons x l ih=>rw [List.map_cons,List.flatMap_cons,ih]; rfl
theorem uw (l:List Ruled):(l.map fun x=>((2 ^ x.1.count 45:Nat):Int)).sum=(((l.map fun x=>2 ^ x.1.count 45).sum:Nat):Int):=by
 induction l with
 | nil=>rfl
 | cons x l ih=>
  rw [List.map_cons,List.sum_cons,ih,List.map_cons,List.sum_cons]
  push_cast
  rfl
theorem l9:∀ (l:List Ruled) (m:List V),l.length=m.length->((l.zip m).flatMap fun pr=>[tx pr.1.1])=(l.map fun x=>x.1).map tx
 | [],_,_=>rfl
 | x::l,[],h=>by cases h
 | x::l,v::m,h=>by
  rw [List.zip_cons_cons,List.flatMap_cons,l9 l m (by simpa using h)];rfl
noncomputable def cq (K:Frag):Sp:=aA fun p=>be fun r=>aD fun H Q _=>∃ (W:Nat) (first:List Nat->Nat) (what:List Nat->List V) (xs:List Ruled),Whats H p xs/\RuledOk W r.cps.toList first what xs/\xs.length<=10000/\r.cps.toList.length=W/\W<=1000/\∀ H',Same H H'->Q (.bl true) H'
theorem jg (T:Top K mg):Callee P w K mg base 3 "_law_are_shares" ["_law_found", "_law_row"] (cq K):=by
 refine T.ff.cal cy (by unfold cq; exact LenSp.h) (fun _ _ _ _ _ _ us hl=>match us,hl with | [_,_],_=>rfl) (fun f cdv A outer s H vs Q E hr h=>?_);unfold cq at h;walk_at "el";refine ⟨_,(ac (aJ (fz (bx (aR .list rfl T.aB (qv 0) rfl T.kM jy))) (af (aq eB)) av)
   (ac (bf PassesOwn.never rfl (iterE K rfl (qv 0)) (ag (i:=2) cy.nd rfl lc) (af (aJ (PW.pt (oF (fz (bx (aR .tuple rfl T.aB (qv 2) rfl T.gI fO))) (oF (aw cw (au (lenE K rfl) rfl T.bc aL (aa (qv 2) ab)) ad) (pK (fz (bx (ak (ij T) hr.m rfl (aa (az (ixE K rfl) (qv 2) ad (fun _ _=>rfl)) (aa (au (lenE K rfl) rfl T.bc aL (aa (qv 1) ab)) ab))))))))) (af (aq eB)) av)))
   (ac (dN (i:=3) (nt:=1) (fi:=[]) (N':=["_law_share"]) cy.nd rfl lc rfl (cscope rfl (by decide +kernel)) (cnames (N:=["_law_found", "_law_row", "_law_share", "_law_parts"]) (sc:=defScope bD) rfl rfl (by decide +kernel)) (aY (by decide)) (iterE K rfl (qv 0)) (fun _ _ _ _ _=>(ag (i:=0) (by show (["_law_share"]:List Str).Nodup; decide +kernel) rfl lc)) (fun _ _ _ _ _=>aM) (fun _ _ _ _ _=>(az (ixE K rfl) (qv 0) ad (fun _ _=>rfl))))
   (af (aq (gY (ak (jQ T) hr.m rfl (aa (qv 3) ab)) (jb (dY ba (au (kr K rfl rfl) rfl T.ug sh (aa (aX (nt:=1) (fi:=[]) (N':=["_law_part"]) rfl (cscope rfl (by decide +kernel)) (cnames (N:=["_law_found", "_law_row", "_law_share", "_law_parts"]) (sc:=defScope bD) rfl rfl (by decide +kernel)) (aY (by decide)) (iterE K rfl (qv 3)) (fun _ _ _ _ _=>(ag (i:=0) (by show (["_law_part"]:List Str).Nodup; decide +kernel) rfl lc)) (fun _ _ _ _ _=>aM) (fun _ _ _ _ _=>(ak (ju T) hr.m rfl (aa (qv 0) ab)))) ab)) (ak (ju T) hr.m rfl (aa (qv 1) ab)))))))))),?_⟩
 rename_i p r;obtain ⟨r,rfl⟩:∃ z,r=st z:=⟨_,(aF r).symm⟩;obtain ⟨W,first,what,xs,⟨vs,e,pr⟩,R,hl,hr,hW,q⟩:=h;simp only [ar] at hr;walk_at "rd";have hlv:=pr.length;refine .inl ⟨⟨_,e⟩,.inl ⟨⟨_,SqL.of e⟩,?_⟩⟩;refine bN (xs:=vs) (fun i σ H'=>∃ u,σ = [some (.ref p),some (.str (st r)),u,none]/\Same H H') ⟨none,rfl,Same.refl _⟩ (fun i σ H' _ ⟨_,_,z⟩=>SqL.of (z _ _ e)) ?_ ?_
 ·rintro i x σ H1 hx ⟨u,rfl,s1⟩;have hi:i < vs.length:=(List.getElem?_eq_some_iff.mp hx).1;have hil:i < xs.length:=by omega
  obtain ⟨y,hy,t,u2,ey,et,_⟩:=aN pr (List.getElem?_eq_getElem hil);obtain rfl:x=.ref t:=by rw [hy] at hx; rw [<- Option.some.inj hx,ey]
  obtain ⟨k1,k2⟩:=R.rows _ (List.getElem_mem hil);have et1:=s1 _ _ et;walk_at "rd";refine .inr ⟨⟨_,et1⟩,_,.inr (SqT.of et1),?_⟩;walk_at "rd";refine ⟨_,_,.inr (SqT.of et1),rfl,by omega,by simp only [ar]; omega,by simp only [ar]; omega,by simpa using k2,fun H2 s2=>?_⟩;walk_at "rd";exact ⟨_,rfl,s1.trans s2⟩
 ·rintro σ H1 ⟨u,rfl,s1⟩;have e1:=s1 _ _ e;have hS:SqL K H1 p ((xs.zip vs).map Prod.snd):=by rw [List.map_snd_zip (by omega)]; exact SqL.of e1
  walk_at "rd";refine .inl ⟨⟨_,hS⟩,fun D hD=>?_⟩;refine aW (item:=Prod.snd) (xs:=xs.zip vs) (h:=fun x=>[tx x.1.1]) hD hS (by rw [List.length_zip]; omega) (fun _=>by simp) ?_ ?_
  ·rintro ⟨x,v⟩ H2 out non hm s2 ho hno;obtain ⟨t,u2,rfl,et,_⟩:=bV pr _ hm;walk_at "rd";exact ⟨_,_,.inr (SqT.of (s2 _ _ (s1 _ _ et))),rfl,ho _ _ rfl (Same.refl _)⟩
  intro H2 s2 e2;rw [l9 _ _ hlv] at e2;walk_at "rd";refine ⟨W,xs.map fun x=>x.1,e2,by rw [List.length_map]; exact hl,fun x hx=>?_,?_,fun H3 s3=>?_⟩
  ·obtain ⟨y,hy,rfl⟩:=List.mem_map.mp hx;exact (R.rows y hy).1
  ·rw [List.pairwise_map];exact R.off
  walk_at "rd";have e3:=s3 _ _ e2;refine .inl ⟨⟨_,SqL.of e3⟩,fun D2 hD2=>?_⟩;refine aW (item:=tx) (xs:=xs.map fun x=>x.1) (h:=fun x=>[V.int (2 ^ x.count 45:Nat)]) hD2 (SqL.of e3) (by rw [List.length_map]; omega) (fun _=>by simp) ?_ ?_
  ·intro x H4 out non hx s4 ho _;obtain ⟨y,hy,rfl⟩:=List.mem_map.mp hx;have:=(R.rows y hy).1;walk_at "rd";refine ⟨by simp only [ar]; omega,fun H5 s5=>?_⟩;simp only [ar];exact ho _ _ rfl s5
  intro H4 s4 e4;rw [sS] at e4;refine ⟨_,SqL.of e4,?_⟩;rw [uw,R.size];walk_at "rd";refine ⟨by simp only [ar]; omega,fun H5 s5=>?_⟩;simp only [ar];walk_at "rd";exact q _ (s1.trans (s2.trans (s3.trans (s4.trans s5))))
noncomputable def cr (K:Frag):Sp:=aA fun a=>aA fun t=>bB fun w=>aD fun H Q _=>∃ (ns:List Int) (ps:List Nat) (W:Nat),SqL K H a (ns.map V.int)/\SqL K H t (ps.map nV)/\w=(W:Int)/\W<=1000/\1<=ps.length/\ps.length<=100/\(∀ x ∈ ps,x < W)/\∀ (q:Addr) (H':Hp) (rs:List Rule),H q=none->Same H H'->Rules H' q rs->(∀ r ∈ rs,RuleOk W r/\OverL ps r.1)->rs.length<=60->Q (.ref q) H'
theorem jn (T:Top K mg):Callee P w K mg base 3 "_law_more_rules" ["_law_script", "_law_told_here", "_law_width_here"] (cr K):=by
 refine T.fh.cal bh (by unfold cr; exact LenSp.h) (fun _ _ _ _ _ _ us hl=>match us,hl with | [_,_,_],_=>rfl) (fun f cdv A outer s H vs Q E hr h=>?_);unfold cr at h;walk_at "el";refine ⟨_,(ac (ai (i:=3) bh.nd rfl lc (ak (gM T) hr.m rfl (aa (qv 0) (aa (qv 1) ab))))
   (ac (ai (i:=4) bh.nd rfl lc (br ab))
   (ac (bf PassesOwn.never rfl (bo rfl T.bE (am aj ad (ak (ah T) hr.m rfl (aa (qv 0) (aa ad (aa ad ab)))))) (ag (i:=5) bh.nd rfl lc) (ac (ai (i:=6) bh.nd rfl lc (ak (bL T) hr.m rfl (aa (ak (ah T) hr.m rfl (aa (qv 0) (aa (am aj ad (qv 5)) (aa ad ab)))) (aa (qv 1) (aa (qv 2) (aa (qs [48,49,45]) ab))))))
   (ac (ai (i:=7) bh.nd rfl lc (ak (bL T) hr.m rfl (aa (ak (ah T) hr.m rfl (aa (qv 0) (aa (am aj ad (qv 5)) (aa ad ab)))) (aa (qv 3) (aa (qv 2) (aa (qs [48,49,45,45]) ab))))))
   (af (bQ (cC (qv 4) (aS (aa (qv 6) (aa (az (ixE K rfl) (br (aa (qs [112,97,115,115]) (aa (qs [100,114,111,112]) ab))) (ak (ah T) hr.m rfl (aa (qv 0) (aa (am aj ad (qv 5)) (aa ad ab)))) (fun _ _=>rfl)) (aa (qv 7) ab))))))))))
   (af (aq (qv 4)))))),?_⟩
 rename_i a t w';obtain ⟨ns,ps,W,hS,hT,rfl,hW,h1,h2,hlt,q⟩:=h;walk_at "rd";refine ⟨ns,ps,hS,hT,h1,h2,fun ov H3 os hov s3 e3 hos=>?_⟩;have s13:=s3;have hosW:∀ x ∈ os,x < W:=fun x hx=>hlt x (hos x hx)
 walk_at "rd";refine ⟨Nat.zero_le _,fun g hg=>?_⟩;have hg0:=s13.free hg;have s4:=s13.trans (ae hg (.lst []));have e4:=ae hg (.lst []) _ _ e3;have ngo:ov≠g:=fun z=>by rw [z,hg] at e3; cases e3
 refine aC (s4.seq hS) (by decide) (by decide) (by decide) (by decide) fun r2 hr2=>?_
 walk_at "rd";refine ⟨by omega,by omega,?_⟩;rw [show (20+(r2:Int)).toNat=20+r2 by omega];refine bT (lo:=0) (n:=20+r2) (fun i σ H'=>∃ (rs:List Rule) (u5 u6 u7 u8:Option V),σ = [some (.ref a),some (.ref t),some (nV W),some (.ref ov),some (.ref g),u5,u6,u7]/\Same H H'/\H' ov=some (.lst (os.map nV))/\Rules H' g rs/\(∀ r ∈ rs,RuleOk W r/\OverL ps r.1)/\rs.length=i)
  ⟨[],none,none,none,none,rfl,s4,e4,⟨[],upd_same,.nil⟩,fun x hx=>by simp at hx,rfl⟩ ?_ ?_
 ·rintro i σ H5 hi ⟨rs,u5,u6,u7,u8,rfl,s5,e5,⟨vs,e6,pr⟩,hrok,hrl⟩;have hvl:=pr.length;walk_at "rd";refine aC (s5.seq hS) (by omega) (by omega) (by decide) (by decide) fun r3 hr3=>?_
  refine gf hW (s5.seq hT) hlt (by decide) (by decide) (by unfold RowL; decide) fun row H6 s6 hl6 hr6 ho6=>?_
  walk_at "rd";have s56:=s5.trans s6;refine aC (s56.seq hS) (by omega) (by omega) (by decide) (by decide) fun r4 hr4=>?_
  refine re hW (SqL.of (s6 _ _ e5)) hosW (by decide) (by decide) (by unfold RowL; decide) fun over H7 s7 hl7 hr7=>?_
  have s57:=s56.trans s7;have e7:=s7 _ _ (s6 _ _ e6);refine ⟨⟨_,e7⟩,by decide,fun c2 hc2=>?_⟩;have s8:=ae hc2 (.lst ([passT,dropT].map tx));refine aC ((s57.trans s8).seq hS) (by omega) (by omega) (by decide) (by decide) fun r5 hr5=>?_
  obtain ⟨v,hv,ev⟩:=ki (l:=[passT,dropT].map tx) (i:=r5) (by show r5 < 2; omega);obtain ⟨wd,hwd,rfl⟩:=List.mem_map.mp hv;walk_at "rd";refine ⟨_,_,.inl (SqL.of upd_same),ev,by decide,fun t9 ht9=>?_⟩;have s9:=ae ht9 (.tup [tx row,tx wd,tx over]);have e9:=s9 _ _ (s8 _ _ e7);refine ⟨vs,e9,sizeBig (by omega),rs++[(row,wd,over)],_,_,_,none,rfl,aH (s57.trans (s8.trans s9)) hg0,?_,⟨_,upd_same,?_⟩,fun r hr=>?_,by rw [List.length_append,hrl]; rfl⟩
  ·rw [ao ngo];exact s9 _ _ (s8 _ _ (s7 _ _ (s6 _ _ e5)))
  ·refine eU (L2.Paired.mapP pr ?_) ⟨t9,rfl,cg e9 _ _ upd_same⟩;rintro x v ⟨t',rfl,et⟩;exact ⟨t',rfl,cg e9 _ _ (s9 _ _ (s8 _ _ (s7 _ _ (s6 _ _ et))))⟩
  ·rcases List.mem_append.mp hr with z | z
   ·exact hrok r z
   ·rw [List.mem_singleton.mp z];refine ⟨⟨hr6,hl6,?_,hr7,hl7⟩,ho6⟩;simp only [List.mem_cons,List.not_mem_nil,or_false] at hwd;exact hwd
 ·rintro σ H5 ⟨rs,u5,u6,u7,u8,rfl,s5,e5,hR,hrok,hrl⟩;walk_at "rd";exact q g H5 rs hg0 s5 hR hrok (by omega)
theorem tX {r:List Nat} (h:RowL r):IsRow r:=fun c hc=>h c hc
theorem sj {rows:List (List Nat)} {ps:List Nat} {W:Nat} (hl:∀ r ∈ rows,r.length=W) (ho:∀ r ∈ rows,OverL ps r):(asked rows (dashes W)).length<=ps.length:=by
 refine pO _ _ ?_ fun i hi=>?_
 ·unfold asked;exact (List.Pairwise.filter _ (iO _ _)).imp fun h=>Nat.ne_of_lt h
 ·have hlt:=(eF hi).1;rw [aK] at hlt;obtain ⟨r,hr,h45⟩:=List.any_eq_true.mp (List.mem_filter.mp (List.mem_filter.mp hi).1).2;obtain ⟨q,hq,rfl⟩:=List.mem_map.mp hr;have hq1:=List.fst_mem_of_mem_zipIdx (List.mem_filter.mp hq).1;rcases List.mem_append.mp hq1 with z | z
  ·have l:=hl _ z;refine ho _ z i (q.1.getD i 0) ?_ (by simpa using h45);rw [List.getD_eq_getElem?_getD,List.getElem?_eq_getElem (by omega)];rfl
  ·rw [List.mem_singleton.mp z,aK,lI hlt] at h45;exact absurd h45 (by decide)
theorem wD {ls:List Fld} {ps:List Nat} {pl:List (List Nat)} {hs:House} {x:Gate} (ok:LayOk ls) (tok:ToldOk (widthL ls) ps) (hok:HouseOk (widthL ls) (min ((spanG ls).2 - (spanG ls).1) 8) pl hs) (ho:∀ x ∈ hs.1,∀ r ∈ x.2,OverL ps r.1) (hx:x ∈ hs.1):
  GateI ls x.2 hs.2 (spanG ls).1 (spanG ls).2:=by
 obtain ⟨fa,fb,esp,hab,hb⟩:=ok.to;have eG:spanG ls=(fa,fb):=by unfold spanG; rw [esp]; rfl
 rw [eG] at hok ⊢;have w2:=ok.w2;have hl:=ok.len;refine ⟨by omega,by omega,esp,hb,fun r hr=>?_,Nat.le_trans (hok.many x hx) (by decide),?_,fun y hy=>?_,?_,hok.ways.nd⟩
 ·have:=hok.rules x hx r hr;exact ⟨this.rowN,this.overN,tX this.over⟩
 ·refine Nat.le_trans (sj (ps:=ps) (fun r hr=>?_) fun r hr=>?_) tok.l5
  ·obtain ⟨y,hy,rfl⟩:=List.mem_map.mp hr;exact (hok.rules x hx y hy).rowN
  ·obtain ⟨y,hy,rfl⟩:=List.mem_map.mp hr;exact ho x hx y hy
 ·have h1:=hok.ways.n y hy;dsimp only at h1;exact ⟨by dsimp only; omega,hok.ways.bits y hy,by omega⟩
 ·have:=hok.w8;omega
theorem vE {ls:List Fld} {rs:List Rule} {ws:List Way} {a b:Nat} (esp:spanF ls toT 0=some (a,b)) (rows:∀ r ∈ rs,r.1.length=widthL ls/\r.2.2.length=widthL ls/\IsRow r.2.2) {y:List Nat} (hy:y.length=widthL ls):
  (∃ n:Nat,whatL rs ws a b y=[tx dropT,.int n]/\doesV ls rs ws y=[tx dropT,.int n]) \/
  ∃ (o:Option (List Nat)) (over:List Nat),whatL rs ws a b y=sentV o over/\doesV ls rs ws y=sentV o (written y over)/\over.length=y.length/\IsRow over:=by
 unfold whatL doesV;cases hd:dropB rs (firstR rs y) with
 | true=>exact .inl ⟨firstR rs y,by rw [if_pos rfl],by rw [if_pos rfl]⟩
 | false=>
  have hn:firstR rs y < rs.length:=by
   rcases Nat.lt_or_ge (firstR rs y) rs.length with z | z
   ·exact z
   ·unfold dropB at hd;rw [List.getElem?_eq_none z] at hd;cases hd
  have ho:(overR rs (firstR rs y)).length=widthL ls/\IsRow (overR rs (firstR rs y)):=by
   unfold overR;rw [List.getElem?_eq_getElem hn];exact (rows _ (List.getElem_mem hn)).2
  refine .inr ⟨_,overR rs (firstR rs y),by rw [if_neg (by decide)],?_,by omega,ho.2⟩;rw [if_neg (by decide)];unfold partT;rw [esp];rfl
theorem ve {H:Hp} {xs:List Ruled} {vs:List V} (h:Paired (WhatAt H) xs vs):∃ zs:List (Ruled × Addr × Addr),xs=zs.map (·.1)/\vs=zs.map (fun z=>V.ref z.2.1)/\∀ z ∈ zs,H z.2.1=some (.tup [tx z.1.1,.ref z.2.2])/\H z.2.2=some (.tup z.1.2.2):=by
 induction h with
 | nil=>exact ⟨[],rfl,rfl,fun z hz=>by cases hz⟩
 | cons r _ ih=>
  obtain ⟨t,u,rfl,h1,h2⟩:=r;obtain ⟨zs,e1,e2,e3⟩:=ih;refine ⟨(_,t,u)::zs,by rw [List.map_cons,<- e1],by rw [List.map_cons,<- e2],fun z hz=>?_⟩;rcases List.mem_cons.mp hz with rfl | hz
  ·exact ⟨h1,h2⟩
  ·exact e3 z hz
theorem l7 {α:Type} (P:Ruled->Bool):∀ zs:List (Ruled × α),(zs.map (·.1)).filter P=(zs.filter fun z=>P z.1).map (·.1)
 | []=>rfl
 | z::zs=>by
  rw [List.map_cons,List.filter_cons,List.filter_cons,l7 P zs];split <;> rfl
theorem lY {α:Type} (f:α -> V) (P:α -> Bool):∀ l:List α,(l.flatMap fun x=>if P x=true then [f x] else [])=(l.filter P).map f
 | []=>rfl
 | x::l=>by
  rw [List.flatMap_cons,lY f P l,List.filter_cons];split <;> rfl
noncomputable def mLaw7 (K:Frag):TS:=fun D σ H=>∀ C:TS,(∀ (a p td hq lt:Addr) (ns:List Int) (ls:List Fld) (ps:List Nat) (hs:House) (pl le:List (List Nat)),SqL K H a (ns.map V.int)->Lay H p ls->LayOk ls->H td=some (.lst (ps.map nV))->ToldOk (widthL ls) ps ->
  HouseAt H hq hs->HouseOk (widthL ls) (min ((spanG ls).2 - (spanG ls).1) 8) pl hs->(∀ x ∈ hs.1,∀ r ∈ x.2,OverL ps r.1)->H lt=some (.lst (le.map tx))->Letters (widthL ls) le->(∃ c TT,PySem.W.tabIn K "longest_first" = some (c,TT)/\H TT=some (.tbl #[]))->(∀ H',D.rt (.bl true) H') ->
  C D [some (.ref a),some (.ref p),some (nV (widthL ls)),some (.ref td),some (.ref hq),some (.ref lt),none,none,none,none,none,none,none,none] H)->C D σ H
theorem AN (T:Top K mg) {f:Addr} {cdv:Value} {A:Around} {outer:List Env} {s:Shared} {H₀:Hp} {E:XK} (hr:Room 23 (A.deeper (PyProof.Rows.envOfC "law" (defScope kN) s.heap.objs.size f cdv))):
  PSs (cxOf CX0 P w K mg base ["_law_script", "_law_layout_here", "_law_width_here", "_law_told_here", "_law_house_here", "_law_letters_here", "_law_row", "_law_handed", "_law_door", "_law_rules", "_law_found", "_law_letter", "_law_whats", "_law_due"] "law" (defScope kN) f cdv A outer s H₀ E).nox ((defBody kN).drop 7) (mLaw7 K):=by
 refine wJ (ac (ai (i:=6) cL.nd rfl lc (ak (bL T) hr.m rfl (aa (ak (ah T) hr.m rfl (aa (qv 0) (aa ad (aa ad ab)))) (aa (qv 3) (aa (qv 2) (aa (qs [48,49,45,45,45]) ab))))))
   (ac (ai (i:=7) cL.nd rfl lc (ak (pW T) hr.m rfl (aa (aS (aa (qv 1) (aa (qv 4) ab))) ab)))
   (ac (bf PassesOwn.never rfl (iterE K rfl (az (ixE K rfl) (qv 4) ad (fun _ _=>rfl))) (tupE K rfl rfl (n:=2) (ap (ag (i:=8) cL.nd rfl lc) (ap (ag (i:=9) cL.nd rfl lc) aP))) (ac (ai (i:=10) cL.nd rfl lc (ak (lx T) hr.m rfl (aa (az (ixE K rfl) (qv 7) ad (fun _ _=>rfl)) (aa (az (ixE K rfl) (qv 7) ad (fun _ _=>rfl)) (aa (qv 8) (aa (qv 6) ab))))))
   (ac (aJ (fz (bx (ak (jg T) hr.m rfl (aa (qv 10) (aa (qv 6) ab))))) (af (aq eB)) av)
   (af (bf PassesOwn.never rfl (iterE K rfl (qv 5)) (ag (i:=11) cL.nd rfl lc) (ac (dN (i:=12) (nt:=1) (fi:=[11]) (N':=["_law_share", "_law_letter"]) cL.nd rfl lc rfl (cscope rfl (by decide +kernel)) (cnames (N:=["_law_script", "_law_layout_here", "_law_width_here", "_law_told_here", "_law_house_here", "_law_letters_here", "_law_row", "_law_handed", "_law_door", "_law_rules", "_law_found", "_law_letter", "_law_whats", "_law_due"]) (sc:=defScope kN) rfl rfl (by decide +kernel)) (aY (by decide)) (iterE K rfl (qv 10)) (fun _ _ _ _ _=>(ag (i:=0) (by show (["_law_share", "_law_letter"]:List Str).Nodup; decide +kernel) rfl lc)) (fun _ _ _ _ _=>(jS (bx (ak (gb T) hr.m rfl (aa (az (ixE K rfl) (qv 0) ad (fun _ _=>rfl)) (aa (qv 1) ab)))))) (fun _ _ _ _ _=>(az (ixE K rfl) (qv 0) ad (fun _ _=>rfl))))
   (ac (aJ (aw cw (au (lenE K rfl) rfl T.bc aL (aa (qv 12) ab)) (fR oJ rfl T.oV mt (aa (ak (gb T) hr.m rfl (aa (qv 6) (aa (qv 11) ab))) ab))) (af (aq eB)) av)
   (ac (ai (i:=13) cL.nd rfl lc (ak (pZ T) hr.m rfl (aa (qv 1) (aa (qv 4) (aa (qv 8) (aa (qv 11) ab))))))
   (af (aJ (PW.pt (fB (aw (neNilE K rfl (hu1 hr)) (qv 12) (br ab)) (gr (fz (bx (ak (jq T) hr.m rfl (aa (az (ixE K rfl) (qv 12) ad (fun _ _=>rfl)) (aa (qv 11) (aa (qv 13) ab))))))))) (af (aq eB)) av))))))))))
   (af (aq (ak (fY T) hr.m rfl (aa (qv 7) (aa (aS (aa (qv 1) (aa (qv 4) ab))) ab)))))))) fun D σ H h=>h _ fun a p td hq lt ns ls ps hs pl le hS hL ok etd tok hH hok hov elt hle tab q=>?_
 have w1:=ok.w1;have w2:=ok.w2;have hlen:=ok.len;walk_at "rd";refine aC hS (by decide) (by decide) (by decide) (by decide) fun r1 hr1=>?_
 refine re (by omega) (SqL.of etd) tok.lt (by decide) (by decide) (by unfold RowL; decide) fun row H1 s1 hl1 hrow=>?_
 walk_at "rd";have hlen3:=hok.g3;have hw8:=hok.w8;have hL1:=hL.same s1;have hH1:=hH.same s1;have hLt:Th H1 5 (.ref p) (layD ls):=zU 3 hL1 (by omega);have hHt:Th H1 5 (.ref hq) (houseD hs):=v7 0 hH1 (by omega) (by omega) fun x hx=>Nat.le_trans (hok.many x hx) (by decide)
 refine ⟨by decide,fun pr hpr=>?_⟩;have s9:=ae hpr (.tup [V.ref p,V.ref hq]);refine ⟨6,.t [layD ls,houseD hs],by decide,qA upd_same (by simp) (.cons (bX s9 5 hLt) (.cons (bX s9 5 hHt) .nil)),fun hd H9 sd thd=>?_⟩;have s89:=s9.trans sd;have thd':=tD 6 thd;obtain ⟨ht,hvs,rfl,eht,pht⟩:=uY thd';cases pht with
 | cons rL pht=>
  cases pht with
  | cons rH pht=>
   cases pht;obtain ⟨cp,rfl,hLc⟩:=wj rL;obtain ⟨ch,rfl,hHc⟩:=tI rH;have s19:=s1.trans s89;obtain ⟨g8,w8,e8,⟨gv8,eg8,pg8⟩,hw8'⟩:=hH1.same s89;have hgl8:=pg8.length;have elt9:=s19 _ _ elt;obtain ⟨c0,TT,htab,hTT⟩:=tab;have hTT9:=s19 _ _ hTT;refine ⟨_,_,.inr (SqT.of e8),rfl,?_⟩;walk_at "rd";refine .inl ⟨⟨_,SqL.of eg8⟩,?_⟩;obtain ⟨fa,fb,esp,hab,hbW⟩:=ok.to;have eG:spanG ls=(fa,fb):=by unfold spanG; rw [esp]; rfl
   refine bN (xs:=gv8) (fun i σ H'=>∃ (u8 u9 u10 u11 u12 u13:Option V),σ = [some (.ref a),some (.ref p),some (nV (widthL ls)),some (.ref td),some (.ref hq),some (.ref lt),some (tx row),some (.ref ht),u8,u9,u10,u11,u12,u13]/\Same H9 H') ⟨none,none,none,none,none,none,rfl,Same.refl _⟩ (fun i σ H' _ ⟨_,_,_,_,_,_,_,z⟩=>SqL.of (z _ _ eg8)) ?_ ?_
   ·rintro i v σ H10 hv ⟨u8,u9,u10,u11,u12,u13,rfl,s10⟩;have hi:i < gv8.length:=(List.getElem?_eq_some_iff.mp hv).1;have hil:i < hs.1.length:=by omega
    obtain ⟨y,hy,t',r',ey,et,hr'⟩:=aN pg8 (List.getElem?_eq_getElem hil);obtain rfl:v=.ref t':=by rw [hy] at hv; rw [<- Option.some.inj hv,ey]
    have hmem:=List.getElem_mem hil;have gof:gateOf hs.1 hs.1[i].1=some hs.1[i].2:=by
     unfold gateOf;rw [show hs.1.find? (fun g=>decide (g.1=hs.1[i].1))=some hs.1[i] from List.find?_eq_some_iff_append.mpr ⟨by simp,hs.1.take i,hs.1.drop (i+1),by simp,fun z hz=>?_⟩]
     ·rfl
     ·obtain ⟨j,hj,rfl⟩:=List.mem_take_iff_getElem.mp hz;have:=List.pairwise_iff_getElem.mp hok.nd j i (by simp; omega) (by simp; omega) (by omega);rw [List.getElem_map,List.getElem_map] at this;simpa using this
    have GI:=wD ok tok hok hov hmem;rw [eG] at GI;refine ⟨t',[_,_],rfl,SqT.of (s10 _ _ et),rfl,_,[_],rfl,_,[],rfl,rfl,?_⟩;walk_at "rd";have eht10:=s10 _ _ eht;refine ⟨_,_,.inr (SqT.of eht10),rfl,_,_,.inr (SqT.of eht10),rfl,?_⟩;refine ⟨c0,TT,fa,fb,ls,hs,hs.1[i].2,hLc.same s10,hHc.same s10,by simp only [ar]; exact gof,GI,htab,s10 _ _ hTT9,by simp only [ar]; exact hl1,by simp only [ar]; exact tX hrow,fun z H11 xs hz s11 W11 hxl R=>?_⟩;simp only [ar] at R;walk_at "rd";refine ⟨widthL ls,_,_,xs,W11,by simp only [ar]; exact R,by omega,by simp only [ar]; exact hl1,by omega,fun H12 s12=>?_⟩;walk_at "rd";have s912:=s10.trans (s11.trans s12);have elt12:=s912 _ _ elt9;refine .inl ⟨⟨_,SqL.of elt12⟩,?_⟩;obtain ⟨xv,ex,px⟩:=W11;obtain ⟨zs,rfl,rfl,hzs⟩:=ve px;rw [List.length_map] at hxl;have ez12:=s12 _ _ ex;have MM:∀ l:List Nat,l.length=widthL ls->Meet ls hs.1[i].2 hs.2 l.length:=fun l hl=>by
     refine ⟨by omega,fun r hr=>by rw [hl]; exact (hok.rules _ hmem r hr).overN,fun y hy=>?_,fa,fb,esp,by omega⟩;have:=hok.ways.n y hy;omega
    refine dX tx le (fun j σ H'=>∃ (u11 u12 u13:Option V),σ = [some (.ref a),some (.ref p),some (nV (widthL ls)),some (.ref td),some (.ref hq),some (.ref lt),some (tx row),some (.ref ht),some (tx hs.1[i].1),some (.ref r'),some (.ref z),u11,u12,u13]/\Same H12 H') ⟨_,_,_,rfl,Same.refl _⟩ (fun j σ H' _ ⟨_,_,_,_,z⟩=>SqL.of (z _ _ elt12)) ?_ ?_
    ·rintro j l σ H13 hlj ⟨u11,u12,u13,rfl,s13⟩;obtain ⟨hlW,hlL⟩:=hle l (List.mem_of_getElem? hlj);have hlL:IsLet l:=hlL;have s1213:=s12.trans s13;have ez13:=s13 _ _ ez12;have hz13:∀ z ∈ zs,H13 z.2.1=some (.tup [tx z.1.1,.ref z.2.2])/\H13 z.2.2=some (.tup z.1.2.2):=fun z hz=>⟨s1213 _ _ (hzs z hz).1,s1213 _ _ (hzs z hz).2⟩
     have F:=R.filter hlW hlL;rw [l7 (fun x:Ruled=>within l x.1)] at F;walk_at "rd";refine .inl ⟨⟨_,SqL.of ez13⟩,fun D1 hD1=>?_⟩;refine aW (item:=fun z:Ruled × Addr × Addr=>V.ref z.2.1) (xs:=zs) (h:=fun z=>if within l z.1.1=true then [V.ref z.2.2] else []) hD1 (SqL.of ez13) (by omega) (fun _=>by split <;> simp) ?_ ?_
     ·intro x H14 out non hx s14 ho hno;obtain ⟨k1,k2⟩:=hz13 x hx;walk_at "rd";refine ⟨_,_,.inr (SqT.of (s14 _ _ k1)),rfl,fun H15 s15=>?_⟩;simp only [ar];walk_at "rd";refine ite2 (fun g=>?_) fun g=>hno _ (if_neg (by simpa using g)) s15
      exact ⟨_,_,.inr (SqT.of (s15 _ _ (s14 _ _ k1))),rfl,ho _ _ (if_pos g) s15⟩
     intro H14 s14 e14;rw [lY (fun z:Ruled × Addr × Addr=>V.ref z.2.2) fun z=>within l z.1.1] at e14;walk_at "rd";refine ⟨_,.inl (SqL.of e14),fun H15 s15=>?_⟩;simp only [ar];walk_at "rd";rw [List.length_map];have s15':=s13.trans (s14.trans s15);have s815:=s89.trans (s912.trans s15');have e15:=s15 _ _ e14;have does:∀ (Q:VK),(∀ (t:Addr) (H':Hp),Same H15 H'->H' t=some (.tup (doesV ls hs.1[i].2 hs.2 l))->Q (.ref t) H')->dU K [V.ref p,V.ref hq,tx hs.1[i].1,tx l] H15 Q E0:=fun Q hQ=>⟨ls,hs,hs.1[i].2,hL1.same s815,hH1.same s815,hok.nd,by simp only [ar]; exact gof,by simp only [ar]; exact MM l hlW,fun t H' s' e'=>hQ t H' s' (by simpa only [ar] using e')⟩
     cases hin:within l row with
     | false=>
      have F0:=F.2 hin;rw [List.map_eq_nil_iff] at F0;rw [F0] at e15 ⊢;rw [if_pos (by rfl)];refine does _ fun t16 H16 s16 e16=>⟨Nat.zero_le _,fun n0 hn0=>⟨[],SqL.of (ae hn0 _ _ _ (s16 _ _ e15)),SqL.of upd_same,?_⟩⟩
      rw [if_pos rfl];exact ⟨_,_,_,rfl,s15'.trans (s16.trans (ae hn0 _))⟩
     | true=>
      obtain ⟨x,hx,hwx,F0⟩:=F.1 hin;obtain ⟨z0,hf,rfl⟩:∃ z0,zs.filter (fun z=>within l z.1.1)=[z0]/\z0.1=x:=by
       cases hf:zs.filter (fun z=>within l z.1.1) with
       | nil=>rw [hf] at F0; cases F0
       | cons z0 r=>
        rw [hf] at F0;cases r with
        | nil=>exact ⟨z0,rfl,by simpa using F0⟩
        | cons _ _=>cases F0
      have hz0:z0 ∈ zs:=(List.mem_filter.mp (by rw [hf]; exact List.mem_singleton.mpr rfl)).1;have told:=(R.told _ hx l hlW hlL hwx).2;rw [hf] at e15 ⊢;rw [if_pos (by rfl)];refine does _ fun t16 H16 s16 e16=>⟨Nat.zero_le _,fun n0 hn0=>?_⟩
      have s17:=ae hn0 (.lst []);refine ⟨_,SqL.of (s17 _ _ (s16 _ _ e15)),SqL.of upd_same,?_⟩;rw [if_neg (by simp)];have ew:=s17 _ _ (s16 _ _ (s15 _ _ (s14 _ _ (hz13 z0 hz0).2)));rw [told] at ew;refine ⟨_,V.ref z0.2.2,.inl (SqL.of (s17 _ _ (s16 _ _ e15))),rfl,?_,fun H18 s18=>?_⟩
      ·rcases vE (ws:=hs.2) esp GI.rows hlW with ⟨n,k1,k2⟩ | ⟨o,over,k1,k2,k3,k4⟩
       ·rw [k1] at ew;rw [k2] at e16;exact .inl ⟨n,ew,s17 _ _ e16⟩
       ·rw [k1] at ew;rw [k2] at e16;exact .inr ⟨o,over,ew,by simp only [ar]; exact s17 _ _ e16,by simp only [ar]; exact k3,by omega,k4⟩
      walk_at "rd";exact ⟨_,_,_,rfl,s15'.trans (s16.trans (s17.trans s18))⟩
    ·rintro σ H13 ⟨u11,u12,u13,rfl,s13⟩;exact ⟨_,_,_,_,_,_,rfl,s912.trans s13⟩
   ·rintro σ H10 ⟨u8,u9,u10,u11,u12,u13,rfl,s10⟩;walk_at "rd";refine ⟨by decide,fun p5 hp5=>?_⟩;have s11:=ae hp5 (.tup [V.ref p,V.ref hq]);have sA:=s10.trans s11;have sB:=s89.trans sA;exact ⟨6,.t [layD ls,houseD hs],by decide,bX sA 6 thd',qA upd_same (by simp) (.cons (bX sB 5 hLt) (.cons (bX sB 5 hHt) .nil)),fun H12 _=>q H12⟩
noncomputable def kt (K:Frag):Sp:=aA fun a=>aD fun H Q _=>∃ ns:List Int,SqL K H a (ns.map V.int)/\ns.length<=63/\(∃ c TT,PySem.W.tabIn K "longest_first" = some (c,TT)/\H TT=some (.tbl #[]))/\∀ H',Q (.bl true) H'
theorem qk {α β:Type} {F:α -> β -> Prop} {l:List α} {v:β} {vs:List β} (p:Paired F l (v::vs)):∃ x l',l=x::l'/\F x v/\Paired F l' vs:=by
 cases p with
 | cons r p=>exact ⟨_,_,rfl,r,p⟩
theorem tS {w p:Addr} {H H':Hp} {ls:List Fld} {us:List V} (b:But w H H') (hw:H w=some (.lst us)) (n:p≠w) (h:Lay H p ls):Lay H' p ls:=by
 obtain ⟨vs,e,pr⟩:=h;exact ⟨vs,b _ _ n e,j8 (fun t ts z=>b _ _ (fun y=>by rw [y,hw] at z; cases z) z) pr⟩
theorem om {w r:Addr} {H H':Hp} {rs:List Rule} {us:List V} (b:But w H H') (hw:H w=some (.lst us)) (n:r≠w) (h:Rules H r rs):Rules H' r rs:=by
 obtain ⟨vs,e,pr⟩:=h;exact ⟨vs,b _ _ n e,cz (fun t ts z=>b _ _ (fun y=>by rw [y,hw] at z; cases z) z) pr⟩
theorem uE {F:Addr->Prop} {w q g:Addr} {H H':Hp} {hs:House} {ws:List Way} (b:But w H H') (h:HouseN F H q g w hs) (hw':Ways H' w ws):HouseN F H' q g w (hs.1,ws):=by
 obtain ⟨us,hw,_⟩:=h.ways;have tp:∀ t ts,H t=some (.tup ts)->H' t=some (.tup ts):=fun t ts z=>b _ _ (fun y=>by rw [y,hw] at z; cases z) z
 obtain ⟨vs,e,p⟩:=h.gates;exact ⟨tp _ _ h.tup,h.ne,⟨vs,b _ _ h.ne e,L2.Paired.mapP p fun _ _ ⟨t,r,e,n,h1,h2⟩=>⟨t,r,e,n,tp _ _ h1,om b hw n.2.1 h2⟩⟩,hw'⟩
theorem zO (T:Top K mg) {f:Addr} {fd:FuncData} (F:Fun K "law" "law" kN f fd):FnOk P w K mg base CX0 24 f fd ["_law_script"] (kt K):=by
 refine F.ok cL (by unfold kt; exact LenSp.h) (fun cdv A outer s H vs Q E hr h=>?_);unfold kt at h;walk_at "el";refine ⟨_,(ac (ai (i:=1) cL.nd rfl lc (ak (mq T) hr.m rfl (aa (qv 0) ab)))
   (ac (ai (i:=2) cL.nd rfl lc (ak (ft T) hr.m rfl (aa (qv 1) ab)))
   (ac (ai (i:=3) cL.nd rfl lc (ak (pd T) hr.m rfl (aa (qv 0) (aa (qv 1) ab))))
   (ac (ai (i:=4) cL.nd rfl lc (ak (nO T) hr.m rfl (aa (qv 0) (aa ad (aa (qv 3) (aa (qv 1) (aa (ak (iT T) hr.m rfl (aa (qv 0) (aa ad (aa ad ab)))) ab)))))))
   (ac (ai (i:=5) cL.nd rfl lc (ak (lH T) hr.m rfl (aa (qv 0) (aa (qv 3) (aa (qv 2) ab)))))
   (ac (bQ (ak (jO T) hr.m rfl (aa (qv 0) (aa ad (aa (qv 4) (aa (qv 5) (aa (qv 1) (aa ad ab))))))))
   (cT (aJ (PW.pt (fB (aw xi (qv 2) ad) (fB (aw (neNilE K rfl (hu1 hr)) (az (ixE K rfl) (qv 4) ad (fun _ _=>rfl)) (br ab)) (gr (aw ba (ak (ah T) hr.m rfl (aa (qv 0) (aa ad (aa ad ab)))) ad))))) (af (jf (aS (aa (az (ixE K rfl) (az (ixE K rfl) (az (ixE K rfl) (qv 4) ad (fun _ _=>rfl)) ad (fun _ _=>rfl)) ad (fun _ _=>rfl)) (aa (ak (jn T) hr.m rfl (aa (qv 0) (aa (qv 3) (aa (qv 2) ab)))) ab))) (rF (az (ixE K rfl) (qv 4) ad (fun _ _=>rfl)) ad ng (fun _=>rfl)))) av)
   (AN T hr)))))))),?_⟩
 rename_i a;obtain ⟨ns,hS,_,tab,q⟩:=h;walk_at "rd";refine ⟨ns,hS,fun p H1 ls hp s1 hL ok _=>?_⟩;have hlen:=ok.len;have w1:=ok.w1;have w2:=ok.w2;walk_at "rd";refine ⟨ls,hL,by omega,fun H2 s2=>?_⟩;have s12:=s1.trans s2;have hL2:=hL.same s2;walk_at "rd";refine ⟨ns,ls,s12.seq hS,hL2,ok,fun td H3 ps htd s3 e3 tok=>?_⟩;have s13:=s12.trans s3;have hL3:=hL2.same s3;walk_at "rd";refine ⟨ns,22,5,s13.seq hS,rfl,by decide,rfl,by decide,fun pn H4 pl hpn s4 e4 N=>?_⟩;have s14:=s13.trans s4;have e34:=s4 _ _ e3;have hL4:=hL3.same s4;walk_at "rd";refine ⟨ns,70,ps,ls,pl,s14.seq hS,rfl,by decide,SqL.of e34,tok,hL4,ok,SqL.of e4,N,fun hq g w H5 hs hhq hg0 hw0 s5 hN hok hw4 hov=>?_⟩;have s15:=s14.trans s5;have e35:=s5 _ _ e34;have hL5:=hL4.same s5;have t5:=tok.l5;walk_at "rd";refine ⟨ns,ps,widthL ls,s15.seq hS,SqL.of e35,rfl,by omega,by omega,tok.lt,fun lt H6 le hlt s6 e6 hle hll=>?_⟩;have s16:=s15.trans s6;have e36:=s6 _ _ e35;have hL6:=hL5.same s6;have hN6:=hN.same s6;have hl32:le.length<=32:=by rw [hll]; exact Nat.pow_le_pow_right (by decide) t5
 have hl1:1<=le.length:=by rw [hll]; exact Nat.one_le_two_pow
 clear hll;walk_at "rd";have nlw:lt≠w:=fun z=>by
  obtain ⟨us,hw,_⟩:=hN.ways;rw [z,hw] at hlt;cases hlt
 have npw:p≠w:=fun z=>by
  obtain ⟨us,hw,_⟩:=hL4;rw [z,hw0] at hw;cases hw
 have ntw:td≠w:=fun z=>by rw [z,hw0] at e34; cases e34
 refine ⟨ns,370,8,le,ls,hs,pl,g,w,H4,s5.trans s6,hw0,s14.seq hS,rfl,by decide,rfl,by decide,by decide,e6,hle,hl1,by omega,hL6,ok,hN6.tup,?_,hN6.ways,hok,nlw,npw,hN.ne,fun H7 ws b7 hw7 wok7 hwl7=>?_⟩
 ·obtain ⟨vs,e,pp⟩:=hN6.gates;exact ⟨vs,e,L2.Paired.mapP pp fun _ _ ⟨t,r,e,_,h1,h2⟩=>⟨t,r,e,h1,h2⟩⟩
 obtain ⟨us6,ew6,_⟩:=id hN6.ways;have hN7:=uE b7 hN6 hw7;have hL7:=tS b7 ew6 npw hL6;have el7:=b7 _ _ nlw e6;have et7:=b7 _ _ ntw e36;have s47:=pB (s5.trans s6) hw0 b7;have s17:=s14.trans s47;obtain ⟨c0,TT,htab,hTT⟩:=tab;have hok7:HouseOk (widthL ls) (min ((spanG ls).2 - (spanG ls).1) 8) pl (hs.1,ws):=⟨hok.nd,hok.door,hok.g3,hok.rules,hok.many,wok7,Nat.le_trans hwl7 (Nat.le_trans (Nat.add_le_add_right hw4 3) (by decide))⟩;refine ⟨fun σ' H'=>∃ hs':House,σ'=[some (.ref a),some (.ref p),some (nV (widthL ls)),some (.ref td),some (.ref hq),some (.ref lt),none,none,none,none,none,none,none,none]/\Same H4 H'/\H' td=some (.lst (ps.map nV))/\Lay H' p ls/\HouseAt H' hq hs'/\HouseOk (widthL ls) (min ((spanG ls).2 - (spanG ls).1) 8) pl hs'/\(∀ x ∈ hs'.1,∀ r ∈ x.2,OverL ps r.1)/\H' lt=some (.lst (le.map tx)),?_,?_⟩
 ·have no:∀ H8,Same H7 H8->∃ hs':House,[some (V.ref a),some (.ref p),some (nV (widthL ls)),some (.ref td),some (.ref hq),some (.ref lt),none,none,none,none,none,none,none,none]=[some (.ref a),some (.ref p),some (nV (widthL ls)),some (.ref td),some (.ref hq),some (.ref lt),none,none,none,none,none,none,none,none]/\Same H4 H8/\H8 td=some (.lst (ps.map nV))/\Lay H8 p ls/\HouseAt H8 hq hs'/\HouseOk (widthL ls) (min ((spanG ls).2 - (spanG ls).1) 8) pl hs'/\(∀ x ∈ hs'.1,∀ r ∈ x.2,OverL ps r.1)/\H8 lt=some (.lst (le.map tx)):=
   fun H8 s8=>⟨(hs.1,ws),rfl,s47.trans s8,s8 _ _ et7,hL7.same s8,(hN7.same s8).at,hok7,fun x hx r hr=>(hov x hx r hr).2,s8 _ _ el7⟩
  refine ite2 (fun _=>?_) fun _=>no H7 (Same.refl _)
  obtain ⟨gv,eg,pg⟩:=hN7.gates;refine ⟨_,_,.inr (SqT.of hN7.tup),rfl,Nat.zero_le _,fun n0 hn0=>?_⟩;have s8:=ae hn0 (.lst []);walk_at "rd";refine ⟨gv,SqL.of (s8 _ _ eg),SqL.of upd_same,ite2 (fun ge=>let ⟨h,_,r⟩:=no _ s8; ⟨h,r⟩) fun ge=>?_⟩;refine aC ((s17.trans s8).seq hS) (by decide) (by decide) (by decide) (by decide) fun r1 hr1=>?_
  walk_at "rd";refine ite2 (fun _=>?_) fun _=>let ⟨h,_,r⟩:=no _ s8; ⟨h,r⟩
  obtain ⟨v0,gvt,rfl⟩:∃ v0 gvt,gv=v0::gvt:=by
   cases gv with
   | nil=>exact absurd rfl ge
   | cons v0 gvt=>exact ⟨v0,gvt,rfl⟩
  obtain ⟨gs,wsx⟩:=hs;dsimp only at pg hN7 hok hok7 hov;obtain ⟨g0,gst,rfl,r0,pg2⟩:=qk pg;obtain ⟨t0,q0,rfl,n0',et0,hr0⟩:=r0;refine ⟨_,_,.inr (SqT.of (s8 _ _ hN7.tup)),rfl,?_⟩;walk_at "rd";refine ⟨_,V.ref t0,.inl (SqL.of (s8 _ _ eg)),show atI _ ((0:Nat):Int)=_ from bR rfl,?_⟩;walk_at "rd";refine ⟨_,_,.inr (SqT.of (s8 _ _ et0)),rfl,?_⟩;have hpl5:=tok.l5;refine ⟨ns,ps,widthL ls,(s17.trans s8).seq hS,SqL.of (s8 _ _ et7),rfl,by omega,tok.l1,by omega,tok.lt,fun R H9 rs hR s9 hRs hrok hrl=>⟨by decide,fun t9 ht9=>?_⟩⟩;have s10:=ae ht9 (.tup [tx g0.1,.ref R]);have s8T:=s8.trans (s9.trans s10);have eg10:=s8T _ _ eg;have nRg:R≠g:=fun z=>by rw [z,s8 _ _ eg] at hR; cases hR
  have nlg:lt≠g:=fun z=>by
   obtain ⟨vs5,e5,_⟩:=hN.gates;rw [z,e5] at hlt;cases hlt
  have npg:p≠g:=fun z=>by
   obtain ⟨us,hw,_⟩:=hL4;rw [z,hg0] at hw;cases hw
  have ntg:td≠g:=fun z=>by rw [z,hg0] at e34; cases e34
  refine ⟨_,_,.inr (SqT.of (s8T _ _ hN7.tup)),rfl,?_⟩;walk_at "rd";refine ⟨_,0,eg10,show ixN _ ((0:Nat):Int)=_ from o7 (by simp),?_⟩;rw [show (V.ref t0::gvt).set 0 (V.ref t9)=V.ref t9::gvt from rfl];have bg:But g H7 (upd (upd H9 t9 (.tup [tx g0.1,.ref R])) g (.lst (V.ref t9::gvt))):=fM (jG s8T) (tN _);have hR11:Rules (upd (upd H9 t9 (.tup [tx g0.1,.ref R])) g (.lst (V.ref t9::gvt))) R rs:=kh eg10 nRg (hRs.same s10);have et11:upd (upd H9 t9 (.tup [tx g0.1,.ref R])) g (.lst (V.ref t9::gvt)) t9=some (.tup [tx g0.1,.ref R]):=cg eg10 _ _ upd_same;have eg11:upd (upd H9 t9 (.tup [tx g0.1,.ref R])) g (.lst (V.ref t9::gvt)) g=some (.lst (V.ref t9::gvt)):=upd_same;generalize upd (upd H9 t9 (.tup [tx g0.1,.ref R])) g (.lst (V.ref t9::gvt))=H11 at bg hR11 et11 eg11 ⊢;have s411:=pB s47 hg0 bg;have el11:=bg _ _ nlg el7;have tp:∀ t ts,H7 t=some (.tup ts)->H11 t=some (.tup ts):=fun t ts z=>bg _ _ (fun y=>by rw [y,eg] at z; cases z) z
  have hH11:HouseAt H11 hq ((g0.1,rs)::gst,ws):=by
   obtain ⟨us7,ew7,pw7⟩:=hw7;refine ⟨g,w,tp _ _ hN7.tup,⟨_,eg11,.cons ⟨t9,R,rfl,et11,hR11⟩ (L2.Paired.mapP pg2 ?_)⟩,⟨us7,bg _ _ (Ne.symm hN7.ne) ew7,L2.Paired.mapP pw7 ?_⟩⟩
   ·rintro x v ⟨t,r,rfl,n,h1,h2⟩;exact ⟨t,r,rfl,tp _ _ h1,om bg eg n.1 h2⟩
   ·rintro x v ⟨t,rfl,h1⟩;exact ⟨t,rfl,tp _ _ h1⟩
  have hL11:=tS bg eg npg hL7;refine ⟨((g0.1,rs)::gst,ws),s411,bg _ _ ntg et7,hL11,hH11,?_,?_,el11⟩
  ·refine ⟨hok7.nd,fun x hx=>?_,hok7.g3,fun x hx=>?_,fun x hx=>?_,hok7.ways,hok7.w8⟩
   ·rcases List.mem_cons.mp hx with rfl | hx
    ·exact hok7.door g0 (List.mem_cons_self ..)
    ·exact hok7.door x (List.mem_cons_of_mem _ hx)
   ·rcases List.mem_cons.mp hx with rfl | hx
    ·exact fun r hr=>(hrok r hr).1
    ·exact hok7.rules x (List.mem_cons_of_mem _ hx)
   ·rcases List.mem_cons.mp hx with rfl | hx
    ·show rs.length<=300;omega
    ·exact hok7.many x (List.mem_cons_of_mem _ hx)
  ·intro x hx r hr;rcases List.mem_cons.mp hx with rfl | hx
   ·exact (hrok r hr).2
   ·exact (hov x (List.mem_cons_of_mem _ hx) r hr).2
 ·rintro σ' H8 ⟨hs',rfl,s48,etd8,hL8,hH8,hok8,hov8,el8⟩;intro C hC;exact hC a p td hq lt ns ls ps hs' pl le ((s14.trans s48).seq hS) hL8 ok etd8 tok hH8 hok8 hov8 el8 hle ⟨c0,TT,htab,s48 _ _ (s14 _ _ hTT)⟩ q
end
def DefI (K:Frag) (x:Str) (t:Stmt):Prop:=∃ (f:Addr) (od an:Option Addr) (sl:Array (Option Value)) (oc kV dc pm cd ct:Value),nsIn K mainGlobals x=some (some (.ref f))/\K.lookup f=some ⟨oc,od,.func (fnOf x x (defArgs t) (defBody t) (defScope t) .none kV dc pm an cd ct),sl⟩/\codeIn K cd x=true/\keepIn K (.ref f)=true
theorem DefI.of {K:Frag} {x:Str} {t:Stmt} {f:Addr} {od an:Option Addr} {sl:Array (Option Value)} {oc kV dc pm cd ct:Value} (a:nsIn K mainGlobals x=some (some (.ref f))) (l:K.lookup f=some ⟨oc,od,.func (fnOf x x (defArgs t) (defBody t) (defScope t) .none kV dc pm an cd ct),sl⟩) (c:codeIn K cd x=true) (k:keepIn K (.ref f)=true):DefI K x t:=⟨f,od,an,sl,oc,kV,dc,pm,cd,ct,a,l,c,k⟩
theorem DefI.fn {K:Frag} {h:Heap} {mg:Str->Option Value} {x:Str} {t:Stmt} (d:DefI K x t) (X:K.In h) (G:h.Ns mainGlobals mg):Fn K mg x t:=by
 obtain ⟨f,od,an,sl,oc,kV,dc,pm,cd,ct,a,l,c,k⟩:=d;exact ⟨_,_,mX (st:=t) l c k,mg_of X G a⟩
theorem DefI.cut {K:Frag} {x:Str} {t:Stmt} (d:DefI K x t):DefI (L2.cut K) x t:=by
 obtain ⟨f,od,an,sl,oc,kV,dc,pm,cd,ct,a,l,c,k⟩:=d;have e:=L2.cut_lookup l (by unfold L2.isTab; cases oc <;> rfl);exact ⟨f,od,an,sl,oc,kV,dc,pm,cd,ct,L2.cut_ns a,e,L2.cut_code c,L2.cut_keep e⟩
theorem all_mk {K:Frag} {h:Heap} {mg:Str->Option Value} (X:K.In h) (G:h.Ns mainGlobals mg)
  {cA:Addr} (eM:nsIn K mainGlobals "Gate" = some (some (.ref cA))) (pg_Gate:PySem.W.plainGet K cA Str.empty=true) (hd_Gate:PySem.W.hasDictIn K cA=true) (po_Gate:PySem.W.plainOver K cA=true) (sa_Gate:findIn K (.ref cA) "__setattr__" = some (some (.builtin "object.__setattr__"))) (mk_Gate:PySem.W.makesIn K cA=true) (kc_Gate:keepIn K (.ref cA)=true)
  (at_Gate_rules:findIn K (.ref cA) "rules" = some none)
  (at_Gate_ways:findIn K (.ref cA) "ways" = some none)
  (at_Gate_rules_fork:findIn K (.ref cA) "rules_fork" = some none)
  (at_Gate_ways_fork:findIn K (.ref cA) "ways_fork" = some none)
  {f47:Addr} {od47 an47:Option Addr} {sl47:Array (Option Value)} {oc47 kV47 dc47 pm47 cd47 ct47:Value}
  {f48:Addr} {od48 an48:Option Addr} {sl48:Array (Option Value)} {oc48 kV48 dc48 pm48 cd48 ct48:Value}
  {f49:Addr} {od49 an49:Option Addr} {sl49:Array (Option Value)} {oc49 kV49 dc49 pm49 cd49 ct49:Value}
  {f50:Addr} {od50 an50:Option Addr} {sl50:Array (Option Value)} {oc50 kV50 dc50 pm50 cd50 ct50:Value}
  (a0:DefI K "row_meet" jd)
  (a1:DefI K "row_with" ja)
  (a2:DefI K "row_narrowed" cM)
  (a3:DefI K "heap_width" f8)
  (a4:DefI K "heap_places" dh)
  (a5:DefI K "layout_width" cF)
  (a6:DefI K "field_span" gE)
  (a7:DefI K "fork_of" cV)
  (a8:DefI K "firsts_of" hU)
  (a9:DefI K "fork_below" gz)
  (a10:DefI K "firsts_side" de)
  (a11:DefI K "fork_parts" fX)
  (a12:DefI K "is_dropped" gn)
  (a13:DefI K "longest_first" dC)
  (a14:DefI K "way_row" kf)
  (a15:DefI K "door_at" j5)
  (a16:DefI K "gate_rules" gh)
  (a17:DefI K "sent_by" kL)
  (a18:DefI K "house_shares" d4)
  (a19:DefI K "to_row" mS)
  (a20:DefI K "_law_draw" hJ)
  (a21:DefI K "_law_names" cN)
  (a22:DefI K "_law_layout" di)
  (a23:DefI K "_law_width" dM)
  (a24:DefI K "_law_span" ia)
  (a25:DefI K "_law_told" io)
  (a26:DefI K "_law_over_at" cP)
  (a27:DefI K "_law_signs" gH)
  (a28:DefI K "_law_rule" ik)
  (a29:DefI K "_law_ways" fe)
  (a30:DefI K "_law_house" cS)
  (a31:DefI K "_law_letters" bG)
  (a32:DefI K "_law_lies" h7)
  (a33:DefI K "_law_written" cO)
  (a34:DefI K "_law_goes" gX)
  (a35:DefI K "_law_does" hZ)
  (a36:DefI K "_law_same" eS)
  (a37:DefI K "_law_copy" dq)
  (a38:DefI K "_law_is_row" dg)
  (a39:DefI K "_law_apart" gD)
  (a40:DefI K "_law_all_apart" cX)
  (a41:DefI K "_law_size" ic)
  (a42:DefI K "_law_what_alike" cE)
  (a43:DefI K "_law_are_shares" bD)
  (a44:DefI K "_law_more_rules" cH)
  (a45:DefI K "_law_long_ways" aV)
  (a46:DefI K "law" kN)
  (a47:findIn K (.ref cA) "__init__" = some (some (.ref f47))) (l47:K.lookup f47=some ⟨oc47,od47,.func (fnOf "__init__" "Gate.__init__" (defArgs aU) (defBody aU) (defScope aU) .none kV47 dc47 pm47 an47 cd47 ct47),sl47⟩) (c47:codeIn K cd47 "Gate.__init__" = true) (k47:keepIn K (.ref f47)=true) (w47:PySem.W.isFn K (.ref f47)=true)
  (a48:findIn K (.ref cA) "parts_of" = some (some (.ref f48))) (l48:K.lookup f48=some ⟨oc48,od48,.func (fnOf "parts_of" "Gate.parts_of" (defArgs bi) (defBody bi) (defScope bi) .none kV48 dc48 pm48 an48 cd48 ct48),sl48⟩) (c48:codeIn K cd48 "Gate.parts_of" = true) (k48:keepIn K (.ref f48)=true) (w48:PySem.W.isFn K (.ref f48)=true)
  (a49:findIn K (.ref cA) "ruled_parts" = some (some (.ref f49))) (l49:K.lookup f49=some ⟨oc49,od49,.func (fnOf "ruled_parts" "Gate.ruled_parts" (defArgs bd) (defBody bd) (defScope bd) .none kV49 dc49 pm49 an49 cd49 ct49),sl49⟩) (c49:codeIn K cd49 "Gate.ruled_parts" = true) (k49:keepIn K (.ref f49)=true) (w49:PySem.W.isFn K (.ref f49)=true)
  (a50:findIn K (.ref cA) "done_parts" = some (some (.ref f50))) (l50:K.lookup f50=some ⟨oc50,od50,.func (fnOf "done_parts" "Gate.done_parts" (defArgs aT) (defBody aT) (defScope aT) .none kV50 dc50 pm50 an50 cd50 ct50),sl50⟩) (c50:codeIn K cd50 "Gate.done_parts" = true) (k50:keepIn K (.ref f50)=true) (w50:PySem.W.isFn K (.ref f50)=true)
  (xr:nsIn K mainGlobals "zip" = some none)
  (xw:nsIn K mainGlobals "len" = some none)
  (qh:nsIn K mainGlobals "range" = some none)
  (xt:nsIn K mainGlobals "any" = some none)
  (xy:nsIn K mainGlobals "sum" = some none)
  (iC:nsIn K mainGlobals "enumerate" = some none)
  (gL:nsIn K mainGlobals "isinstance" = some none)
  (xz:nsIn K mainGlobals "int" = some none)
  (nw:nsIn K mainGlobals "sorted" = some none)
  (tK:nsIn K mainGlobals "list" = some none)
  (xC:nsIn K mainGlobals "set" = some none)
  (xx:nsIn K mainGlobals "min" = some none)
  (xB:nsIn K mainGlobals "str" = some none)
  (qg:nsIn K mainGlobals "tuple" = some none)
  (xq:nsIn K mainGlobals "all" = some none)
  (tJ:nsIn K mainGlobals "bool" = some none)
  (lam_longest_first:∃ c T,LamFn K mg "longest_first" c T)
  : Top K mg where
 c_Gate:=zc X G eM pg_Gate hd_Gate po_Gate sa_Gate
 a_Gate_rules:=iJ eM at_Gate_rules
 a_Gate_ways:=iJ eM at_Gate_ways
 a_Gate_rules_fork:=iJ eM at_Gate_rules_fork
 a_Gate_ways_fork:=iJ eM at_Gate_ways_fork
 nv:=a0.fn X G
 nA:=a1.fn X G
 iu:=a2.fn X G
 jZ:=a3.fn X G
 iZ:=a4.fn X G
 iA:=a5.fn X G
 jY:=a6.fn X G
 o0:=a7.fn X G
 lh:=a8.fn X G
 gK:=a9.fn X G
 iY:=a10.fn X G
 gJ:=a11.fn X G
 jX:=a12.fn X G
 gS:=a13.fn X G
 oX:=a14.fn X G
 oW:=a15.fn X G
 jV:=a16.fn X G
 oY:=a17.fn X G
 iw:=a18.fn X G
 rE:=a19.fn X G
 lf:=a20.fn X G
 j3:=a21.fn X G
 iX:=a22.fn X G
 j0:=a23.fn X G
 lg:=a24.fn X G
 lj:=a25.fn X G
 ix:=a26.fn X G
 jW:=a27.fn X G
 lb:=a28.fn X G
 ll:=a29.fn X G
 j4:=a30.fn X G
 iy:=a31.fn X G
 k9:=a32.fn X G
 iz:=a33.fn X G
 li:=a34.fn X G
 lm:=a35.fn X G
 ir:=a36.fn X G
 iB:=a37.fn X G
 iW:=a38.fn X G
 jU:=a39.fn X G
 fV:=a40.fn X G
 ld:=a41.fn X G
 fj:=a42.fn X G
 ff:=a43.fn X G
 fh:=a44.fn X G
 fT:=a45.fn X G
 zq:=a46.fn X G
 fU:=zw eM mk_Gate kc_Gate a47 w47 (mX (st:=aU) l47 c47 k47)
 fS:=ni eM a48 w48 k48 (mX (st:=bi) l48 c48 k48)
 dH:=ni eM a49 w49 k49 (mX (st:=bd) l49 c49 k49)
 eN:=ni eM a50 w50 k50 (mX (st:=aT) l50 c50 k50)
 oZ:=PySem.W.mg_none_of X G xr
 bc:=PySem.W.mg_none_of X G xw
 bE:=PySem.W.mg_none_of X G qh
 zr:=PySem.W.mg_none_of X G xt
 ug:=PySem.W.mg_none_of X G xy
 fg:=PySem.W.mg_none_of X G iC
 aB:=PySem.W.mg_none_of X G gL
 oV:=PySem.W.mg_none_of X G xz
 ny:=PySem.W.mg_none_of X G nw
 kM:=PySem.W.mg_none_of X G tK
 zp:=PySem.W.mg_none_of X G xC
 rD:=PySem.W.mg_none_of X G xx
 oU:=PySem.W.mg_none_of X G xB
 gI:=PySem.W.mg_none_of X G qg
 xu:=PySem.W.mg_none_of X G xq
 nz:=PySem.W.mg_none_of X G tJ
 lam_longest_first:=lam_longest_first
theorem law_bind {P:Program} {w:World} {K:Frag} {mg:Str->Option Value} (T:Top K mg):∃ f fd,(∀ base:Heap,FnOk P w K mg base CX0 24 f fd ["_law_script"] (kt K))/\(∀ (s:Shared) (u:Value),BindsTo s fd ⟨[u],[]⟩ [("_law_script",u)])/\mg "law" = some (.ref f):=by
 obtain ⟨f,fd,F,m⟩:=T.zq;refine ⟨f,fd,fun base=>zO T F,?_,m⟩;obtain ⟨oc,od,kV,doc,pm,an,cdv,ct,osl,rfl,lk,hcd⟩:=F.ex;exact fun s u=>.of_eq rfl
theorem walk {l:PySem.W.OpenLaw} {q:Program} {loose:List Str} {XP:(Str->Option Value)->Heap->Prop} {d:DefRec} {K:Params->Frag} {as:List Addr} {nn tt:Nat} {c T:Addr} (hn:l.most=some 63) (hdf:d.params.defaults=[]) (has:∀ P,as=(K P).map (·.1)) (htt:0 < tt)
  (hT:∀ (w:World),L2.LamOk (K w.params) "longest_first" c T)
  (F:∀ (w:World) (mg:Str->Option Value) (fa:Addr) (h:Heap),L2.LamOk (K w.params) "longest_first" c T->(L2.cut (K w.params)).In h->h.Ns mainGlobals mg->mg d.name=some (.ref fa) ->
   ∃ fd:FuncData,(∀ (s:Shared) (u:Value),BindsTo s fd ⟨[u],[]⟩ [("_law_script",u)])/\∀ base:Heap,(L2.cut (K w.params)).In base->base.Ns mainGlobals mg->FnOk l.prog w (L2.cut (K w.params)) mg base CX0 24 fa fd ["_law_script"] (kt (L2.cut (K w.params)))):
  PySem.W.WalkX q loose XP (PySem.W.X.obsZ as) (PySem.W.X.valZ K nn tt) l.row.toRowW d [] (fun f vs=>PySem.call f vs):=
 L2.walk_ofXT (n:=63) (k:=24) (x := "_law_script") (c:=c) (T:=T) (K:=fun p=>L2.cut (K p)) (CX:=fun _=>CX0) (sp:=fun w=>kt (L2.cut (K w.params))) hn (by decide) hdf ⟨rfl,by decide,by decide,rfl⟩ (fun w s Y=>(hT w).zz Y has htt) (fun w mg fa h=>F w mg fa h (hT w)) (fun w _ a ns hl hH hS=>⟨ns,hS,hl,⟨c,T,L2.cut_tab (hT w).tb,hH⟩,fun _=>rfl⟩) fun _ _ _ _ _ z=>z
end Law
open PySem PySem.W PyProof.Rows
local macro_rules | `(tactic| walk_at "df")=>`(tactic| (refine' Law.DefI.of ?a ?l ?c ?k; (case a=>k_is); (case l=>k_is); (case c=>k_is); (case k=>k_is)))
local macro_rules | `(tactic| walk_at "ec")=>`(tactic| (refine' ⟨?n,?q,?t,?b,?g,?h,?a,?o⟩; (case n=>k_is); (case q=>k_exc); (case t=>k_is); (case b=>k_is); (case g=>k_is); (case h=>k_is); (case a=>k_is); (case o=>k_is)))
set_option maxRecDepth 100000 in
set_option maxHeartbeats 0 in
theorem PySem.Challenge.cw_throng_k31_house_shares_holds : PySem.Challenge.rw_throng_k31_house_shares.Holds := by
 w_on; o_law; z_head; (case hw=>w_witness2)
 k_fill
 refine' Law.walk (l:=PySem.Challenge.rw_throng_k31_house_shares) (c:=?c) (T:=?T) rfl rfl (fun _=>rfl) (by decide) ?hT ?F
 case hT=>
  intro w;refine' L2.lamok_mk ?a ?l ?hcd ?e1 ?e2 ?e4 ?e5 ?e6 ?e7 ?ne ?b1 ?b2 ?b3 ?b4 ?eT
  (case a=>k_is); (case l=>k_is); (case hcd=>rfl); (case e1=>k_is); (case e2=>rfl); (case e4=>rfl); (case e5=>rfl); (case e6=>rfl); (case e7=>rfl); (case ne=>decide); (case b1=>k_is); (case b4=>k_is); (case b2=>decide); (case b3=>decide); (case eT=>k_is)
 case F=>
  intro w mg fa h LO KX G hmg;have T:Law.Top (L2.KOf KX) mg:=by
   dsimp only [L2.KOf];refine' Law.all_mk KX G ?eM ?pg_Gate ?hd_Gate ?po_Gate ?sa_Gate ?mk_Gate ?kc_Gate ?at_Gate_rules ?at_Gate_ways ?at_Gate_rules_fork ?at_Gate_ways_fork ?a0 ?a1 ?a2 ?a3 ?a4 ?a5 ?a6 ?a7 ?a8 ?a9 ?a10 ?a11 ?a12 ?a13 ?a14 ?a15 ?a16 ?a17 ?a18 ?a19 ?a20 ?a21 ?a22 ?a23 ?a24 ?a25 ?a26 ?a27 ?a28 ?a29 ?a30 ?a31 ?a32 ?a33 ?a34 ?a35 ?a36 ?a37 ?a38 ?a39 ?a40 ?a41 ?a42 ?a43 ?a44 ?a45 ?a46 ?a47 ?l47 ?c47 ?k47 ?w47 ?a48 ?l48 ?c48 ?k48 ?w48 ?a49 ?l49 ?c49 ?k49 ?w49 ?a50 ?l50 ?c50 ?k50 ?w50 ?xr ?xw ?qh ?xt ?xy ?iC ?gL ?xz ?nw ?tK ?xC ?xx ?xB ?qg ?xq ?tJ ⟨_,_,LO.fn KX G⟩
   (case eM=>refine L2.cut_ns ?_; k_is); (case pg_Gate=>refine L2.cut_get ?_; k_is); (case hd_Gate=>refine L2.cut_hasDict ?_; k_is); (case po_Gate=>refine L2.cut_over ?_; k_is); (case sa_Gate=>refine L2.cut_find ?_; k_is); (case mk_Gate=>refine L2.cut_makes ?_; k_is); (case kc_Gate=>refine' L2.cut_keepM ?m ?k; (case m=>k_is); (case k=>k_is))
   (case at_Gate_rules=>refine L2.cut_find ?_; k_is)
   (case at_Gate_ways=>refine L2.cut_find ?_; k_is)
   (case at_Gate_rules_fork=>refine L2.cut_find ?_; k_is)
   (case at_Gate_ways_fork=>refine L2.cut_find ?_; k_is)
   (case a0=>refine Law.DefI.cut ?_; walk_at "df")
   (case a1=>refine Law.DefI.cut ?_; walk_at "df")
   (case a2=>refine Law.DefI.cut ?_; walk_at "df")
   (case a3=>refine Law.DefI.cut ?_; walk_at "df")
   (case a4=>refine Law.DefI.cut ?_; walk_at "df")
   (case a5=>refine Law.DefI.cut ?_; walk_at "df")
   (case a6=>refine Law.DefI.cut ?_; walk_at "df")
   (case a7=>refine Law.DefI.cut ?_; walk_at "df")
   (case a8=>refine Law.DefI.cut ?_; walk_at "df")
   (case a9=>refine Law.DefI.cut ?_; walk_at "df")
   (case a10=>refine Law.DefI.cut ?_; walk_at "df")
   (case a11=>refine Law.DefI.cut ?_; walk_at "df")
   (case a12=>refine Law.DefI.cut ?_; walk_at "df")
   (case a13=>refine Law.DefI.cut ?_; walk_at "df")
   (case a14=>refine Law.DefI.cut ?_; walk_at "df")
   (case a15=>refine Law.DefI.cut ?_; walk_at "df")
   (case a16=>refine Law.DefI.cut ?_; walk_at "df")
   (case a17=>refine Law.DefI.cut ?_; walk_at "df")
   (case a18=>refine Law.DefI.cut ?_; walk_at "df")
   (case a19=>refine Law.DefI.cut ?_; walk_at "df")
   (case a20=>refine Law.DefI.cut ?_; walk_at "df")
   (case a21=>refine Law.DefI.cut ?_; walk_at "df")
   (case a22=>refine Law.DefI.cut ?_; walk_at "df")
   (case a23=>refine Law.DefI.cut ?_; walk_at "df")
   (case a24=>refine Law.DefI.cut ?_; walk_at "df")
   (case a25=>refine Law.DefI.cut ?_; walk_at "df")
   (case a26=>refine Law.DefI.cut ?_; walk_at "df")
   (case a27=>refine Law.DefI.cut ?_; walk_at "df")
   (case a28=>refine Law.DefI.cut ?_; walk_at "df")
   (case a29=>refine Law.DefI.cut ?_; walk_at "df")
   (case a30=>refine Law.DefI.cut ?_; walk_at "df")
   (case a31=>refine Law.DefI.cut ?_; walk_at "df")
   (case a32=>refine Law.DefI.cut ?_; walk_at "df")
   (case a33=>refine Law.DefI.cut ?_; walk_at "df")
   (case a34=>refine Law.DefI.cut ?_; walk_at "df")
   (case a35=>refine Law.DefI.cut ?_; walk_at "df")
   (case a36=>refine Law.DefI.cut ?_; walk_at "df")
   (case a37=>refine Law.DefI.cut ?_; walk_at "df")
   (case a38=>refine Law.DefI.cut ?_; walk_at "df")
   (case a39=>refine Law.DefI.cut ?_; walk_at "df")
   (case a40=>refine Law.DefI.cut ?_; walk_at "df")
   (case a41=>refine Law.DefI.cut ?_; walk_at "df")
   (case a42=>refine Law.DefI.cut ?_; walk_at "df")
   (case a43=>refine Law.DefI.cut ?_; walk_at "df")
   (case a44=>refine Law.DefI.cut ?_; walk_at "df")
   (case a45=>refine Law.DefI.cut ?_; walk_at "df")
   (case a46=>refine Law.DefI.cut ?_; walk_at "df")
   (case a47=>refine L2.cut_find ?_; k_is); (case l47=>refine' L2.cut_lookup ?x ?y; (case x=>k_is); (case y=>rfl)); (case c47=>refine L2.cut_code ?_; k_is); (case k47=>refine L2.cut_keepF ?_; k_is); (case w47=>refine L2.cut_isFn ?_; k_is)
   (case a48=>refine L2.cut_find ?_; k_is); (case l48=>refine' L2.cut_lookup ?x ?y; (case x=>k_is); (case y=>rfl)); (case c48=>refine L2.cut_code ?_; k_is); (case k48=>refine L2.cut_keepF ?_; k_is); (case w48=>refine L2.cut_isFn ?_; k_is)
   (case a49=>refine L2.cut_find ?_; k_is); (case l49=>refine' L2.cut_lookup ?x ?y; (case x=>k_is); (case y=>rfl)); (case c49=>refine L2.cut_code ?_; k_is); (case k49=>refine L2.cut_keepF ?_; k_is); (case w49=>refine L2.cut_isFn ?_; k_is)
   (case a50=>refine L2.cut_find ?_; k_is); (case l50=>refine' L2.cut_lookup ?x ?y; (case x=>k_is); (case y=>rfl)); (case c50=>refine L2.cut_code ?_; k_is); (case k50=>refine L2.cut_keepF ?_; k_is); (case w50=>refine L2.cut_isFn ?_; k_is)
   (case xr=>refine L2.cut_ns ?_; k_is)
   (case xw=>refine L2.cut_ns ?_; k_is)
   (case qh=>refine L2.cut_ns ?_; k_is)
   (case xt=>refine L2.cut_ns ?_; k_is)
   (case xy=>refine L2.cut_ns ?_; k_is)
   (case iC=>refine L2.cut_ns ?_; k_is)
   (case gL=>refine L2.cut_ns ?_; k_is)
   (case xz=>refine L2.cut_ns ?_; k_is)
   (case nw=>refine L2.cut_ns ?_; k_is)
   (case tK=>refine L2.cut_ns ?_; k_is)
   (case xC=>refine L2.cut_ns ?_; k_is)
   (case xx=>refine L2.cut_ns ?_; k_is)
   (case xB=>refine L2.cut_ns ?_; k_is)
   (case qg=>refine L2.cut_ns ?_; k_is)
   (case xq=>refine L2.cut_ns ?_; k_is)
   (case tJ=>refine L2.cut_ns ?_; k_is)
  obtain ⟨f,fd,F,b,m⟩:=Law.law_bind (P:=PySem.Challenge.pw_throng_k31_house_shares) (w:=w) T;have e0:=hmg.symm.trans m;cases e0;exact ⟨fd,b,fun base _ _=>F base⟩
#print axioms PySem.Challenge.cw_throng_k31_house_shares_holds
