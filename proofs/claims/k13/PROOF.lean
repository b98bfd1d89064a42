import PyProof.Rows.All
import Wide.All
import OpenK.AllK
import Wide.FinOn
import Lean
import PyProof.EqAt
import PyProof.EqKinds
import PyProof.TupleCall
import KE.KLam
import KE.KSortKey
import KE.KSorted
import KE.KTabLook
import KE.KMinKey
import PySem.Challenge.RW_throng_k13_blends
namespace PySem.W.Fast
def tw15556688764256759848:=0
def tw3369763735404579882:=0
def tw17380306540844397099:=0
def tw9018363670853988621:=0
def tw16575159163844627277:=0
def tw17197885717459918000:=0
def tw13260368835773088241:=0
def tw12469458800789249172:=0
def tw11159605972570340788:=0
def tw1240101248380048885:=0
def tw4200892655938849493:=0
def tw8643710536378618070:=0
def tw4220636698825664631:=0
def tw4293366882777831514:=0
def tw18145302183839106110:=0
def tw5016043955460567006:=0
def tw17878049843824754327:=0
def tw10532002754653811483:=0
def tw752378522422298215:=0
def tw1615389756408773828:=0
def tw2380096633683583212:=0
def tw17614307307439627177:=0
def tw5900289296675167068:=0
def tw16753959012405956391:=0
def tw15017470135902455592:=0
def tw12192130400798745357:=0
def tw13093311171176789947:=0
def tw4090504584140495940:=0
def tw7847153680840795192:=0
def tw14828828197711559625:=0
def tw12372223867961067122:=0
def tw11131769620062141220:=0
def tw2468502769375349007:=0
def tw11064978706806867270:=0
def tw13927739960980039541:=0
def tw12886838715273407379:=0
def tw8160650172089049976:=0
def tw8752422431975651071:=0
def tw2058821319502045732:=0
def tw14417187748581976783:=0
def tw3715870150656221799:=0
def tw12401981844347211160:=0
def tw12414297808760187078:=0
def tw5997716934193003180:=0
def tw10428511789687450515:=0
def tw6421525348864937337:=0
def tw17506977758856920355:=0
def tw2027495365362618590:=0
def tw15190716614700158170:=0
def tw1388684910637363805:=0
def tw6333032970559008099:=0
def tw14508791917656459649:=0
def tw12553482998226538897:=0
def tw17425837489245513222:=0
def tw12748671647997180718:=0
def tw15173984581517599086:=0
def tw3556436322299647652:=0
def tw14929193577150468278:=0
def tw13487718301260043964:=0
def tw13630661998979546390:=0
def tw13248976871516679145:=0
def tw11467154891655177969:=0
def tw3738148445745281584:=0
def tw8492471568210998829:=0
def tw13835267990409405282:=0
def tw5612378357045925334:=0
def tw1450627457301639588:=0
def tw12835252638526445424:=0
def tw10470592078078507090:=0
def tw15632981900447075340:=0
def tw6572075923786246467:=0
def tw7563319084572359780:=0
def tw1647617624478651920:=0
def tw12091772377422359967:=0
def tw3046110784271809406:=0
def tw13922440202100129632:=0
def tw6736988392794829611:=0
def tw12874718825053828027:=0
def tw8370788659409761228:=0
def tw14335454097038176389:=0
def tw7794510571280832330:=0
def tw5274354290061047185:=0
def tw17177164969081891008:=0
def tw4360202289104432425:=0
def tw13227301582050403856:=0
def tw5034038525005313590:=0
def tw15521928001662403603:=0
def tw654581815322974146:=0
def tw16439083145352377769:=0
def tw6650475201477113581:=0
def tw2440912471689619302:=0
def tw1377698809288388409:=0
def tw2425768851327779935:=0
def tw8135479330813088722:=0
def tw7246345484363518565:=0
def tw11783534025481569146:=0
def tw4528642460531347686:=0
def tw5629133512630749437:=0
def tw18022236973460949832:=0
def tw18439579826455680432:=0
def tw589500190457654539:=0
def tw8892401121284318825:=0
def tw5088735816446596917:=0
def tw15104746313874439838:=0
def tw8697861779026754219:=0
def tw10624978938964262867:=0
def tw2683209823799113357:=0
def tw11115684870002463057:=0
def tw7625934558791601008:=0
def tw17561313997625347551:=0
def tw6489469455662327992:=0
def tw3568229292833893273:=0
def tw14730184180858069642:=0
def tw5168405482332257117:=0
def tw4298029087936043801:=0
def tw11353154951445377830:=0
def tw10963823586486755440:=0
def tw7706513939418801007:=0
def tw13964045677877118528:=0
def tw13971519468674128355:=0
def tw7508056925365709519:=0
def tw6590203344006695859:=0
def tw17767123270770496212:=0
def tw990268631054798137:=0
end PySem.W.Fast
open PySem.W (Frag nsIn keepIn fnOf codeIn mg_of findIn)
set_option compiler.extract_closed false
set_option Elab.async false
set_option linter.all false
set_option maxRecDepth 100000
namespace L2
open PySem PySem.Spec PyProof.Rows
noncomputable abbrev Key:=Sum Int Str
noncomputable def keyIs:Key -> Value -> Bool
 | .inl k,v=>Value.isInt k v
 | .inr x,v=>Value.isStrOf x v
noncomputable def keyH (w:World):Key -> Int
 | .inl k=>hashInt k
 | .inr x=>hashStr w x
theorem keyIs_shape:∀ {k:Key} {v:Value},keyIs k v = true -> (∃ i t,k = Sum.inl i /\ v = Value.int i t) \/ (∃ x t,k = Sum.inr x /\ v = Value.str x t)
 | .inl i,v,h=>by
  obtain ⟨t,e⟩:=Value.isInt_shape (k:=i) (v:=v) h
  exact .inl ⟨i,t,rfl,e⟩
 | .inr x,v,h=>by
  obtain ⟨t,e⟩:=Value.isStrOf_shape (x:=x) (v:=v) h
  exact .inr ⟨x,t,rfl,e⟩
theorem keyIs_int (i:Int) (t:Tok):keyIs (.inl i) (.int i t) = true:=by simp [keyIs,Value.isInt]
theorem keyIs_str (x:Str) (t:Tok):keyIs (.inr x) (.str x t) = true:=by simp [keyIs,Value.isStrOf]
theorem key_ll (a b:Int):decide ((Sum.inl a:Key) = Sum.inl b) = (a == b):=by
 by_cases e:a = b
 ·subst e; simp
 ·have h:¬ (Sum.inl a:Key) = Sum.inl b:=fun q=>e (Sum.inl.inj q)
  rw [decide_eq_false h]
  exact (beq_eq_false_iff_ne.mpr e).symm
theorem key_rr (a b:Str):decide ((Sum.inr a:Key) = Sum.inr b) = decide (a = b):=by
 by_cases e:a = b
 ·subst e; simp
 ·have h:¬ (Sum.inr a:Key) = Sum.inr b:=fun q=>e (Sum.inr.inj q)
  rw [decide_eq_false h,decide_eq_false e]
theorem key_lr (a:Int) (b:Str):decide ((Sum.inl a:Key) = Sum.inr b) = false:=decide_eq_false (fun q=>nomatch q)
theorem key_rl (a:Str) (b:Int):decide ((Sum.inr a:Key) = Sum.inl b) = false:=decide_eq_false (fun q=>nomatch q)
noncomputable def mixKind (prog:Program) (w:World):PySem.KeyKind prog w Key where
 is:=keyIs
 hash:=keyH w
 inj:=fun v a b ha hb=>by
  rcases keyIs_shape ha with ⟨i,t,rfl,rfl⟩ | ⟨x,t,rfl,rfl⟩
  ·rcases keyIs_shape hb with ⟨j,u,rfl,e⟩ | ⟨y,u,rfl,e⟩
   ·injection e with e1 _; rw [e1]
   ·exact nomatch e
  ·rcases keyIs_shape hb with ⟨j,u,rfl,e⟩ | ⟨y,u,rfl,e⟩
   ·exact nomatch e
   ·injection e with e1 _; rw [e1]
 byValue:=fun k v h=>by
  rcases keyIs_shape h with ⟨i,t,rfl,rfl⟩ | ⟨x,t,rfl,rfl⟩ <;> rfl
 pyHash:=fun hv h=>by
  rcases keyIs_shape hv with ⟨i,t,rfl,rfl⟩ | ⟨x,t,rfl,rfl⟩
  ·exact wpAny_pyHash_int h
  ·exact wpAny_pyHash_str h
 eqBool:=fun hu hv h=>by
  rcases keyIs_shape hu with ⟨i,t,rfl,rfl⟩ | ⟨x,t,rfl,rfl⟩
  ·rcases keyIs_shape hv with ⟨j,u,rfl,rfl⟩ | ⟨y,u,rfl,rfl⟩
   ·rw [key_ll] at h; exact wpAny_eqBool_int h
   ·rw [key_lr] at h; exact SeqAt.EqAt.int_str i t y u _ _ _ _ h
  ·rcases keyIs_shape hv with ⟨j,u,rfl,rfl⟩ | ⟨y,u,rfl,rfl⟩
   ·rw [key_rl] at h; exact SeqAt.EqAt.str_int x t j u _ _ _ _ h
   ·rw [key_rr] at h; exact wpAny_eqBool_str h
 «strs»:=fun k x t v h=>by
  rcases keyIs_shape h with ⟨i,u,rfl,e⟩ | ⟨y,u,rfl,e⟩
  ·exact nomatch e
  ·injection e with e1 _
   subst e1
   cases v <;> rfl
theorem mixKind_int (prog:Program) (w:World) (i:Int) (t:Tok):(mixKind prog w).is (.inl i) (.int i t) = true:=keyIs_int i t
theorem mixKind_str (prog:Program) (w:World) (x:Str) (t:Tok):(mixKind prog w).is (.inr x) (.str x t) = true:=keyIs_str x t
inductive V where
 | non | bl (b:Bool) | int (i:Int) | str (x:Str) | byt (b:Array UInt8) | flt (b:UInt64) | ref (a:Addr) | ty (n:String)
 deriving DecidableEq
noncomputable def RelV:V -> Value -> Prop
 | .non,u=>u = Value.none
 | .bl b,u=>u = Value.bool b
 | .int i,u=>∃ t,u = Value.int i t
 | .str x,u=>∃ t,u = Value.str x t
 | .byt b,u=>∃ t,u = Value.bytes b t
 | .flt b,u=>∃ t,u = Value.float b t
 | .ref a,u=>u = Value.ref a
 | .ty n,u=>u = Value.type n
noncomputable abbrev Vals:List V -> List Value -> Prop:=Paired RelV
theorem Vals.length {xs:List V} {us:List Value} (r:Vals xs us):xs.length = us.length:=Paired.length r
theorem Vals.get:∀ {xs:List V} {us:List Value} {i:Nat} {x:V},Vals xs us -> xs[i]? = some x -> ∃ u,us[i]? = some u /\ RelV x u
 | _,_,_,_,.nil,e=>by simp at e
 | _,_,0,_,.cons r _,e=>by simp at e; subst e; exact ⟨_,rfl,r⟩
 | _,_,i + 1,x,.cons _ t,e=>by
  obtain ⟨u,h1,h2⟩:=Vals.get (i:=i) (x:=x) t (by simpa using e)
  exact ⟨u,by simpa using h1,h2⟩
theorem Vals.set {x:V} {u:Value} (r:RelV x u):∀ {xs:List V} {us:List Value} (i:Nat),Vals xs us -> Vals (xs.set i x) (us.set i u)
 | _,_,_,.nil=>.nil
 | _,_,0,.cons _ t=>.cons r t
 | _,_,i + 1,.cons q t=>.cons q (Vals.set r i t)
theorem Vals.append:∀ {xs ys:List V} {us ws:List Value},Vals xs us -> Vals ys ws -> Vals (xs ++ ys) (us ++ ws)
 | _,_,_,_,.nil,s=>s
 | _,_,_,_,.cons r t,s=>.cons r (Vals.append t s)
theorem Vals.take:∀ {xs:List V} {us:List Value} (n:Nat),Vals xs us -> Vals (xs.take n) (us.take n)
 | _,_,0,_=>.nil
 | _,_,_ + 1,.nil=>.nil
 | _,_,n + 1,.cons r t=>.cons r (Vals.take n t)
theorem Vals.drop:∀ {xs:List V} {us:List Value} (n:Nat),Vals xs us -> Vals (xs.drop n) (us.drop n)
 | _,_,0,r=>r
 | _,_,_ + 1,.nil=>.nil
 | _,_,n + 1,.cons _ t=>Vals.drop n t
theorem Vals.none_of:∀ {xs:List V} {us:List Value} {i:Nat},Vals xs us -> xs[i]? = none -> us[i]? = none:=fun {xs us i} r e=>by
 have h1:=r.length
 have h2:xs.length <= i:=List.getElem?_eq_none_iff.mp e
 exact List.getElem?_eq_none_iff.mpr (by omega)
noncomputable def RelO:Option V -> Option Value -> Prop
 | some v,some u=>RelV v u
 | none,none=>True
 | _,_=>False
noncomputable def KV {κ:Type}:List (κ × V) -> List (κ × Value) -> Prop:=Paired fun (p:κ × V) (q:κ × Value)=>p.1 = q.1 /\ RelV p.2 q.2
noncomputable def kV:Key -> V
 | .inl i=>.int i
 | .inr x=>.str x
inductive HO where
 | lst (xs:List V)
 | tup (xs:List V)
 | dK (kvs:List (Key × V)) | dT (kvs:List (List Key × V))
 | set (S:Int -> Bool) (n:Nat)
 | ins (C dx:Addr) (fs:List (Str × V))
 | own (x:Addr)
 | xd (fs:List (Str × V))
 | met (f x:Addr)
 | rng (lo hi:Int)
 | frz (o:Obj) (u:HO)
 | tbl (ps:Array Value)
 | ext (φ:Heap -> Prop)
noncomputable abbrev Hp:=Addr -> Option HO
noncomputable def upd (H:Hp) (a:Addr) (o:HO):Hp:=fun b=>if b = a then some o else H b
theorem upd_same {H:Hp} {a:Addr} {o:HO}:upd H a o a = some o:=by unfold upd; rw [if_pos rfl]
theorem upd_ne {H:Hp} {a b:Addr} {o:HO} (h:b ≠ a):upd H a o b = H b:=by unfold upd; rw [if_neg h]
theorem ne_of {H:Hp} {a b:Addr} {o u:HO} (h:H a = some o) (h':H b = some u) (d:o ≠ u):a ≠ b:=by
 intro e; subst e; rw [h] at h'; exact d (Option.some.inj h')
theorem ne_of_none {H:Hp} {a b:Addr} {o:HO} (h:H a = some o) (h':H b = none):a ≠ b:=by
 intro e; subst e; rw [h] at h'; cases h'
section
variable (P:Program) (w:World)
noncomputable def ObjOk (H:Hp) (h:Heap) (a:Addr):HO -> Prop
 | .lst xs=>xs.length <= sizeLine /\ ∃ (its:List Value) (n:Nat),Vals xs its /\ h.get? a = some { cls:=.type "list",data:=.seq its.toArray n }
 | .tup xs=>xs.length <= sizeLine /\ ∃ its:List Value,Vals xs its /\ IsTup h a its.toArray
 | .dK kvs=>kvs.length <= sizeLine /\ (a == sysModules) = false /\ ∃ vs,KV kvs vs /\ h.DictOf (mixKind P w) a vs
 | .dT kvs=>kvs.length <= sizeLine /\ (a == sysModules) = false /\ ∃ xs:List (List Key × Addr × Value),
   Paired (fun (p:List Key × V) (q:List Key × Addr × Value)=>p.1 = q.1 /\ H q.2.1 = some (.tup (p.1.map kV)) /\ RelV p.2 q.2.2) kvs xs /\
   ∃ o es ep,h.get? a = some o /\ o.ExactDict /\ o.data = .dict es ep /\ es.toList = xs.map (entryOfKey (tupleKind (mixKind P w))) /\ (xs.map (·.1)).Nodup
 | .set S n=>h.SetOf (intKind P w) a S n
 | .ins C dx fs=>H dx = some (.own a) /\ fs.length <= 1000 /\ dx ≠ a /\ h.get? a = some (PySem.W.instObj C dx) /\
   ∃ mA,h.Ns1 dx mA /\ (∀ f,RelO (fs.lookup f) (mA f)) /\ PySem.Within mA (fs.map (·.1))
 | .own _=>∃ o,h.get? a = some o
 | .xd fs=>∃ mA,h.Ns1 a mA /\ ∀ f,RelO (fs.lookup f) (mA f)
 | .rng lo hi=>∃ t u v,h.get? a = some { cls:=.type "range",data:=.fields #[.int lo t,.int hi u,.int 1 v] }
 | .frz o u=>h.get? a = some o /\ ObjOk H h a u
 | .tbl ps=>h.get? a = some { cls:=.none,data:=.fields ps }
 | .met f x=>h.get? a = some (PySem.W.methodObj (.ref f) (.ref x))
 | .ext φ=>φ h /\ (∃ o,h.get? a = some o) /\ ∀ h1 h2:Heap,φ h1 -> (∀ o,h1.get? a = some o -> h2.get? a = some o) -> φ h2
def HOk (H:Hp) (h:Heap):Prop:=∀ a o,H a = some o -> ObjOk P w H h a o
end
section
variable {P:Program} {w:World} {H H':Hp} {h h':Heap} {a:Addr} {o:HO}
theorem ObjOk.lt (x:ObjOk P w H h a o):a < h.objs.size:=by
 cases o with
 | lst xs=>obtain ⟨_,_,_,_,e⟩:=x; exact Heap.lt_size e
 | tup xs=>obtain ⟨_,_,_,p⟩:=x; exact p.lt
 | dK kvs=>obtain ⟨_,_,_,_,o,_,_,e,_⟩:=x; exact Heap.lt_size e
 | dT kvs=>obtain ⟨_,_,_,_,o,_,_,e,_⟩:=x; exact Heap.lt_size e
 | set S n=>obtain ⟨o,_,_,_,e,_⟩:=x; exact Heap.lt_size e
 | ins C dx fs=>obtain ⟨_,_,_,e,_⟩:=x; exact Heap.lt_size e
 | own y=>obtain ⟨_,e⟩:=x; exact Heap.lt_size e
 | xd fs=>obtain ⟨_,⟨_,_,_,e,_⟩,_⟩:=x; exact Heap.lt_size e
 | rng lo hi=>obtain ⟨_,_,_,e⟩:=x; exact Heap.lt_size e
 | frz ob u=>obtain ⟨e,_⟩:=x; exact Heap.lt_size e
 | tbl ps=>exact Heap.lt_size (show h.get? a = some _ from x)
 | met f y=>exact Heap.lt_size (show h.get? a = some _ from x)
 | ext φ=>obtain ⟨_,⟨_,e⟩,_⟩:=x; exact Heap.lt_size e
theorem Paired.mapP {α β:Type} {F G:α -> β -> Prop}:∀ {l₁:List α} {l₂:List β},Paired F l₁ l₂ -> (∀ a b,F a b -> G a b) -> Paired G l₁ l₂
 | _,_,.nil,_=>.nil
 | _,_,.cons r t,f=>.cons (f _ _ r) (Paired.mapP t f)
theorem Paired.imp' {α β:Type} {F G:α -> β -> Prop} (f:∀ a b,F a b -> G a b) {l₁:List α} {l₂:List β} (r:Paired F l₁ l₂):Paired G l₁ l₂:=Paired.mapP r f
theorem ObjOk.stay (x:ObjOk P w H h a o) (k:∀ b u,(b = a \/ H b = some (.own a)) -> h.get? b = some u -> h'.get? b = some u)
  (ho:∀ b,H b = some (.own a) -> H' b = some (.own a)) (ht:∀ b xs,H b = some (.tup xs) -> H' b = some (.tup xs)):ObjOk P w H' h' a o:=by
 induction o with
 | lst xs=>obtain ⟨z,its,n,r,e⟩:=x; exact ⟨z,its,n,r,k _ _ (.inl rfl) e⟩
 | tup xs=>obtain ⟨z,its,r,ob,e,c⟩:=x; exact ⟨z,its,r,ob,k _ _ (.inl rfl) e,c⟩
 | dK kvs=>obtain ⟨z,y,vs,r,ob,es,ep,e,c⟩:=x; exact ⟨z,y,vs,r,ob,es,ep,k _ _ (.inl rfl) e,c⟩
 | dT kvs=>
  obtain ⟨z,y,xs,r,ob,es,ep,e,c⟩:=x
  exact ⟨z,y,xs,Paired.mapP r fun p q z=>⟨z.1,ht _ _ z.2.1,z.2.2⟩,ob,es,ep,k _ _ (.inl rfl) e,c⟩
 | set S n=>obtain ⟨ob,es,ep,t,e,c⟩:=x; exact ⟨ob,es,ep,t,k _ _ (.inl rfl) e,c⟩
 | ins C dx fs=>
  obtain ⟨d,z,ne,e,mA,⟨od,es,ep,e2,c⟩,r⟩:=x
  exact ⟨ho _ d,z,ne,k _ _ (.inl rfl) e,mA,⟨od,es,ep,k _ _ (.inr d) e2,c⟩,r⟩
 | own y=>obtain ⟨ob,e⟩:=x; exact ⟨ob,k _ _ (.inl rfl) e⟩
 | xd fs=>obtain ⟨mA,⟨od,es,ep,e,c⟩,r⟩:=x; exact ⟨mA,⟨od,es,ep,k _ _ (.inl rfl) e,c⟩,r⟩
 | rng lo hi=>obtain ⟨t,u,v,e⟩:=x; exact ⟨t,u,v,k _ _ (.inl rfl) e⟩
 | frz ob u ih=>obtain ⟨e,q⟩:=x; exact ⟨k _ _ (.inl rfl) e,ih q⟩
 | tbl ps=>
  have e:h.get? a = some { cls:=.none,data:=.fields ps }:=x
  show h'.get? a = some { cls:=.none,data:=.fields ps }
  exact k a _ (.inl rfl) e
 | met f y=>
  have e:h.get? a = some (PySem.W.methodObj (.ref f) (.ref y)):=x
  show h'.get? a = some (PySem.W.methodObj (.ref f) (.ref y))
  exact k a _ (.inl rfl) e
 | ext φ=>obtain ⟨p,⟨o,e⟩,st⟩:=x; exact ⟨st _ _ p fun o q=>k _ _ (.inl rfl) q,⟨o,k _ _ (.inl rfl) e⟩,st⟩
theorem HOk.lt (x:HOk P w H h) (e:H a = some o):a < h.objs.size:=(x a o e).lt
theorem HOk.fresh (x:HOk P w H h) (e:h.objs.size <= a):H a = none:=by
 cases q:H a with
 | none=>rfl
 | some u=>exact absurd (Nat.lt_of_lt_of_le (x.lt q) e) (Nat.lt_irrefl _)
theorem HOk.kept (x:HOk P w H h) (k:∀ b u,h.get? b = some u -> h'.get? b = some u):HOk P w H h':=fun a o e=>
 (x a o e).stay (fun b u _ q=>k b u q) (fun _ q=>q) fun _ _ q=>q
theorem HOk.laid (x:HOk P w H h) (k:∀ b u,h.get? b = some u -> h'.get? b = some u) (hp:h.objs.size <= a) (new:ObjOk P w (upd H a o) h' a o):HOk P w (upd H a o) h':=fun b u e=>by
 have hn:=x.fresh hp
 by_cases hb:b = a
 ·subst hb; rw [upd_same] at e; cases e; exact new
 ·rw [upd_ne hb] at e
  exact (x b u e).stay (fun c v _ q=>k c v q) (fun c q=>by rw [upd_ne (ne_of_none q hn)]; exact q) fun c xs q=>by rw [upd_ne (ne_of_none q hn)]; exact q
end
def Rd (H:Hp) (a:Addr) (u:HO):Prop:=H a = some u \/ ∃ o,H a = some (.frz o u)
theorem Rd.of {H:Hp} {a:Addr} {u:HO} (h:H a = some u):Rd H a u:=.inl h
theorem Rd.ok {P:Program} {w:World} {H:Hp} {h:Heap} {a:Addr} {u:HO} (r:Rd H a u) (x:HOk P w H h):ObjOk P w H h a u:=by
 rcases r with r | ⟨o,r⟩
 ·exact x a u r
 ·obtain ⟨_,q⟩:=x a _ r
  exact q
noncomputable def Mut:Option HO -> Prop
 | some (.lst _)=>True
 | some (.dK _)=>True
 | some (.dT _)=>True
 | some (.set _ _)=>True
 | some (.ins _ _ _)=>True
 | some (.ext _)=>True
 | _=>False
section
variable {P:Program} {w:World} {H:Hp} {h h':Heap} {x e:Addr} {o':HO}
theorem HOk.write (ok:HOk P w H h) (mu:Mut (H x)) (he:e = x \/ H e = some (.own x)) (k:∀ b u,b ≠ e -> h.get? b = some u -> h'.get? b = some u) (heo:∃ u,h'.get? e = some u)
  (new:ObjOk P w (upd H x o') h' x o'):HOk P w (upd H x o') h':=fun b u q=>by
 have nown:∀ c y,H c = some (.own y) -> c ≠ x:=fun c y r z=>by subst z; rw [r] at mu; exact mu
 have ntup:∀ c xs,H c = some (.tup xs) -> c ≠ x:=fun c xs r z=>by subst z; rw [r] at mu; exact mu
 by_cases hb:b = x
 ·subst hb; rw [upd_same] at q; cases q; exact new
 ·rw [upd_ne hb] at q
  by_cases hbe:b = e
  ·have q':H b = some (.own x):=by
    rcases he with z | z
    ·exact absurd (hbe.trans z) hb
    ·rw [hbe]; exact z
   rw [q] at q'; cases q'
   obtain ⟨v,hv⟩:=heo
   exact ⟨v,by rw [hbe]; exact hv⟩
  ·refine (ok b u q).stay (fun c v hc r=>k c v ?_ r) (fun c r=>by rw [upd_ne (nown c b r)]; exact r) fun c xs r=>by rw [upd_ne (ntup c xs r)]; exact r
   rcases hc with rfl | hc
   ·exact hbe
   ·rintro rfl
    rcases he with z | z
    ·exact nown c b hc z
    ·rw [hc] at z; cases z; exact hb rfl
end
structure Un (fs ex:List Addr) (H H':Hp) (h h':Heap):Prop where
 keep:∀ b o,h.get? b = some o -> H b = none -> b ∉ fs -> b ∉ ex -> h'.get? b = some o
 slot:∀ b o,h.get? b = some o -> H b = none -> b ∈ fs -> b ∉ ex -> ∃ sl,h'.get? b = some { o with slots:=sl }
 free:∀ b o,h.get? b = some o -> H b = none -> b ∉ ex -> H' b = none
 there:∀ b o,h.get? b = some o -> b ∉ ex -> ∃ o',h'.get? b = some o'
 tups:∀ b xs,H b = some (.tup xs) -> H' b = some (.tup xs)
 frzs:∀ b o xs,H b = some (.frz o (.lst xs)) -> H' b = some (.frz o (.lst xs))
 tbls:∀ b ps,H b = some (.tbl ps) -> ∃ more,H' b = some (.tbl (ps ++ more))
section
variable {fs fs' ex ex':List Addr} {H H1 H2:Hp} {h h1 h2 h':Heap} {a x e:Addr} {o:HO}
theorem Un.any (u:Un fs ex H H1 h h1) {b:Addr} {ob:Obj} (q:h.get? b = some ob) (n:H b = none) (hx:b ∉ ex):∃ sl,h1.get? b = some { ob with slots:=sl }:=by
 by_cases hb:b ∈ fs
 ·exact u.slot b ob q n hb hx
 ·exact ⟨ob.slots,u.keep b ob q n hb hx⟩
theorem Un.trans (a:Un fs ex H H1 h h1) (b:Un fs ex H1 H2 h1 h2):Un fs ex H H2 h h2 where
 keep:=fun c ob q n hc hx=>b.keep c ob (a.keep c ob q n hc hx) (a.free c ob q n hx) hc hx
 slot:=fun c ob q n hc hx=>by
  obtain ⟨sl,e1⟩:=a.slot c ob q n hc hx
  obtain ⟨sl',e2⟩:=b.slot c _ e1 (a.free c ob q n hx) hc hx
  exact ⟨sl',e2⟩
 free:=fun c ob q n hx=>by
  obtain ⟨o',e1⟩:=a.there c ob q hx
  exact b.free c o' e1 (a.free c ob q n hx) hx
 there:=fun c ob q hx=>by
  obtain ⟨o',e1⟩:=a.there c ob q hx
  exact b.there c o' e1 hx
 tups:=fun c xs q=>b.tups c xs (a.tups c xs q)
 frzs:=fun c ob xs q=>b.frzs c ob xs (a.frzs c ob xs q)
 tbls:=fun c ps q=>by
  obtain ⟨m1,e1⟩:=a.tbls c ps q
  obtain ⟨m2,e2⟩:=b.tbls c _ e1
  exact ⟨m1 ++ m2,by rw [e2,Array.append_assoc]⟩
theorem Un.kept (k:∀ b u,h.get? b = some u -> h'.get? b = some u):Un fs ex H H h h':=
 ⟨fun b ob q _ _ _=>k b ob q,fun b ob q _ _ _=>⟨ob.slots,k b ob q⟩,fun _ _ _ n _=>n,fun b ob q _=>⟨ob,k b ob q⟩,fun _ _ q=>q,fun _ _ _ q=>q,fun _ ps q=>⟨#[],by rw [q]; simp⟩⟩
theorem Un.refl:Un fs ex H H h h:=Un.kept fun _ _ q=>q
theorem Un.laid (k:∀ b u,h.get? b = some u -> h'.get? b = some u) (hp:h.objs.size <= a) (hn:H a = none):Un fs ex H (upd H a o) h h' where
 keep:=fun b u q _ _ _=>k b u q
 slot:=fun b u q _ _ _=>⟨u.slots,k b u q⟩
 free:=fun b u q n _=>by rw [upd_ne (Nat.ne_of_lt (Nat.lt_of_lt_of_le (Heap.lt_size q) hp))]; exact n
 there:=fun b u q _=>⟨u,k b u q⟩
 tups:=fun b xs q=>by rw [upd_ne (ne_of_none q hn)]; exact q
 frzs:=fun b u xs q=>by rw [upd_ne (ne_of_none q hn)]; exact q
 tbls:=fun b ps q=>⟨#[],by rw [upd_ne (ne_of_none q hn),q]; simp⟩
theorem Un.write (mu:Mut (H x)) (he:e = x \/ H e = some (.own x)) (k:∀ b u,b ≠ e -> h.get? b = some u -> h'.get? b = some u) (heo:∃ u,h'.get? e = some u):Un fs ex H (upd H x o) h h':=by
 have hx:∀ b,H b = none -> b ≠ x:=fun b n z=>by subst z; rw [n] at mu; exact mu
 have hb:∀ b,H b = none -> b ≠ e:=fun b n z=>by
  subst z
  rcases he with r | r
  ·exact hx b n r
  ·rw [n] at r; cases r
 have hm:∀ b u,H b = some u -> ¬ Mut (some u) -> b ≠ x:=fun b u q nm z=>by subst z; rw [q] at mu; exact nm mu
 refine ⟨fun b u q n _ _=>k b u (hb b n) q,fun b u q n _ _=>⟨u.slots,k b u (hb b n) q⟩,fun b u q n _=>by rw [upd_ne (hx b n)]; exact n,fun b u q _=>?_,
  fun b xs q=>by rw [upd_ne (hm b _ q fun z=>z)]; exact q,fun b u xs q=>by rw [upd_ne (hm b _ q fun z=>z)]; exact q,fun b ps q=>⟨#[],by rw [upd_ne (hm b _ q fun z=>z),q]; simp⟩⟩
 by_cases hbe:b = e
 ·subst hbe; exact heo
 ·exact ⟨u,k b u hbe q⟩
theorem Un.mono (u:Un fs ex H H1 h h1) (hs:∀ b ∈ fs,b ∈ fs') (hx:∀ b ∈ ex,b ∈ ex'):Un fs' ex' H H1 h h1:=
 ⟨fun b ob q n hb he=>u.keep b ob q n (fun z=>hb (hs b z)) fun z=>he (hx b z),fun _ _ q n _ he=>u.any q n fun z=>he (hx _ z),fun b ob q n he=>u.free b ob q n fun z=>he (hx b z),fun b ob q he=>u.there b ob q fun z=>he (hx b z),u.tups,u.frzs,u.tbls⟩
end
noncomputable def trk (h:Heap) (H:Hp):List Addr:=(List.range h.objs.size).filter fun a=>(H a).isSome
noncomputable def hidT (h:Heap) (H:Hp):Heap:=PySem.W.hideAll h (trk h H)
theorem hidT_size (h:Heap) (H:Hp):(hidT h H).objs.size = h.objs.size:=PySem.W.hideAll_size _ _
theorem hidT_get {h:Heap} {H:Hp} {b:Addr} {o:Obj} (e:h.get? b = some o) (n:H b = none):(hidT h H).get? b = some o:=
 PySem.W.hideAll_get _ e fun hm=>by
  have q:(H b).isSome = true:=(List.mem_filter.mp hm).2
  rw [n] at q; simp at q
theorem of_hidT {h:Heap} {H:Hp} {b:Addr} {o:Obj} (e:(hidT h H).get? b = some o):h.get? b = some o /\ H b = none:=by
 have e':h.get? b = some o:=PySem.W.of_hideAll (trk h H) e
 refine ⟨e',?_⟩
 cases q:H b with
 | none=>rfl
 | some x=>
  have hm:b ∈ trk h H:=List.mem_filter.mpr ⟨List.mem_range.mpr (Heap.lt_size e'),by simp [q]⟩
  have z:(hidT h H).get? b = none:=PySem.W.hideAll_none (trk h H) hm
  rw [z] at e; cases e
noncomputable def allNews (g h:Heap) (L:Addr):List (Addr × Obj):=(List.range h.objs.size).filterMap fun a=>if a = L \/ (g.get? a).isSome = true then none else (h.get? a).map fun o=>(a,o)
noncomputable def rest (g h:Heap) (L d:Addr):List (Addr × Obj):=(allNews g h L).filter fun p=>decide (p.1 ≠ d)
structure Mod (K:Frag) (mg:Str -> Option Value) (base:Heap):Prop where
 kin:K.In base
 glob:base.Ns mainGlobals mg
 blt:∃ mb,base.Ns builtinsNs mb /\ ∀ x:Str,x ≠ "__name__" -> mb x = bootBuiltins x
 nolimit:base.NoLimit
structure Cx where
 prog:Program
 w:World
 K:Frag
 mg:Str -> Option Value
 base:Heap
 A:Around
 N:List Str
 s₀:Shared
 H₀:Hp
 env:Env
 outer:List Env
 stack:List Env
 ex:List Addr
 fn:Str -> Bool
 calm:Bool
 pn:List (Addr × Obj)
 xe:Value -> Shared -> Prop
noncomputable def frs (l:List Env):List Addr:=l.filterMap (·.frame)
noncomputable abbrev Cx.fs (X:Cx):List Addr:=frs X.outer
def Vis (sc:Scope) (x:Str):Prop:=sc.names.lookup x = some .local \/ sc.names.lookup x = some .cell \/ sc.names.lookup x = some .free
def Loc (sc:Scope) (x:Str):Prop:=sc.names.lookup x = some .local \/ sc.names.lookup x = some .cell
def Look (env:Env) (h:Heap) (m:Str -> Option Value) (x:Str) (u:Value):Prop:=
 (env.kindOf x = some .local /\ m x = some u) \/ ((env.kindOf x = some .cell \/ env.kindOf x = some .free) /\ ∃ c,env.cells.lookup x = some c /\ h.IsCell c (some u))
structure Cx.Ok (X:Cx):Prop where
 mod:Mod X.K X.mg X.base
 kind:X.env.scope.kind = .function
 glob:X.env.globals = mainGlobals
 blt:X.env.builtins = builtinsNs
 above:X.s₀.heap.objs.size <= X.env.locals
 inj:∀ x y c,X.env.cells.lookup x = some c -> X.env.cells.lookup y = some c -> x = y
 has:∀ x,(X.env.kindOf x = some .cell \/ X.env.kindOf x = some .free) -> ∃ c,X.env.cells.lookup x = some c
 cab:∀ x c,X.fn x = true -> X.env.cells.lookup x = some c -> X.s₀.heap.objs.size <= c
 hd:X.calm = true -> X.A.handled = none
 frames:X.A.frames = some X.stack
 stk:X.stack = X.outer \/ (X.stack = X.env :: X.outer /\ X.env.frame = some X.env.locals)
 exf:∀ b ∈ X.ex,b ≠ X.env.locals /\ ∀ x c,X.env.cells.lookup x = some c -> c ≠ b
 bs:∀ b o,X.base.get? b = some o -> X.s₀.heap.get? b = some o /\ X.H₀ b = none
 bsz:X.base.objs.size <= X.s₀.heap.objs.size
 noex:∀ b o,X.base.get? b = some o -> b ∉ X.ex
 exfs:∀ b ∈ X.ex,b ∉ X.fs
 funs:X.s₀.heap.FunFrames X.base X.outer
 frf:∀ b ∈ X.fs,X.H₀ b = none
structure Inv (X:Cx) (pins:List (Addr × Obj)) (σ:List (Option V)) (H:Hp) (s:Shared):Prop where
 ok:X.Ok
 os:s.os = X.s₀.os
 bare:AllBare s.gens
 base:Un X.fs X.ex X.H₀ H X.s₀.heap s.heap
 loc:∃ m,s.heap.Ns X.env.locals m /\ ∀ (i:Nat) (x:Str) (v:V),X.N[i]? = some x -> σ[i]? = some (some v) -> Vis X.env.scope x -> ∃ u,RelV v u /\ Look X.env s.heap m x u
 cell:∀ x c,X.env.cells.lookup x = some c -> ∃ v,s.heap.IsCell c v
 free:H X.env.locals = none
 freeC:∀ x c,X.env.cells.lookup x = some c -> H c = none
 pin:∀ p ∈ X.pn ++ pins,s.heap.get? p.1 = some p.2 /\ H p.1 = none /\ p.1 ≠ X.env.locals /\ p.1 ∉ X.fs /\ ∀ v,p.2.data ≠ .cell v
 hok:HOk X.prog X.w H s.heap
 len:σ.length = X.N.length
 tk:0 < s.toks
section
variable {X:Cx} {pins:List (Addr × Obj)} {σ:List (Option V)} {H H':Hp} {s:Shared} {h':Heap}
theorem Cx.Ok.nofr (ok:X.Ok) {b:Addr} {o:Obj} (e:X.base.get? b = some o):b ∉ X.fs:=fun hb=>by
 have:=(ok.funs.mem hb).1
 rw [e] at this; cases this
theorem Inv.bs (I:Inv X pins σ H s):∀ b o,X.base.get? b = some o -> s.heap.get? b = some o /\ H b = none:=fun b o e=>
 ⟨I.base.keep b o (I.ok.bs b o e).1 (I.ok.bs b o e).2 (I.ok.nofr e) (I.ok.noex b o e),I.base.free b o (I.ok.bs b o e).1 (I.ok.bs b o e).2 (I.ok.noex b o e)⟩
theorem Inv.bk (I:Inv X pins σ H s):∀ b o,X.base.get? b = some o -> s.heap.get? b = some o:=fun b o e=>(I.bs b o e).1
theorem Inv.mod (I:Inv X pins σ H s):Mod X.K X.mg X.base:=I.ok.mod
theorem Inv.kIn (I:Inv X pins σ H s):X.K.In s.heap:=I.ok.mod.kin.keeps I.bk
theorem Inv.nolimit (I:Inv X pins σ H s):s.heap.NoLimit:=I.ok.mod.nolimit.keeps I.bk
theorem Inv.fr (I:Inv X pins σ H s):∃ m,Fr X.base X.env.locals s.heap m:=
 let ⟨m,hn,_⟩:=I.loc
 ⟨m,hn,I.bk,Nat.le_trans I.ok.bsz I.ok.above⟩
theorem Inv.lt (I:Inv X pins σ H s):X.env.locals < s.heap.objs.size:=let ⟨_,hn,_⟩:=I.loc; hn.lt
theorem Inv.sz (I:Inv X pins σ H s):X.s₀.heap.objs.size <= s.heap.objs.size:=Nat.le_trans I.ok.above (Nat.le_of_lt I.lt)
theorem Inv.nofs (I:Inv X pins σ H s) {a:Addr} (h:s.heap.objs.size <= a):a ∉ X.fs:=fun hb=>by
 obtain ⟨_,o,ho,_⟩:=I.ok.funs.mem hb
 exact absurd (Nat.lt_of_lt_of_le (Heap.lt_size ho) (Nat.le_trans I.sz h)) (Nat.lt_irrefl _)
theorem Inv.cne (I:Inv X pins σ H s):∀ x c,X.env.cells.lookup x = some c -> c ≠ X.env.locals:=fun x c e z=>by
 obtain ⟨v,o,ho,hd⟩:=I.cell x c e
 obtain ⟨m,⟨o',es,ep,ho',hd',_⟩,_⟩:=I.loc
 rw [z,ho'] at ho; cases ho; rw [hd'] at hd; cases hd
theorem Inv.funs (I:Inv X pins σ H s):s.heap.FunFrames X.base X.outer:=by
 have all:∀ (l:List Env),(∀ b ∈ frs l,b ∈ X.fs) -> X.s₀.heap.FunFrames X.base l -> s.heap.FunFrames X.base l:=by
  intro l
  induction l with
  | nil=>intro _ _; trivial
  | cons env r ih=>
   intro hs hl
   obtain ⟨hk,⟨L,o,hf,hn,ho,hd⟩,hr⟩:=hl
   have hL:L ∈ X.fs:=hs L (by unfold frs; rw [List.filterMap_cons,hf]; exact List.mem_cons_self)
   obtain ⟨sl,e⟩:=I.base.slot L o ho (I.ok.frf L hL) hL fun z=>I.ok.exfs L z hL
   exact ⟨hk,⟨L,_,hf,hn,e,hd⟩,ih (fun b hb=>hs b (by unfold frs; rw [List.filterMap_cons,hf]; exact List.mem_cons_of_mem _ hb)) hr⟩
 exact all X.outer (fun _ hb=>hb) I.ok.funs
theorem Inv.stack (I:Inv X pins σ H s):s.heap.FunFrames X.base X.stack:=by
 rcases I.ok.stk with e | ⟨e,hf⟩
 ·rw [e]; exact I.funs
 ·rw [e]
  obtain ⟨m,hn,_⟩:=I.loc
  refine .cons (by rw [I.ok.kind]; decide) hf hn ?_ I.funs
  exact Heap.get?_none_of_le (Nat.le_trans I.ok.bsz I.ok.above)
theorem Inv.stkSub (I:Inv X pins σ H s):∀ b ∈ frs X.stack,b ∈ X.env.locals :: X.fs:=fun b hb=>by
 rcases I.ok.stk with e | ⟨e,hf⟩
 ·rw [e] at hb; exact List.mem_cons_of_mem _ hb
 ·rw [e] at hb
  unfold frs at hb
  rw [List.filterMap_cons,hf] at hb
  exact hb
theorem Inv.stkFree (I:Inv X pins σ H s):∀ b ∈ frs X.stack,H b = none:=fun b hb=>by
 rcases List.mem_cons.mp (I.stkSub b hb) with e | hb
 ·rw [e]; exact I.free
 ·obtain ⟨_,o,ho,_⟩:=I.ok.funs.mem hb
  exact I.base.free b o ho (I.ok.frf b hb) fun z=>I.ok.exfs b z hb
theorem Inv.step {g':Array GenState} {t':Nat} {d':Drawn} {ch:List Addr} (I:Inv X pins σ H s)
  (hch:∀ b ∈ ch,(b ∈ X.ex \/ X.s₀.heap.objs.size <= b) /\ b ≠ X.env.locals /\ (∀ x c,X.env.cells.lookup x = some c -> c ≠ b) /\ ∀ p ∈ X.pn ++ pins,p.1 ≠ b)
  (keep:∀ b o,b ≠ X.env.locals -> b ∉ X.fs -> b ∉ ch -> s.heap.get? b = some o -> H b = none -> h'.get? b = some o)
  (slot:∀ b o,b ≠ X.env.locals -> b ∈ X.fs -> b ∉ ch -> s.heap.get? b = some o -> H b = none -> ∃ sl,h'.get? b = some { o with slots:=sl }) (free:∀ b o,b ∉ ch -> s.heap.get? b = some o -> H b = none -> H' b = none)
  (there:∀ b o,b ∉ ch -> s.heap.get? b = some o -> ∃ o',h'.get? b = some o')
  (tups:∀ b xs,H b = some (.tup xs) -> H' b = some (.tup xs)) (frzs:∀ b o xs,H b = some (.frz o (.lst xs)) -> H' b = some (.frz o (.lst xs))) (tbls:∀ b ps,H b = some (.tbl ps) -> ∃ more,H' b = some (.tbl (ps ++ more)))
  (ns:∀ m,s.heap.Ns X.env.locals m -> h'.Ns X.env.locals m) (hok:HOk X.prog X.w H' h') (hg:AllBare g') (ht:0 < t':=by first | assumption | exact Nat.succ_pos _ | (apply Inv.tk; assumption) | omega):
  Inv X pins σ H' { s with heap:=h',gens:=g',drawn:=d',toks:=t' }:=by
 have neL:∀ b o,X.s₀.heap.get? b = some o -> b ≠ X.env.locals:=fun b o e=>Nat.ne_of_lt (Nat.lt_of_lt_of_le (Heap.lt_size e) I.ok.above)
 have neC:∀ b o,X.s₀.heap.get? b = some o -> b ∉ X.ex -> b ∉ ch:=fun b o e hx hb=>by
  rcases (hch b hb).1 with z | z
  ·exact hx z
  ·exact absurd (Nat.lt_of_lt_of_le (Heap.lt_size e) z) (Nat.lt_irrefl _)
 have cellK:∀ x c,X.env.cells.lookup x = some c -> ∀ v,s.heap.IsCell c v -> h'.IsCell c v:=fun x c e v ⟨o,ho,hd⟩=>by
  have nch:c ∉ ch:=fun z=>(hch c z).2.2.1 x c e rfl
  by_cases hc:c ∈ X.fs
  ·obtain ⟨sl,q⟩:=slot c o (I.cne x c e) hc nch ho (I.freeC x c e)
   exact ⟨_,q,hd⟩
  ·exact ⟨o,keep c o (I.cne x c e) hc nch ho (I.freeC x c e),hd⟩
 refine ⟨I.ok,I.os,hg,⟨fun b o e n hb hx=>?_,fun b o e n hb hx=>?_,fun b o e n hx=>?_,fun b o e hx=>?_,fun b xs e=>tups b xs (I.base.tups b xs e),fun b o xs e=>frzs b o xs (I.base.frzs b o xs e),fun b ps e=>?_⟩,?_,fun x c e=>?_,?_,fun x c e=>?_,fun p hp=>?_,hok,I.len,ht⟩
 ·exact keep b o (neL b o e) hb (neC b o e hx) (I.base.keep b o e n hb hx) (I.base.free b o e n hx)
 ·obtain ⟨sl,e1⟩:=I.base.slot b o e n hb hx
  obtain ⟨sl',e2⟩:=slot b _ (neL b o e) hb (neC b o e hx) e1 (I.base.free b o e n hx)
  exact ⟨sl',e2⟩
 ·obtain ⟨o',e1⟩:=I.base.there b o e hx
  exact free b o' (neC b o e hx) e1 (I.base.free b o e n hx)
 ·obtain ⟨o',e1⟩:=I.base.there b o e hx
  exact there b o' (neC b o e hx) e1
 ·obtain ⟨m1,e1⟩:=I.base.tbls b ps e
  obtain ⟨m2,e2⟩:=tbls b _ e1
  exact ⟨m1 ++ m2,by rw [e2,Array.append_assoc]⟩
 ·obtain ⟨m,hn,hl⟩:=I.loc
  refine ⟨m,ns m hn,fun i x v e1 e2 e3=>?_⟩
  obtain ⟨u,r,l⟩:=hl i x v e1 e2 e3
  refine ⟨u,r,?_⟩
  rcases l with l | ⟨k,c,e,z⟩
  ·exact .inl l
  ·exact .inr ⟨k,c,e,cellK x c e _ z⟩
 ·obtain ⟨v,z⟩:=I.cell x c e
  exact ⟨v,cellK x c e v z⟩
 ·obtain ⟨m,⟨o,_,_,ho,_⟩,_⟩:=I.loc
  exact free _ o (fun z=>(hch _ z).2.1 rfl) ho I.free
 ·obtain ⟨v,o,ho,hd⟩:=I.cell x c e
  exact free c o (fun z=>(hch c z).2.2.1 x c e rfl) ho (I.freeC x c e)
 ·obtain ⟨e,n,ne,nf,d⟩:=I.pin p hp
  have nch:p.1 ∉ ch:=fun z=>(hch p.1 z).2.2.2 p hp rfl
  exact ⟨keep p.1 p.2 ne nf nch e n,free p.1 p.2 nch e n,ne,nf,d⟩
theorem Inv.un {t':Nat} (I:Inv X pins σ H s) (u:Un X.fs [] H H' s.heap h') (hok:HOk X.prog X.w H' h') (ht:0 < t':=by first | assumption | exact Nat.succ_pos _ | (apply Inv.tk; assumption) | omega):Inv X pins σ H' { s with heap:=h',toks:=t' }:=by
 obtain ⟨m,⟨o,es,ep,ho,r⟩,_⟩:=id I.loc
 obtain ⟨sl,hL⟩:=u.any ho I.free (by simp)
 exact I.step (g':=s.gens) (d':=s.drawn) (ch:=[]) (fun _ z=>nomatch z) (fun b o _ hb _ e n=>u.keep b o e n hb (by simp)) (fun b o _ hb _ e n=>u.slot b o e n hb (by simp)) (fun b o _ e n=>u.free b o e n (by simp)) (fun b o _ e=>u.there b o e (by simp)) u.tups u.frzs u.tbls (fun m' hm=>by
  obtain ⟨o',es',ep',ho',r'⟩:=hm
  rw [ho] at ho'; cases ho'
  exact ⟨_,es',ep',hL,r'⟩) hok I.bare ht
theorem Inv.call {g':Array GenState} {t':Nat} {d':Drawn} {ch:List Addr} (I:Inv X pins σ H s) (u:Un (frs X.stack) ch H H' s.heap h') (hok:HOk X.prog X.w H' h') (hg:AllBare g')
  (hch:∀ b ∈ ch,(b ∈ X.ex \/ X.s₀.heap.objs.size <= b) /\ b ≠ X.env.locals /\ (∀ x c,X.env.cells.lookup x = some c -> c ≠ b) /\ ∀ p ∈ X.pn ++ pins,p.1 ≠ b) (ht:0 < t':=by first | assumption | exact Nat.succ_pos _ | (apply Inv.tk; assumption) | omega):
  Inv X pins σ H' { s with heap:=h',gens:=g',drawn:=d',toks:=t' }:=by
 obtain ⟨m,⟨o,es,ep,ho,r⟩,_⟩:=id I.loc
 obtain ⟨sl,hL⟩:=u.any ho I.free fun z=>(hch _ z).2.1 rfl
 exact I.step (ch:=ch) hch (fun b o hL hb hc e n=>u.keep b o e n (fun z=>(List.mem_cons.mp (I.stkSub b z)).elim hL hb) hc) (fun b o _ _ hc e n=>u.any e n hc) (fun b o hc e n=>u.free b o e n hc) (fun b o hc e=>u.there b o e hc) u.tups u.frzs u.tbls (fun m' hm=>by
  obtain ⟨o',es',ep',ho',r'⟩:=hm
  rw [ho] at ho'; cases ho'
  exact ⟨_,es',ep',hL,r'⟩) hok hg ht
theorem Inv.turned {t':Nat} {it:Addr} (I:Inv X pins σ H s) (k:∀ b o,b ≠ it -> s.heap.get? b = some o -> h'.get? b = some o) (hn:H it = none) (hL:it ≠ X.env.locals)
  (h1:it ∈ X.ex \/ X.s₀.heap.objs.size <= it) (h2:∀ x c,X.env.cells.lookup x = some c -> c ≠ it) (h3:∀ p ∈ X.pn ++ pins,p.1 ≠ it) (ht:0 < t':=by first | assumption | exact Nat.succ_pos _ | (apply Inv.tk; assumption) | omega):Inv X pins σ H { s with heap:=h',toks:=t' }:=by
 have nit:∀ b u,H b = some u -> b ≠ it:=fun b u e z=>by rw [z,hn] at e; cases e
 refine I.step (g':=s.gens) (d':=s.drawn) (ch:=[it]) (fun b hb=>?_) (fun b o _ _ hc e _=>k b o (fun z=>hc (by simp [z])) e) (fun b o _ _ hc e _=>⟨o.slots,k b o (fun z=>hc (by simp [z])) e⟩) (fun _ _ _ _ n=>n)
  (fun b o hc e=>⟨o,k b o (fun z=>hc (by simp [z])) e⟩) (fun _ _ e=>e) (fun _ _ _ e=>e) (fun b ps e=>⟨#[],by rw [e]; simp⟩) (fun m hm=>?_) (fun b u e=>?_) I.bare
 ·have e:b = it:=by simpa using hb
  subst e
  exact ⟨h1,hL,h2,h3⟩
 ·obtain ⟨o,es,ep,ho,r⟩:=hm
  exact ⟨o,es,ep,k _ o (Ne.symm hL) ho,r⟩
 ·refine (I.hok b u e).stay (fun c v hc q=>k c v ?_ q) (fun _ q=>q) fun _ _ q=>q
  rcases hc with z | z
  ·rw [z]; exact nit b u e
  ·exact nit c _ z
theorem Inv.tok (I:Inv X pins σ H s) (t:Nat) (ht:0 < t:=by first | assumption | exact Nat.succ_pos _ | (apply Inv.tk; assumption) | omega):Inv X pins σ H { s with toks:=t }:=I.un (h':=s.heap) (t':=t) Un.refl I.hok ht
theorem Inv.kept {t':Nat} (I:Inv X pins σ H s) (k:∀ b u,s.heap.get? b = some u -> h'.get? b = some u) (ht:0 < t':=by first | assumption | exact Nat.succ_pos _ | (apply Inv.tk; assumption) | omega):Inv X pins σ H { s with heap:=h',toks:=t' }:=I.un (Un.kept k) (I.hok.kept k) ht
theorem Inv.laid {a:Addr} {o:HO} {t':Nat} (I:Inv X pins σ H s) (k:∀ b u,s.heap.get? b = some u -> h'.get? b = some u) (hp:s.heap.objs.size <= a) (new:ObjOk X.prog X.w (upd H a o) h' a o) (ht:0 < t':=by first | assumption | exact Nat.succ_pos _ | (apply Inv.tk; assumption) | omega):
  Inv X pins σ (upd H a o) { s with heap:=h',toks:=t' }:=I.un (Un.laid k hp (I.hok.fresh hp)) (I.hok.laid k hp new) ht
theorem Inv.write {x e:Addr} {o:HO} {t':Nat} (I:Inv X pins σ H s) (mu:Mut (H x)) (he:e = x \/ H e = some (.own x)) (k:∀ b u,b ≠ e -> s.heap.get? b = some u -> h'.get? b = some u) (heo:∃ u,h'.get? e = some u)
  (new:ObjOk X.prog X.w (upd H x o) h' x o) (ht:0 < t':=by first | assumption | exact Nat.succ_pos _ | (apply Inv.tk; assumption) | omega):Inv X pins σ (upd H x o) { s with heap:=h',toks:=t' }:=I.un (Un.write mu he k heo) (I.hok.write mu he k heo new) ht
theorem Inv.weak {σ':List (Option V)} (I:Inv X pins σ H s) (hl:σ'.length = σ.length) (w:∀ (i:Nat) v,σ'[i]? = some (some v) -> σ[i]? = some (some v)):Inv X pins σ' H s:=
 ⟨I.ok,I.os,I.bare,I.base,let ⟨m,hn,hl'⟩:=I.loc; ⟨m,hn,fun i x v e1 e2 e3=>hl' i x v e1 (w i v e2) e3⟩,I.cell,I.free,I.freeC,I.pin,I.hok,hl.trans I.len,I.tk⟩
theorem Inv.pins_of {pins':List (Addr × Obj)} (I:Inv X pins σ H s) (h:∀ p ∈ pins',s.heap.get? p.1 = some p.2 /\ H p.1 = none /\ p.1 ≠ X.env.locals /\ p.1 ∉ X.fs /\ ∀ v,p.2.data ≠ .cell v):Inv X pins' σ H s:=
 ⟨I.ok,I.os,I.bare,I.base,I.loc,I.cell,I.free,I.freeC,fun p hp=>(List.mem_append.mp hp).elim (fun z=>I.pin p (List.mem_append_left _ z)) (h p),I.hok,I.len,I.tk⟩
theorem nodup_ix {N:List Str} (hN:N.Nodup) {i j:Nat} {x:Str} (a:N[i]? = some x) (b:N[j]? = some x):i = j:=by
 obtain ⟨h1,e1⟩:=List.getElem?_eq_some_iff.mp a
 obtain ⟨h2,e2⟩:=List.getElem?_eq_some_iff.mp b
 exact (List.getElem_inj hN).mp (e1.trans e2.symm)
theorem store_ok2 {M:Model} {A:Around} {E:Value -> Shared -> Prop} {i:Nat} {x:Str} {v:V} {u:Value} {Q:Unit -> Shared -> Prop} (I:Inv X pins σ H s) (hN:X.N.Nodup) (hi:X.N[i]? = some x) (hx:Loc X.env.scope x) (r:RelV v u)
  (h:∀ s',Inv X pins (σ.set i (some v)) H s' -> (∃ a,Heap.SameBut a s.heap s'.heap /\ (a = X.env.locals \/ X.env.cells.lookup x = some a)) -> Q () s') (hf:X.fn x = true \/ X.env.scope.names.lookup x = some .local:=by first | exact .inl rfl | exact .inr rfl | assumption):wpAny M A (storeName X.env x u) Q E s:=by
 obtain ⟨m,hn,hl⟩:=id I.loc
 have hcls:(X.env.scope.kind == .class || (X.env.scope.kind == .module && X.env.locals != X.env.globals)) = false:=by rw [I.ok.kind]; rfl
 have hiσ:i < σ.length:=by rw [I.len]; exact (List.getElem?_eq_some_iff.mp hi).1
 have cne:=I.cne
 have tracked:∀ {a:Addr} {h':Heap},(∃ o,s.heap.get? a = some o /\ H a = none) -> Heap.SameBut a s.heap h' -> HOk X.prog X.w H h':=fun {a h'} ha hs b ob e=>by
  obtain ⟨_,_,hfree⟩:=ha
  refine (I.hok b ob e).stay (fun c w' hc q=>(hs.2 c ?_).trans q) (fun _ q=>q) fun _ _ q=>q
  rintro rfl
  rcases hc with rfl | hc
  ·rw [hfree] at e; cases e
  ·rw [hfree] at hc; cases hc
 rcases hx with hk | hk
 ·refine wpAny_storeName_local hk hn (fun h' hn' hs=>?_) hcls
  obtain ⟨oL,_,_,hoL,_⟩:=id hn
  refine h _ ⟨I.ok,I.os,I.bare,⟨fun b o e n hb hx=>?_,fun b o e n hb hx=>?_,I.base.free,fun b o e hx=>?_,I.base.tups,I.base.frzs,I.base.tbls⟩,⟨_,hn',fun j y v' e1 e2 e3=>?_⟩,fun y c e=>?_,I.free,I.freeC,fun p hp=>?_,tracked ⟨oL,hoL,I.free⟩ hs,by simpa using I.len,(by first | exact Nat.succ_pos _ | exact I.tk)⟩ ⟨_,hs,.inl rfl⟩
  ·exact (hs.2 b (Nat.ne_of_lt (Nat.lt_of_lt_of_le (Heap.lt_size e) I.ok.above))).trans (I.base.keep b o e n hb hx)
  ·obtain ⟨sl,e1⟩:=I.base.slot b o e n hb hx
   exact ⟨sl,(hs.2 b (Nat.ne_of_lt (Nat.lt_of_lt_of_le (Heap.lt_size e) I.ok.above))).trans e1⟩
  ·obtain ⟨o',e1⟩:=I.base.there b o e hx
   exact ⟨o',(hs.2 b (Nat.ne_of_lt (Nat.lt_of_lt_of_le (Heap.lt_size e) I.ok.above))).trans e1⟩
  ·by_cases hj:j = i
   ·subst hj
    rw [hi] at e1; cases e1
    rw [List.getElem?_set_self hiσ] at e2
    cases e2
    exact ⟨u,r,.inl ⟨hk,by simp⟩⟩
   ·rw [List.getElem?_set_ne (Ne.symm hj)] at e2
    obtain ⟨u',r',q⟩:=hl j y v' e1 e2 e3
    refine ⟨u',r',?_⟩
    rcases q with ⟨k,e⟩ | ⟨k,c,e,z⟩
    ·refine .inl ⟨k,?_⟩
     have:y ≠ x:=fun e=>hj (nodup_ix hN e1 (e ▸ hi))
     simp [this,e]
    ·exact .inr ⟨k,c,e,z.sameBut hs (cne y c e)⟩
  ·obtain ⟨w',z⟩:=I.cell y c e
   exact ⟨w',z.sameBut hs (cne y c e)⟩
  ·obtain ⟨e,n,ne,nf,d⟩:=I.pin p hp
   exact ⟨(hs.2 p.1 ne).trans e,n,ne,nf,d⟩
 ·have hfn:X.fn x = true:=by
   rcases hf with z | z
   ·exact z
   ·rw [z] at hk; cases hk
  obtain ⟨c,hc⟩:=I.ok.has x (.inl hk)
  obtain ⟨w',z⟩:=I.cell x c hc
  refine wpAny_storeName_cell I.ok.kind hk hc z (fun h' hc' hs=>?_)
  obtain ⟨oc,hoc,hocd⟩:=id z
  refine h { s with heap:=h' } ⟨I.ok,I.os,I.bare,⟨fun b o e n hb hx=>?_,fun b o e n hb hx=>?_,I.base.free,fun b o e hx=>?_,I.base.tups,I.base.frzs,I.base.tbls⟩,⟨m,hn.sameBut hs (Ne.symm (cne x c hc)),fun j y v' e1 e2 e3=>?_⟩,fun y c' e=>?_,I.free,I.freeC,fun p hp=>?_,tracked ⟨oc,hoc,I.freeC x c hc⟩ hs,by simpa using I.len,I.tk⟩ ⟨c,hs,.inr hc⟩
  ·exact (hs.2 b (Nat.ne_of_lt (Nat.lt_of_lt_of_le (Heap.lt_size e) (I.ok.cab x c hfn hc)))).trans (I.base.keep b o e n hb hx)
  ·obtain ⟨sl,e1⟩:=I.base.slot b o e n hb hx
   exact ⟨sl,(hs.2 b (Nat.ne_of_lt (Nat.lt_of_lt_of_le (Heap.lt_size e) (I.ok.cab x c hfn hc)))).trans e1⟩
  ·obtain ⟨o',e1⟩:=I.base.there b o e hx
   exact ⟨o',(hs.2 b (Nat.ne_of_lt (Nat.lt_of_lt_of_le (Heap.lt_size e) (I.ok.cab x c hfn hc)))).trans e1⟩
  ·by_cases hj:j = i
   ·subst hj
    rw [hi] at e1; cases e1
    rw [List.getElem?_set_self hiσ] at e2
    cases e2
    exact ⟨u,r,.inr ⟨.inl hk,c,hc,hc'⟩⟩
   ·rw [List.getElem?_set_ne (Ne.symm hj)] at e2
    obtain ⟨u',r',q⟩:=hl j y v' e1 e2 e3
    refine ⟨u',r',?_⟩
    rcases q with q | ⟨k,c',e,z'⟩
    ·exact .inl q
    ·refine .inr ⟨k,c',e,z'.sameBut hs ?_⟩
     rintro rfl
     exact hj (nodup_ix hN e1 (I.ok.inj _ _ _ e hc ▸ hi))
  ·by_cases hcc:c' = c
   ·subst hcc; exact ⟨_,hc'⟩
   ·obtain ⟨w2,z2⟩:=I.cell y c' e
    exact ⟨w2,z2.sameBut hs hcc⟩
  ·obtain ⟨e,n,ne,nf,d⟩:=I.pin p hp
   refine ⟨(hs.2 p.1 ?_).trans e,n,ne,nf,d⟩
   intro q
   rw [q,hoc] at e
   have q':oc = p.2:=Option.some.inj e
   exact d w' (by rw [<- q']; exact hocd)
theorem store_ok {M:Model} {A:Around} {E:Value -> Shared -> Prop} {i:Nat} {x:Str} {v:V} {u:Value} {Q:Unit -> Shared -> Prop} (I:Inv X pins σ H s) (hN:X.N.Nodup) (hi:X.N[i]? = some x) (hx:Loc X.env.scope x) (r:RelV v u)
  (h:∀ s',Inv X pins (σ.set i (some v)) H s' -> Q () s') (hf:X.fn x = true \/ X.env.scope.names.lookup x = some .local:=by first | exact .inl rfl | exact .inr rfl | assumption):wpAny M A (storeName X.env x u) Q E s:=
 store_ok2 I hN hi hx r (fun s' I' _=>h s' I') hf
theorem Inv.call' {s':Shared} {ch:List Addr} (I:Inv X pins σ H s) (ho:s'.os = s.os) (u:Un (frs X.stack) ch H H' s.heap s'.heap) (hok:HOk X.prog X.w H' s'.heap) (hg:AllBare s'.gens)
  (hch:∀ b ∈ ch,(b ∈ X.ex \/ X.s₀.heap.objs.size <= b) /\ b ≠ X.env.locals /\ (∀ x c,X.env.cells.lookup x = some c -> c ≠ b) /\ ∀ p ∈ X.pn ++ pins,p.1 ≠ b) (ht:0 < s'.toks:=by first | assumption | exact Nat.succ_pos _ | (apply Inv.tk; assumption) | omega):Inv X pins σ H' s':=by
 obtain ⟨h',g',d',t',o'⟩:=s'
 have e:o' = s.os:=ho
 subst e
 exact I.call (g':=g') (t':=t') (d':=d') u hok hg hch ht
end
noncomputable abbrev XK:=Value -> Option Addr -> Hp -> Prop
noncomputable abbrev St:=List (Option V)
noncomputable abbrev VK:=V -> Hp -> Prop
noncomputable abbrev TE:=St -> Hp -> VK -> Prop
noncomputable abbrev TT:=St -> Hp -> (Bool -> Hp -> Prop) -> Prop
noncomputable abbrev TA:=St -> Hp -> (List V -> Hp -> Prop) -> Prop
structure Ends where
 nx:St -> Hp -> Prop
 rt:VK
 bk:St -> Hp -> Prop:=fun _ _=>False
 ct:St -> Hp -> Prop:=fun _ _=>False
noncomputable abbrev TS:=Ends -> St -> Hp -> Prop
def EP (X:Cx) (pins:List (Addr × Obj)) (σ:St) (Q:VK) (u:Value) (s':Shared):Prop:=∃ v H',Inv X pins σ H' s' /\ RelV v u /\ Q v H'
def TP (X:Cx) (pins:List (Addr × Obj)) (σ:St) (Q:Bool -> Hp -> Prop) (b:Bool) (s':Shared):Prop:=∃ H',Inv X pins σ H' s' /\ Q b H'
def AP (X:Cx) (pins:List (Addr × Obj)) (σ:St) (Q:List V -> Hp -> Prop) (us:List Value) (s':Shared):Prop:=∃ vs H',Inv X pins σ H' s' /\ Vals vs us /\ Q vs H'
def SP (X:Cx) (pins:List (Addr × Obj)) (D:Ends) (f:Flow) (s':Shared):Prop:=
 match f with
 | .next=>∃ σ' H',Inv X pins σ' H' s' /\ D.nx σ' H'
 | .brk=>∃ σ' H',Inv X pins σ' H' s' /\ D.bk σ' H'
 | .cont=>∃ σ' H',Inv X pins σ' H' s' /\ D.ct σ' H'
 | .ret u=>∃ v σ' H',Inv X pins σ' H' s' /\ RelV v u /\ D.rt v H'
def PE (X:Cx) (e:Expr) (t:TE):Prop:=
 ∀ (pins:List (Addr × Obj)) (s:Shared) (σ:St) (H:Hp) (Q:VK),Inv X pins σ H s -> t σ H Q -> wpAny (model X.prog X.w) X.A (eval e X.env) (EP X pins σ Q) X.xe s
def PT (X:Cx) (e:Expr) (t:TT):Prop:=
 ∀ (pins:List (Addr × Obj)) (s:Shared) (σ:St) (H:Hp) (Q:Bool -> Hp -> Prop),Inv X pins σ H s -> t σ H Q -> wpAny (model X.prog X.w) X.A (isTrue e X.env (eval e X.env)) (TP X pins σ Q) X.xe s
def PW (X:Cx) (e:Expr) (t:TT):Prop:=
 ∀ (whole:Sem Value) (pins:List (Addr × Obj)) (s:Shared) (σ:St) (H:Hp) (Q:Bool -> Hp -> Prop),Inv X pins σ H s -> t σ H Q -> wpAny (model X.prog X.w) X.A (isTrue e X.env whole) (TP X pins σ Q) X.xe s
theorem PW.pt {X:Cx} {e:Expr} {t:TT} (h:PW X e t):PT X e t:=h _
def PA (X:Cx) (es:List Expr) (t:TA):Prop:=
 ∀ (pos:Pos) (pins:List (Addr × Obj)) (s:Shared) (σ:St) (H:Hp) (Q:List V -> Hp -> Prop),Inv X pins σ H s -> t σ H Q -> wpAny (model X.prog X.w) X.A (spliced (backTo pos (starEach es X.env))) (AP X pins σ Q) X.xe s
def PS (X:Cx) (st:Stmt) (t:TS):Prop:=
 ∀ (pins:List (Addr × Obj)) (s:Shared) (σ:St) (H:Hp) (D:Ends),Inv X pins σ H s -> t D σ H -> wpAny (model X.prog X.w) X.A (exec st X.env) (SP X pins D) X.xe s
def PSs (X:Cx) (st:List Stmt) (t:TS):Prop:=
 ∀ (pins:List (Addr × Obj)) (s:Shared) (σ:St) (H:Hp) (D:Ends),Inv X pins σ H s -> t D σ H -> wpAny (model X.prog X.w) X.A (execs st X.env) (SP X pins D) X.xe s
theorem thn {α:Type} {t:Sem α} {Q Q':α -> Shared -> Prop} {M:Model} {A:Around} {E:Value -> Shared -> Prop} {s:Shared} (h:wpAny M A t Q E s) (hQ:∀ a s,Q a s -> Q' a s):wpAny M A t Q' E s:=wpAny_mono h hQ fun _ _ x=>x
theorem tokQ {α:Type} {t:Sem α} {Q:α -> Shared -> Prop} {M:Model} {A:Around} {E:Value -> Shared -> Prop} {s:Shared} (h0:0 < s.toks) (h:wpAny M A t (fun a s'=>0 < s'.toks -> Q a s') E s):wpAny M A t Q E s:=
 wpAny_mono (wpAny_toks_of (n:=1) h0 h) (fun _ _ z=>z.2 z.1) fun _ _ z=>z.2
section
variable {X:Cx}
noncomputable def tVar (i:Nat):TE:=fun σ H Q=>∃ v,σ[i]? = some (some v) /\ Q v H
noncomputable def tC (v:V):TE:=fun _ H Q=>Q v H
theorem pe_var {i:Nat} {x:Str} {pos:Pos} (hN:X.N[i]? = some x) (hv:Vis X.env.scope x) (hd:(x == ("__debug__" : Str)) = false:=by decide) (hcd:(x == ("__classdict__" : Str)) = false:=by decide):PE X (.Name x pos) (tVar i):=by
 intro pins s σ H Q I h
 obtain ⟨v,e,h⟩:=h
 obtain ⟨m,hn,hl⟩:=I.loc
 obtain ⟨u,r,l⟩:=hl i x v hN e hv
 have fin:EP X pins σ Q u s:=⟨v,H,I,r,h⟩
 rcases l with ⟨hk,hm⟩ | ⟨hk,c,hc,hcell⟩
 ·exact wpAny_Name (wpAny_loadName_local I.ok.kind hk hn hm fin) hd
 ·rcases hk with hk | hk
  ·exact wpAny_Name (wpAny_loadName_cell I.ok.kind hk hc hcell fin) hd
  ·exact wpAny_Name (wpAny_loadName_free I.ok.kind hk hc hcell fin hcd) hd
theorem pe_int {i j pos}:PE X (.Constant (.int i) j pos) (tC (.int i)):=fun _ _ _ H _ I h=>wpAny_Constant_int ⟨.int i,H,I.tok _,⟨_,rfl⟩,h⟩
theorem pe_bl {b j pos}:PE X (.Constant (.bool b) j pos) (tC (.bl b)):=fun _ _ _ H _ I h=>Constant_bool ⟨.bl b,H,I,rfl,h⟩
theorem pe_str {x j pos}:PE X (.Constant (.str x) j pos) (tC (.str x)):=fun _ _ _ H _ I h=>Calls.Constant_str ⟨.str x,H,I.tok _,⟨_,rfl⟩,h⟩
def Gl (X:Cx) (x:Str):Prop:=X.env.kindOf x = some .globalImplicit
theorem ld_glob {E:Value -> Shared -> Prop} {pins:List (Addr × Obj)} {s:Shared} {σ:St} {H:Hp} {x:Str} {u:Value} {pos:Pos} {Q:Value -> Shared -> Prop} (I:Inv X pins σ H s) (hg:Gl X x) (hm:X.mg x = some u) (h:Q u s)
  (hd:(x == ("__debug__" : Str)) = false:=by decide):wpAny (model X.prog X.w) X.A (eval (.Name x pos) X.env) Q E s:=
 Calls.Name_function_global I.ok.kind hg (Calls.loadGlobal_global (by rw [I.ok.glob]; exact I.mod.glob.keeps I.bk) hm h) hd
theorem ld_blt {E:Value -> Shared -> Prop} {pins:List (Addr × Obj)} {s:Shared} {σ:St} {H:Hp} {x:Str} {u:Value} {pos:Pos} {Q:Value -> Shared -> Prop} (I:Inv X pins σ H s) (hg:Gl X x) (hm:X.mg x = none) (hv:bootBuiltins x = some u) (h:Q u s)
  (hn:x ≠ "__name__" := by decide) (hd:(x == ("__debug__" : Str)) = false:=by decide):wpAny (model X.prog X.w) X.A (eval (.Name x pos) X.env) Q E s:=by
 obtain ⟨mb,h1,h2⟩:=I.mod.blt
 exact Calls.Name_function_global I.ok.kind hg (Calls.loadGlobal_builtin (by rw [I.ok.glob]; exact I.mod.glob.keeps I.bk) hm (by rw [I.ok.blt]; exact h1.keeps I.bk) ((h2 x hn).trans hv) h) hd
theorem pe_bltn {x:Str} {v:V} {u:Value} {pos:Pos} (hg:Gl X x) (hm:X.mg x = none) (hv:bootBuiltins x = some u) (r:RelV v u) (hn:x ≠ "__name__" := by decide) (hd:(x == ("__debug__" : Str)) = false:=by decide):PE X (.Name x pos) (tC v):=
 fun _ _ _ H _ I h=>ld_blt I hg hm hv ⟨v,H,I,r,h⟩ hn hd
variable {a b:Expr} {ta tb:TE} {pos:Pos}
def PC (X:Cx) (op:CmpOp) (a b:Expr) (t:TE):Prop:=
 ∀ (pins:List (Addr × Obj)) (s:Shared) (σ:St) (H:Hp) (Q:VK),Inv X pins σ H s -> t σ H Q ->
  wpAny (model X.prog X.w) X.A (eval a X.env) (fun v s₁=>wpAny (model X.prog X.w) X.A (eval b X.env) (fun u s₂=>wpAny (model X.prog X.w) X.A (compareOp op v u) (EP X pins σ Q) X.xe s₂) X.xe s₁) X.xe s
theorem nobehind (b:Expr) {op:CmpOp} (h:op ≠ .In) (h2:op ≠ .NotIn):behindInMarks op b = false:=by
 have e1:(op == CmpOp.In) = false:=by cases op <;> first | rfl | exact absurd rfl h
 have e2:(op == CmpOp.NotIn) = false:=by cases op <;> first | rfl | exact absurd rfl h2
 cases b <;> simp [behindInMarks,e1,e2]
noncomputable def tB (t:TE):TT:=fun σ H Q=>t σ H fun x H1=>∃ c,x = .bl c /\ Q c H1
theorem pt_cmp {op:CmpOp} {t:TE} (h:PC X op a b t) (h1:behindInMarks op b = false:=by first | exact nobehind _ (by decide) (by decide) | rfl):PT X (.Compare a [op] [b] pos) (tB t):=by
 intro pins s σ H Q I hw
 refine wpAny_isTrue_Compare1 (thn (h pins s σ H _ I hw) fun v s1 h1=>thn h1 fun u s2 h2=>thn h2 fun c s3 ⟨x,H1,I1,r1,q1⟩=>?_) h1
 obtain ⟨d,rfl,q⟩:=q1
 cases r1
 exact wpAny_truthy_bool ⟨H1,I1,q⟩
theorem pt_val {e:Expr} {t:TE} (h:PE X e t) (he:∀ whole,isTrue e X.env whole = (do let v <- whole; standAt e.pos; holding [v] (truthy v)):=by intro _; rfl):PT X e (tB t):=by
 intro pins s σ H Q I hw
 refine isTrue_plain (thn (h pins s σ H _ I hw) fun v s1 ⟨x,H1,I1,r1,q1⟩=>?_) (he _)
 obtain ⟨d,rfl,q⟩:=q1
 cases r1
 exact wpAny_truthy_bool ⟨H1,I1,q⟩
variable {tA tB':TT} {rest:List Expr}
noncomputable def tAnd (t u:TT):TT:=fun σ H Q=>t σ H fun c H1=>if c = true then u σ H1 Q else Q false H1
noncomputable def tOr (t u:TT):TT:=fun σ H Q=>t σ H fun c H1=>if c = true then Q true H1 else u σ H1 Q
noncomputable def tNot (t:TT):TT:=fun σ H Q=>t σ H fun c H1=>Q (!c) H1
theorem pw_and1 (ha:PT X a tA):PW X (.BoolOp .And [a] pos) tA:=by
 intro wh pins s σ H Q I h
 refine isTrue_and (thn (ha pins s σ H Q I h) fun c s1 e=>?_)
 cases c with
 | true=>exact isTrue_and_nil e
 | false=>exact e
theorem pw_or1 (ha:PT X a tA):PW X (.BoolOp .Or [a] pos) tA:=by
 intro wh pins s σ H Q I h
 refine isTrue_or (thn (ha pins s σ H Q I h) fun c s1 e=>?_)
 cases c with
 | false=>exact isTrue_or_nil e
 | true=>exact e
theorem pw_and (ha:PT X a tA) (hb:PW X (.BoolOp .And (b :: rest) pos) tB'):PW X (.BoolOp .And (a :: b :: rest) pos) (tAnd tA tB'):=by
 intro wh pins s σ H Q I h
 refine isTrue_and (thn (ha pins s σ H _ I h) fun c s1 ⟨H1,I1,q1⟩=>?_)
 cases c with
 | true=>exact hb wh pins s1 σ H1 Q I1 q1
 | false=>exact ⟨H1,I1,q1⟩
theorem pw_or (ha:PT X a tA) (hb:PW X (.BoolOp .Or (b :: rest) pos) tB'):PW X (.BoolOp .Or (a :: b :: rest) pos) (tOr tA tB'):=by
 intro wh pins s σ H Q I h
 refine isTrue_or (thn (ha pins s σ H _ I h) fun c s1 ⟨H1,I1,q1⟩=>?_)
 cases c with
 | true=>exact ⟨H1,I1,q1⟩
 | false=>exact hb wh pins s1 σ H1 Q I1 q1
theorem pt_not (ha:PT X a tA):PT X (.UnaryOp .Not a pos) (tNot tA):=by
 intro pins s σ H Q I h
 exact isTrue_not (ha pins s σ H (fun c H1=>Q (!c) H1) I h)
noncomputable def tAndV (ta tb:TE):TE:=fun σ H Q=>ta σ H fun x H1=>∃ c,x = .bl c /\ if c = true then tb σ H1 Q else Q (.bl false) H1
noncomputable def tOrV (ta tb:TE):TE:=fun σ H Q=>ta σ H fun x H1=>∃ c,x = .bl c /\ if c = true then Q (.bl true) H1 else tb σ H1 Q
noncomputable def tNotV (ta:TE):TE:=fun σ H Q=>ta σ H fun x H1=>∃ c,x = .bl c /\ Q (.bl (!c)) H1
theorem pe_one {op} {t:TE} (h:PE X a t):PE X (.BoolOp op [a] pos) t:=fun pins s σ H Q I hw=>BoolOp_one (h pins s σ H Q I hw)
theorem pe_and (ha:PE X a ta) (hb:PE X (.BoolOp .And (b :: rest) pos) tb):PE X (.BoolOp .And (a :: b :: rest) pos) (tAndV ta tb):=by
 intro pins s σ H Q I h
 refine BoolOp_and (thn (ha pins s σ H _ I h) fun v s1 ⟨x,H1,I1,r1,q1⟩=>?_)
 obtain ⟨c,rfl,q1⟩:=q1
 cases r1
 refine wpAny_truthy_bool ?_
 cases c with
 | true=>exact hb pins s1 σ H1 Q I1 q1
 | false=>exact ⟨.bl false,H1,I1,rfl,q1⟩
theorem pe_or (ha:PE X a ta) (hb:PE X (.BoolOp .Or (b :: rest) pos) tb):PE X (.BoolOp .Or (a :: b :: rest) pos) (tOrV ta tb):=by
 intro pins s σ H Q I h
 refine BoolOp_or (thn (ha pins s σ H _ I h) fun v s1 ⟨x,H1,I1,r1,q1⟩=>?_)
 obtain ⟨c,rfl,q1⟩:=q1
 cases r1
 refine wpAny_truthy_bool ?_
 cases c with
 | false=>exact hb pins s1 σ H1 Q I1 q1
 | true=>exact ⟨.bl true,H1,I1,rfl,q1⟩
theorem pe_not (ha:PE X a ta):PE X (.UnaryOp .Not a pos) (tNotV ta):=by
 intro pins s σ H Q I h
 refine UnaryOp_ (thn (ha pins s σ H _ I h) fun v s1 ⟨x,H1,I1,r1,q1⟩=>?_)
 obtain ⟨c,rfl,q1⟩:=q1
 cases r1
 exact not_of (wpAny_truthy_bool ⟨.bl (!c),H1,I1,rfl,q1⟩)
noncomputable def tIf (t:TT) (ta tb:TE):TE:=fun σ H Q=>t σ H fun c H1=>if c = true then ta σ H1 Q else tb σ H1 Q
theorem pe_ifExp {c:Expr} (hc:PT X c tA) (ha:PE X a ta) (hb:PE X b tb):PE X (.IfExp c a b pos) (tIf tA ta tb):=by
 intro pins s σ H Q I h
 refine wpAny_IfExp (thn (hc pins s σ H _ I h) fun d s1 ⟨H1,I1,q1⟩=>?_)
 cases d with
 | true=>exact ha pins s1 σ H1 Q I1 q1
 | false=>exact hb pins s1 σ H1 Q I1 q1
end
def SqL (K:Frag) (H:Hp) (a:Addr) (xs:List V):Prop:=
 Rd H a (.lst xs) \/
  ∃ (o:Obj) (its:Array Value) (n:Nat),K.lookup a = some o /\ o.cls = .type "list" /\ o.dict = none /\ o.data = .seq its n /\ its.size <= sizeLine /\ Vals xs its.toList
def SqT (K:Frag) (H:Hp) (a:Addr) (xs:List V):Prop:=
 Rd H a (.tup xs) \/
  ∃ (o:Obj) (its:Array Value) (n:Nat),K.lookup a = some o /\ o.cls = .type "tuple" /\ o.data = .seq its n /\ its.size <= sizeLine /\ Vals xs its.toList
noncomputable def absV:Value -> Option V
 | .none=>some .non
 | .bool b=>some (.bl b)
 | .int i _=>some (.int i)
 | .str x _=>some (.str x)
 | .bytes b _=>some (.byt b)
 | .float b _=>some (.flt b)
 | .ref a=>some (.ref a)
 | .type n=>some (.ty n)
 | _=>none
theorem RelV.abs {x:V} {u:Value} (r:RelV x u):absV u = some x:=by
 cases x with
 | non=>cases r; rfl
 | bl _=>cases r; rfl
 | int _=>obtain ⟨t,rfl⟩:=r; rfl
 | str _=>obtain ⟨t,rfl⟩:=r; rfl
 | byt _=>obtain ⟨t,rfl⟩:=r; rfl
 | flt _=>obtain ⟨t,rfl⟩:=r; rfl
 | ref _=>cases r; rfl
 | ty _=>cases r; rfl
theorem RelV.inj {x y:V} {u:Value} (r:RelV x u) (q:RelV y u):x = y:=Option.some.inj (r.abs.symm.trans q.abs)
theorem Vals.inj:∀ {xs ys:List V} {us:List Value},Vals xs us -> Vals ys us -> xs = ys
 | _,_,_,.nil,.nil=>rfl
 | _,_,_,.cons r t,.cons r' t'=>by rw [r.inj r',Vals.inj t t']
section
variable {X:Cx} {pins:List (Addr × Obj)} {σ:St} {H:Hp} {s:Shared} {a:Addr} {xs ys:List V}
theorem SqL.of {K:Frag} (h:H a = some (.lst xs)):SqL K H a xs:=.inl (.inl h)
theorem SqT.of {K:Frag} (h:H a = some (.tup xs)):SqT K H a xs:=.inl (.inl h)
theorem Inv.list (I:Inv X pins σ H s) (h:SqL X.K H a xs):∃ its:List Value,Vals xs its /\ PlainL s.heap a its.toArray /\ xs.length <= sizeLine:=by
 rcases h with h | ⟨o,its,n,hk,hc,hd,hs,hz,r⟩
 ·obtain ⟨z,its,n,r,e⟩:=h.ok I.hok
  exact ⟨its,r,⟨_,n,e,rfl,rfl,rfl⟩,z⟩
 ·refine ⟨its.toList,r,⟨o,n,I.kIn a o hk,hc,hd,by simpa using hs⟩,?_⟩
  have e:=r.length
  simp only [Array.length_toList] at e
  omega
theorem Inv.tuple (I:Inv X pins σ H s) (h:SqT X.K H a xs):∃ its:List Value,Vals xs its /\ IsTup s.heap a its.toArray /\ xs.length <= sizeLine:=by
 rcases h with h | ⟨o,its,n,hk,hc,hs,hz,r⟩
 ·obtain ⟨z,its,r,p⟩:=h.ok I.hok
  exact ⟨its,r,p,z⟩
 ·refine ⟨its.toList,r,⟨o,I.kIn a o hk,hc,n,by simpa using hs⟩,?_⟩
  have e:=r.length
  simp only [Array.length_toList] at e
  omega
theorem Inv.list_inj (I:Inv X pins σ H s) (h:SqL X.K H a xs) (h':SqL X.K H a ys):xs = ys:=by
 obtain ⟨its,r,⟨o,n,e,_,_,d⟩,_⟩:=I.list h
 obtain ⟨its',r',⟨o',n',e',_,_,d'⟩,_⟩:=I.list h'
 rw [e] at e'; cases e'
 rw [d] at d'
 injection d' with d1 _
 have:its = its':=by simpa using congrArg Array.toList d1
 subst this
 exact r.inj r'
theorem Inv.tuple_inj (I:Inv X pins σ H s) (h:SqT X.K H a xs) (h':SqT X.K H a ys):xs = ys:=by
 obtain ⟨its,r,⟨o,e,_,n,d⟩,_⟩:=I.tuple h
 obtain ⟨its',r',⟨o',e',_,n',d'⟩,_⟩:=I.tuple h'
 rw [e] at e'; cases e'
 rw [d] at d'
 injection d' with d1 _
 have:its = its':=by simpa using congrArg Array.toList d1
 subst this
 exact r.inj r'
end
noncomputable abbrev Cx.wish (X:Cx) (E:Value -> Shared -> Prop):Cx:={ X with xe:=E }
noncomputable abbrev Cx.nox (X:Cx):Cx:=X.wish fun _ _=>False
theorem Cx.Ok.wish {X:Cx} (ok:X.Ok) (E:Value -> Shared -> Prop):(X.wish E).Ok:=
 ⟨ok.mod,ok.kind,ok.glob,ok.blt,ok.above,ok.inj,ok.has,ok.cab,ok.hd,ok.frames,ok.stk,ok.exf,ok.bs,ok.bsz,ok.noex,ok.exfs,ok.funs,ok.frf⟩
theorem Cx.Ok.unwish {X:Cx} {E:Value -> Shared -> Prop} (ok:(X.wish E).Ok):X.Ok:=
 ⟨ok.mod,ok.kind,ok.glob,ok.blt,ok.above,ok.inj,ok.has,ok.cab,ok.hd,ok.frames,ok.stk,ok.exf,ok.bs,ok.bsz,ok.noex,ok.exfs,ok.funs,ok.frf⟩
section
variable {X:Cx} {pins:List (Addr × Obj)} {σ:St} {H:Hp} {s:Shared} {E:Value -> Shared -> Prop}
theorem Inv.wish (I:Inv X pins σ H s) (E:Value -> Shared -> Prop):Inv (X.wish E) pins σ H s:=⟨I.ok.wish E,I.os,I.bare,I.base,I.loc,I.cell,I.free,I.freeC,I.pin,I.hok,I.len,I.tk⟩
theorem Inv.unwish (I:Inv (X.wish E) pins σ H s):Inv X pins σ H s:=⟨I.ok.unwish,I.os,I.bare,I.base,I.loc,I.cell,I.free,I.freeC,I.pin,I.hok,I.len,I.tk⟩
theorem SP.unwish {D:Ends} {f:Flow} {s':Shared} (h:SP (X.wish E) pins D f s'):SP X pins D f s':=by
 cases f with
 | next=>obtain ⟨σ',H',I,q⟩:=h; exact ⟨σ',H',I.unwish,q⟩
 | brk=>obtain ⟨σ',H',I,q⟩:=h; exact ⟨σ',H',I.unwish,q⟩
 | cont=>obtain ⟨σ',H',I,q⟩:=h; exact ⟨σ',H',I.unwish,q⟩
 | ret u=>obtain ⟨v,σ',H',I,r,q⟩:=h; exact ⟨v,σ',H',I.unwish,r,q⟩
theorem PE.nox {e:Expr} {t:TE} (h:PE X.nox e t):PE X e t:=fun pins s σ H Q I hw=>
 wpAny_mono (h pins s σ H Q (I.wish _) hw) (fun _ _ ⟨v,H',I',r,q⟩=>⟨v,H',I'.unwish,r,q⟩) fun _ _ z=>False.elim z
theorem PT.nox {e:Expr} {t:TT} (h:PT X.nox e t):PT X e t:=fun pins s σ H Q I hw=>
 wpAny_mono (h pins s σ H Q (I.wish _) hw) (fun _ _ ⟨H',I',q⟩=>⟨H',I'.unwish,q⟩) fun _ _ z=>False.elim z
theorem PSs.nox {st:List Stmt} {t:TS} (h:PSs X.nox st t):PSs X st t:=fun pins s σ H D I hw=>
 wpAny_mono (h pins s σ H D (I.wish _) hw) (fun _ _ q=>q.unwish) fun _ _ z=>False.elim z
end
section
variable {X:Cx} {st:Stmt} {rest:List Stmt} {t u:TS} {e:Expr} {te:TE} {pos:Pos}
noncomputable def tNext:TS:=fun D σ H=>D.nx σ H
noncomputable def tSeq (t u:TS):TS:=fun D σ H=>t { D with nx:=u D } σ H
theorem pss_nil:PSs X [] tNext:=fun _ _ σ H _ I h=>wpAny_execs_nil ⟨σ,H,I,h⟩
theorem pss_cons (h1:PS X st t) (h2:PSs X rest u):PSs X (st :: rest) (tSeq t u):=by
 intro pins s σ H D I h
 refine wpAny_execs_cons (thn (h1 pins s σ H { D with nx:=u D } I h) fun f s1 q=>?_)
 cases f with
 | next=>
  obtain ⟨σ',H',I',q⟩:=q
  exact h2 pins s1 σ' H' D I' q
 | ret v=>exact q
 | brk=>exact q
 | cont=>exact q
theorem pss_one (h1:PS X st t):PSs X [st] t:=by
 intro pins s σ H D I h
 refine wpAny_execs_cons (thn (h1 pins s σ H D I h) fun f s1 q=>?_)
 cases f with
 | next=>exact wpAny_execs_nil q
 | ret v=>exact q
 | brk=>exact q
 | cont=>exact q
theorem Inv.quiet {pins:List (Addr × Obj)} {σ:St} {H:Hp} {s:Shared} (I:Inv X pins σ H s):interactive X.env = false:=by simp [interactive,I.ok.kind]
noncomputable def tDrop (te:TE):TS:=fun D σ H=>te σ H fun _ H1=>D.nx σ H1
theorem ps_expr (he:PE X e te) (hs:swapsWith e none pos.line X.env = pure false:=by rfl):PS X (.Expr e pos) (tDrop te):=by
 intro pins s σ H D I h
 exact wpAny_Expr_any (thn (he pins s σ H _ I h) fun v s1 ⟨x,H1,I1,r1,q1⟩=>⟨σ,H1,I1,q1⟩) I.quiet hs
noncomputable def tRet (te:TE):TS:=fun D σ H=>te σ H D.rt
theorem ps_ret (he:PE X e te):PS X (.Return (some e) pos) (tRet te):=by
 intro pins s σ H D I h
 exact wpAny_Return_some (thn (he pins s σ H _ I h) fun v s1 ⟨x,H1,I1,r1,q1⟩=>⟨x,σ,H1,I1,r1,q1⟩)
noncomputable def tIfS (c:TT) (t u:TS):TS:=fun D σ H=>c σ H fun b H1=>if b = true then t D σ H1 else u D σ H1
theorem ps_if {c:Expr} {a b:List Stmt} {tc:TT} (hc:PT X c tc) (ha:PSs X a t) (hb:PSs X b u):PS X (.If c a b pos) (tIfS tc t u):=by
 intro pins s σ H D I h
 refine wpAny_If (thn (hc pins s σ H _ I h) fun d s1 ⟨H1,I1,q1⟩=>?_)
 cases d with
 | true=>exact ha pins s1 σ H1 D I1 q1
 | false=>exact hb pins s1 σ H1 D I1 q1
end
noncomputable abbrev TG:=V -> St -> Hp -> (St -> Hp -> Prop) -> Prop
noncomputable abbrev TGs:=List V -> St -> Hp -> (St -> Hp -> Prop) -> Prop
def PG (X:Cx) (target:Expr) (t:TG):Prop:=
 ∀ (pins:List (Addr × Obj)) (s:Shared) (σ:St) (H:Hp) (v:V) (u:Value) (Q:St -> Hp -> Prop),Inv X pins σ H s -> RelV v u -> t v σ H Q ->
  wpAny (model X.prog X.w) X.A (assign target X.env u) (fun _ s'=>∃ σ' H',Inv X pins σ' H' s' /\ Q σ' H') X.xe s
def PGs (X:Cx) (ts:List Expr) (t:TGs):Prop:=
 ∀ (pins:List (Addr × Obj)) (s:Shared) (σ:St) (H:Hp) (vs:List V) (us:List Value) (Q:St -> Hp -> Prop),Inv X pins σ H s -> Vals vs us -> t vs σ H Q ->
  wpAny (model X.prog X.w) X.A (assignInOrder ((assignEach ts X.env).map (·.2)) us) (fun _ s'=>∃ σ' H',Inv X pins σ' H' s' /\ Q σ' H') X.xe s
noncomputable abbrev TSet:=V -> V -> V -> Hp -> (Hp -> Prop) -> Prop
def PSet (X:Cx) (t:TSet):Prop:=
 ∀ (pins:List (Addr × Obj)) (s:Shared) (σ:St) (H:Hp) (o i v:V) (ov iv u:Value) (Q:Hp -> Prop),Inv X pins σ H s -> RelV o ov -> RelV i iv -> RelV v u -> t o i v H Q ->
  wpAny (model X.prog X.w) X.A (setItem ov iv u) (fun _ s'=>∃ H',Inv X pins σ H' s' /\ Q H') X.xe s
section
variable {X:Cx} {pos:Pos}
noncomputable def gName (i:Nat):TG:=fun v σ H Q=>Q (σ.set i (some v)) H
theorem pg_name {i:Nat} {x:Str} (hN:X.N.Nodup) (hi:X.N[i]? = some x) (hx:Loc X.env.scope x) (hf:X.fn x = true \/ X.env.scope.names.lookup x = some .local:=by first | exact .inl rfl | exact .inr rfl | assumption):PG X (.Name x pos) (gName i):=by
 intro pins s σ H v u Q I r h
 exact wpAny_assign_Name (store_ok I hN hi hx r (fun s' I'=>⟨_,H,I',h⟩) hf)
noncomputable def gNil:TGs:=fun vs σ H Q=>vs = [] /\ Q σ H
noncomputable def gCons (t:TG) (u:TGs):TGs:=fun vs σ H Q=>∃ v r,vs = v :: r /\ t v σ H fun σ' H'=>u r σ' H' Q
theorem pgs_nil:PGs X [] gNil:=by
 intro pins s σ H vs us Q I r h
 obtain ⟨e,h⟩:=h
 subst e
 cases r
 exact assignInOrder_nil ⟨σ,H,I,h⟩
theorem pgs_cons {e:Expr} {es:List Expr} {t:TG} {u:TGs} (h1:PG X e t) (h2:PGs X es u)
  (hs:(assignEach (e :: es) X.env).map (·.2) = assign e X.env :: (assignEach es X.env).map (·.2):=by rfl):PGs X (e :: es) (gCons t u):=by
 intro pins s σ H vs us Q I r h
 obtain ⟨v,vr,e1,h⟩:=h
 subst e1
 cases r with
 | cons r rr=>
  rw [hs]
  refine assignInOrder_cons (thn (h1 pins s σ H _ _ _ I r h) fun _ s1 ⟨σ1,H1,I1,q1⟩=>?_)
  exact h2 pins s1 σ1 H1 _ _ Q I1 rr q1
noncomputable def gTup (K:Frag) (n:Nat) (t:TGs):TG:=fun v σ H Q=>∃ a xs,v = .ref a /\ SqT K H a xs /\ xs.length = n /\ t xs σ H Q
theorem pg_tup {es:List Expr} {k:Nat} {t:TGs} {n:Nat} (hc:X.calm = true) (h:PGs X es t)
  (hn:(assignEach es X.env).length = n:=by rfl) (hst:(assignEach es X.env).findIdx? (·.1) = none:=by rfl):PG X (.Tuple es k pos) (gTup X.K n t):=by
 intro pins s σ H v u Q I r hw
 obtain ⟨a,xs,e1,hq,hl,hw⟩:=hw
 subst e1
 cases r
 obtain ⟨its,rv,ht,hz⟩:=I.tuple hq
 refine assign_Tuple_tuple (I.ok.hd hc) ht (by simp [hn,<- hl,rv.length]) hst fun h' hx=>?_
 have I1:Inv X pins σ H { s with heap:=h' }:=I.kept (t':=s.toks) fun b o e=>hx b o (Nat.ne_of_lt (Heap.lt_size e)) e
 exact h pins _ σ H xs _ Q I1 (by simpa using rv) hw
noncomputable def gSub (to ti:TE) (t:TSet):TG:=fun v σ H Q=>to σ H fun o H1=>ti σ H1 fun i H2=>t o i v H2 fun H3=>Q σ H3
theorem pg_sub {o i:Expr} {to ti:TE} {t:TSet} (ho:PE X o to) (hi:PE X i ti) (hs:PSet X t)
  (ha:∀ v,assign (.Subscript o i pos) X.env v = (do
   let ov <- holding [v] (eval o X.env)
   let iv <- holding [v,ov] (eval i X.env)
   standAt pos
   holding [v,ov,iv] (setItem ov iv v)
   release [v,ov,iv] []):=by intro _; rfl):PG X (.Subscript o i pos) (gSub to ti t):=by
 intro pins s σ H v u Q I r h
 rw [ha]
 refine wpAny_bind (wpAny_holding (thn (ho pins s σ H _ I h) fun ov s1 ⟨x,H1,I1,r1,q1⟩=>?_))
 refine wpAny_bind (wpAny_holding (thn (hi pins s1 σ H1 _ I1 q1) fun iv s2 ⟨y,H2,I2,r2,q2⟩=>?_))
 refine wpAny_bind (wpAny_standAt (wpAny_bind (wpAny_holding (thn (hs pins s2 σ H2 x y v ov iv u _ I2 r1 r2 r q2) fun _ s3 ⟨H3,I3,q3⟩=>?_))))
 exact wpAny_release ⟨σ,H3,I3,q3⟩
noncomputable def tAsg (te:TE) (g:TG):TS:=fun D σ H=>te σ H fun x H1=>g x σ H1 D.nx
theorem ps_asg {tg e:Expr} {te:TE} {g:TG} (he:PE X e te) (hg:PG X tg g) (hs:swapsWithSole [tg] e pos.line X.env = pure false:=by rfl) (hw:swappedStores [tg] e X.env = pure none:=by rfl)
  (h1:(assignEach [tg] X.env).map (·.2) = [assign tg X.env]:=by rfl):PS X (.Assign [tg] e pos) (tAsg te g):=by
 intro pins s σ H D I h
 refine wpAny_Assign_stores (thn (he pins s σ H _ I h) fun v s1 ⟨x,H1,I1,r1,q1⟩=>?_) hs hw
 rw [h1]
 exact thn (hg pins s1 σ H1 x v _ I1 r1 q1) fun _ s2 q=>q
theorem ps_set {i:Nat} {x:Str} {e:Expr} {te:TE} {pos':Pos} (hN:X.N.Nodup) (hi:X.N[i]? = some x) (hx:Loc X.env.scope x) (he:PE X e te) (hs:swapsWith e (some (.Name x pos')) pos.line X.env = pure false:=by rfl) (hf:X.fn x = true \/ X.env.scope.names.lookup x = some .local:=by first | exact .inl rfl | exact .inr rfl | assumption):
  PS X (.Assign [.Name x pos'] e pos) (tAsg te (gName i)):=by
 intro pins s σ H D I h
 refine wpAny_Assign_Name (thn (he pins s σ H _ I h) fun v s1 ⟨y,H1,I1,r1,q1⟩=>?_) hs
 exact store_ok I1 hN hi hx r1 (fun s2 I2=>⟨_,H1,I2,q1⟩) hf
end
section
variable {X:Cx} {pos:Pos}
end
structure It where
 go:Nat -> Hp -> Prop
 yld:Nat -> Hp -> V -> Hp -> Prop
 stop:Nat -> Hp -> Prop
def FpOk (X:Cx) (pins:List (Addr × Obj)) (H:Hp) (b:Addr):Prop:=
 H b = none /\ b ≠ X.env.locals /\ b ∉ X.fs /\ (b ∈ X.ex \/ X.s₀.heap.objs.size <= b) /\ (∀ x c,X.env.cells.lookup x = some c -> c ≠ b) /\ ∀ p ∈ X.pn ++ pins,p.1 ≠ b
theorem Inv.fpOk {X:Cx} {pins:List (Addr × Obj)} {σ:St} {H H':Hp} {s:Shared} {b:Addr} (I:Inv X pins σ H s) (hb:s.heap.objs.size <= b) (hn:H' b = none):FpOk X pins H' b:=by
 refine ⟨hn,Nat.ne_of_gt (Nat.lt_of_lt_of_le I.lt hb),I.nofs hb,.inr (Nat.le_trans I.sz hb),fun x c e z=>?_,fun p hp z=>?_⟩
 ·obtain ⟨v,q⟩:=I.cell x c e
  exact absurd (Nat.lt_of_lt_of_le q.lt (by rw [z]; exact hb)) (Nat.lt_irrefl _)
 ·exact absurd (Nat.lt_of_lt_of_le (Heap.lt_size (I.pin p hp).1) (by rw [z]; exact hb)) (Nat.lt_irrefl _)
structure Turn (P:Program) (w:World) (K:Frag) (tg:Expr) (J:It) (fp:List Addr) (it:Addr) (tn:Nat -> Heap -> Prop):Prop where
 mem:it ∈ fp
 obj:∀ i h,tn i h -> ∀ b ∈ fp,∃ o,h.get? b = some o /\ ∀ v,o.data ≠ .cell v
 keep:∀ i h h',tn i h -> (∀ b ∈ fp,∀ o,h.get? b = some o -> h'.get? b = some o) -> tn i h'
 item:∀ (X:Cx),X.prog = P -> X.w = w -> X.K = K -> X.calm = true -> ∀ (i:Nat) (pins:List (Addr × Obj)) (s:Shared) (σ:St) (H:Hp) (E:Value -> Shared -> Prop),Inv X pins σ H s -> (∀ b ∈ fp,FpOk X pins H b) -> tn i s.heap -> J.go i H ->
  wpAny (model P w) X.A (pyNext (.ref it)) (fun r s1=>∃ u,r = some u /\
   wpAny (model P w) X.A (letOwnedTupleGo tg (.ref it) u) (fun _ s2=>∃ x H',Inv X pins σ H' s2 /\ RelV x u /\ J.yld i H x H' /\ tn (i + 1) s2.heap /\ ∀ b ∈ fp,H' b = none) E s1) E s
 done:∀ (X:Cx),X.prog = P -> X.w = w -> X.K = K -> X.calm = true -> ∀ (i:Nat) (pins:List (Addr × Obj)) (s:Shared) (σ:St) (H:Hp) (E:Value -> Shared -> Prop),Inv X pins σ H s -> (∀ b ∈ fp,FpOk X pins H b) -> tn i s.heap -> J.stop i H ->
  wpAny (model P w) X.A (pyNext (.ref it)) (fun r s1=>r = none /\ Inv X pins σ H s1) E s
 self:∀ (A:Around) (i:Nat) (s:Shared) (Q:Value -> Shared -> Prop) (E:Value -> Shared -> Prop),tn i s.heap -> Q (.ref it) s -> wpAny (model P w) A (pyIter (.ref it)) Q E s
noncomputable abbrev TI:=St -> Hp -> (It -> Hp -> Prop) -> Prop
def PIE (X:Cx) (pins:List (Addr × Obj)) (σ:St) (tg:Expr) (R:It -> Hp -> Prop) (itv:Value) (s2:Shared):Prop:=
 ∃ (it:Addr) (fp:List Addr) (tn:Nat -> Heap -> Prop) (J:It) (H':Hp),itv = .ref it /\ Inv X pins σ H' s2 /\ Turn X.prog X.w X.K tg J fp it tn /\ tn 0 s2.heap /\ (∀ b ∈ fp,FpOk X pins H' b) /\ R J H'
def PI (X:Cx) (tg iter:Expr) (wi:TI):Prop:=
 ∀ (pins:List (Addr × Obj)) (s:Shared) (σ:St) (H:Hp) (R:It -> Hp -> Prop),Inv X pins σ H s -> wi σ H R ->
  wpAny (model X.prog X.w) X.A (eval iter X.env) (fun v s1=>wpAny (model X.prog X.w) X.A (pyIter v) (PIE X pins σ tg R) X.xe s1) X.xe s
theorem go_of {M:Model} {A:Around} {E:Value -> Shared -> Prop} {s:Shared} {tg:Expr} {it:Addr} {u:Value} {o:Obj} {n:String} {vs:Array Value} {Q:Unit -> Shared -> Prop} (ho:s.heap.get? it = some o) (hc:o.cls = .type n) (hd:o.data = .fields vs)
  (hn:["enumerate", "zip", "dict_itemiterator", "dict_reverseitemiterator", "odict_iterator", "itertools.zip_longest", "itertools.pairwise"].contains n = false) (hQ:Q () s):wpAny M A (letOwnedTupleGo tg (.ref it) u) Q E s:=by
 unfold letOwnedTupleGo
 cases tg <;> first
  | exact wpAny_pure hQ
  | (cases u <;> first
    | exact wpAny_pure hQ
    | (refine wpAny_bind (wpAny_load ho ?_); rw [hc,hd]; show wpAny M A (if (["enumerate", "zip", "dict_itemiterator", "dict_reverseitemiterator", "odict_iterator", "itertools.zip_longest", "itertools.pairwise"].contains n && vs[0]? == some (rawInt _)) = true then _ else _) Q E s; rw [if_neg (by intro h; rw [hn,Bool.false_and] at h; cases h)]; exact wpAny_pure hQ))
noncomputable def Itl (K:Frag) (a:Addr):It:=
 ⟨fun i H=>∃ xs x,SqL K H a xs /\ xs[i]? = some x,fun i H x H'=>H' = H /\ ∀ xs,SqL K H a xs -> xs[i]? = some x,fun i H=>∃ xs,SqL K H a xs /\ xs.length <= i⟩
noncomputable def Itt (K:Frag) (a:Addr):It:=
 ⟨fun i H=>∃ xs x,SqT K H a xs /\ xs[i]? = some x,fun i H x H'=>H' = H /\ ∀ xs,SqT K H a xs -> xs[i]? = some x,fun i H=>∃ xs,SqT K H a xs /\ xs.length <= i⟩
noncomputable def Itr (lo:Int) (n:Nat):It:=⟨fun i _=>i < n,fun i H x H'=>H' = H /\ x = .int (lo + i),fun i _=>n <= i⟩
theorem turn_list {P:Program} {w:World} {K:Frag} {tg:Expr} (a it:Addr):Turn P w K tg (Itl K a) [it] it (fun i h=>h.IsListIter it a i) where
 mem:=by simp
 obj:=fun i h st b hb=>by
  have e:b = it:=by simpa using hb
  subst e
  obtain ⟨o,e,c,d⟩:=st
  exact ⟨o,e,fun v z=>by rw [d] at z; cases z⟩
 keep:=fun i h h' st k=>st.at fun o e=>k it (by simp) o e
 item:=by
  intro X hP hw hK hc i pins s σ H E I hf st hg
  subst hP hw hK
  obtain ⟨xs,x,hq,hx⟩:=hg
  obtain ⟨its,rv,p,hz⟩:=I.list hq
  obtain ⟨u,hu,ru⟩:=rv.get hx
  obtain ⟨f0,f1,f2,f3,f4,f5⟩:=hf it (by simp)
  refine wpAny_pyNext_list_item st p.isList (x:=u) (by simpa using hu) fun h' st' sb=>?_
  have I1:Inv X pins σ H { s with heap:=h' }:=I.turned (t':=s.toks) (fun b o hb e=>(sb.2 b hb).trans e) f0 f1 f3 f4 f5
  obtain ⟨o,e,c,d⟩:=id st'
  exact ⟨u,rfl,go_of (s:={ s with heap:=h' }) e c d (by decide) ⟨x,H,I1,ru,⟨rfl,fun ys hy=>by rw [I.list_inj hy hq]; exact hx⟩,st',fun b hb=>(hf b hb).1⟩⟩
 done:=by
  intro X hP hw hK hc i pins s σ H E I hf st hg
  subst hP hw hK
  obtain ⟨xs,hq,hx⟩:=hg
  obtain ⟨its,rv,p,hz⟩:=I.list hq
  obtain ⟨f0,f1,f2,f3,f4,f5⟩:=hf it (by simp)
  have hl:=rv.length
  exact wpAny_pyNext_list_end (I.ok.hd hc) st p.isList (by simp; omega) fun h' eb=>⟨rfl,I.turned (t':=s.toks) (fun b o hb e=>eb b o hb e) f0 f1 f3 f4 f5⟩
 self:=fun _ _ _ _ _ st h=>wpAny_pyIter_listiter st h
theorem turn_tuple {P:Program} {w:World} {K:Frag} {tg:Expr} (a it:Addr):Turn P w K tg (Itt K a) [it] it (fun i h=>h.IsTupleIter it a i) where
 mem:=by simp
 obj:=fun i h st b hb=>by
  have e:b = it:=by simpa using hb
  subst e
  obtain ⟨o,e,c,d⟩:=st
  exact ⟨o,e,fun v z=>by rw [d] at z; cases z⟩
 keep:=fun i h h' st k=>st.at fun o e=>k it (by simp) o e
 item:=by
  intro X hP hw hK hc i pins s σ H E I hf st hg
  subst hP hw hK
  obtain ⟨xs,x,hq,hx⟩:=hg
  obtain ⟨its,rv,p,hz⟩:=I.tuple hq
  obtain ⟨u,hu,ru⟩:=rv.get hx
  obtain ⟨f0,f1,f2,f3,f4,f5⟩:=hf it (by simp)
  refine wpAny_pyNext_tuple_item st (show s.heap.IsTuple a its.toArray from p) (x:=u) (by simpa using hu) fun h' st' sb=>?_
  have I1:Inv X pins σ H { s with heap:=h' }:=I.turned (t':=s.toks) (fun b o hb e=>(sb.2 b hb).trans e) f0 f1 f3 f4 f5
  obtain ⟨o,e,c,d⟩:=id st'
  exact ⟨u,rfl,go_of (s:={ s with heap:=h' }) e c d (by decide) ⟨x,H,I1,ru,⟨rfl,fun ys hy=>by rw [I.tuple_inj hy hq]; exact hx⟩,st',fun b hb=>(hf b hb).1⟩⟩
 done:=by
  intro X hP hw hK hc i pins s σ H E I hf st hg
  subst hP hw hK
  obtain ⟨xs,hq,hx⟩:=hg
  obtain ⟨its,rv,p,hz⟩:=I.tuple hq
  obtain ⟨f0,f1,f2,f3,f4,f5⟩:=hf it (by simp)
  have hl:=rv.length
  exact wpAny_pyNext_tuple_end (I.ok.hd hc) st (show s.heap.IsTuple a its.toArray from p) (by simp; omega) fun h' eb=>⟨rfl,I.turned (t':=s.toks) (fun b o hb e=>eb b o hb e) f0 f1 f3 f4 f5⟩
 self:=fun _ _ _ _ _ st h=>wpAny_pyIter_tupleiter st h
theorem turn_range {P:Program} {w:World} {K:Frag} {tg:Expr} (it:Addr) (lo:Int) (n:Nat):Turn P w K tg (Itr lo n) [it] it (fun i h=>IsRangeIter h it (lo + (i:Nat) * 1) ((n:Int) - (i:Nat)) 1) where
 mem:=by simp
 obj:=fun i h st b hb=>by
  have e:b = it:=by simpa using hb
  subst e
  exact ⟨_,st,fun v z=>by
   have z':Data.fields _ = Data.cell v:=z
   cases z'⟩
 keep:=fun i h h' st k=>k it (by simp) _ st
 item:=by
  intro X hP hw hK hc i pins s σ H E I hf st hg
  subst hP hw hK
  obtain ⟨f0,f1,f2,f3,f4,f5⟩:=hf it (by simp)
  have W:=Walks.range (prog:=X.prog) (w:=X.w) (I.ok.hd hc) it lo 1 n
  refine tokQ I.tk (W.item i s _ _ hg st fun v h' tk hv st' kk (htk:0 < tk)=>?_)
  obtain ⟨t,rfl⟩:=hv
  have I1:Inv X pins σ H { s with heap:=h',toks:=tk }:=I.turned (fun b o hb e=>kk b o (by simpa using hb) e) f0 f1 f3 f4 f5
  refine ⟨_,rfl,go_of (s:={ s with heap:=h',toks:=tk }) (n := "range_iterator") st' rfl rfl (by decide) ⟨.int (lo + i),H,I1,⟨t,?_⟩,⟨rfl,rfl⟩,st',fun b hb=>(hf b hb).1⟩⟩
  rw [Int.mul_one]
 done:=by
  intro X hP hw hK hc i pins s σ H E I hf st hg
  subst hP hw hK
  obtain ⟨f0,f1,f2,f3,f4,f5⟩:=hf it (by simp)
  exact wpAny_pyNext_range_end (I.ok.hd hc) st (by have:n <= i:=hg; omega) fun h' eb=>⟨rfl,I.turned (t':=s.toks) (fun b o hb e=>eb b o hb e) f0 f1 f3 f4 f5⟩
 self:=fun _ _ _ _ _ st h=>wpAny_pyIter_rangeiter st h
section
variable {X:Cx} {tg:Expr}
theorem range_it {pins:List (Addr × Obj)} {σ:St} {H:Hp} {s:Shared} {R:It -> Hp -> Prop} {E:Value -> Shared -> Prop} {lo hi:Int} {t u v:Tok} {tk:Nat} (I:Inv X pins σ H s) (h1:-(2 ^ 62) <= lo) (h2:lo < 2 ^ 62) (h3:-(2 ^ 62) <= hi) (h4:hi < 2 ^ 62)
  (q:R (Itr lo (hi - lo).toNat) H) (htk:0 < tk:=by first | assumption | exact Nat.succ_pos _ | (apply Inv.tk; assumption) | omega):wpAny (model X.prog X.w) X.A (pyIter (.ref s.heap.objs.size)) (PIE X pins σ tg R) E { s with heap:=s.heap.push { cls:=.type "range",data:=.fields #[.int lo t,.int hi u,.int 1 v] },toks:=tk }:=by
 refine wpAny_pyIter_range (IsRange.new ..) (small_one h1 h2 h3 h4) ?_
 have I1:Inv X pins σ H { s with heap:=s.heap.push { cls:=.type "range",data:=.fields #[.int lo t,.int hi u,.int 1 v] },toks:=tk }:=I.kept fun b o e=>Heap.get?_push_of_some _ e
 refine ⟨(s.heap.push { cls:=.type "range",data:=.fields #[.int lo t,.int hi u,.int 1 v] }).objs.size,[(s.heap.push { cls:=.type "range",data:=.fields #[.int lo t,.int hi u,.int 1 v] }).objs.size],_,_,H,rfl,
  I1.kept (t':=tk) fun b o e=>Heap.get?_push_of_some _ e,turn_range _ lo (hi - lo).toNat,?_,fun b hb=>?_,q⟩
 ·have e1:lo + ((0:Nat):Int) * 1 = lo:=by simp
  have e2:(((hi - lo).toNat:Nat):Int) - ((0:Nat):Int) = Builtin.Range.rangeSize lo hi 1:=by rw [rangeSize_one]; split <;> omega
  show IsRangeIter _ _ (lo + ((0:Nat):Int) * 1) ((((hi - lo).toNat:Nat):Int) - ((0:Nat):Int)) 1
  rw [e1,e2]
  exact Heap.get?_push_size _ rfl
 ·have e:b = (s.heap.push { cls:=.type "range",data:=.fields #[.int lo t,.int hi u,.int 1 v] }).objs.size:=by simpa using hb
  subst e
  exact I1.fpOk (Nat.le_refl _) (I1.hok.fresh (Nat.le_refl _))
noncomputable def iRng1 (ta:TA):TI:=fun σ H R=>ta σ H fun vs H1=>∃ j:Int,vs = [.int j] /\ -(2 ^ 62) <= j /\ j < 2 ^ 62 /\ R (Itr 0 j.toNat) H1
theorem pi_range1 {a:Expr} {ta:TA} {p pos:Pos} (hg:Gl X "range") (hm:X.mg "range" = none) (ha:PA X [a] ta) (hs:starEach [a] X.env = [(false,eval a X.env)]:=by rfl):PI X tg (.Call (.Name "range" p) [a] [] pos) (iRng1 ta):=by
 intro pins s σ H R I h
 refine Call_ (ld_blt I hg hm boot_range (PyProof.Rows.callWith_type1 (thn (ha pos pins s σ H _ I h) fun us s1 ⟨vs,H1,I1,r1,q1⟩=>?_) hs rfl))
 obtain ⟨j,e,q1,q2,q⟩:=q1
 subst e
 cases r1 with
 | cons r rr=>
  cases rr
  obtain ⟨t,rfl⟩:=r
  exact call_range_1 (range_it I1 (by omega) (by omega) q1 q2 (by simpa using q))
noncomputable def tFor (wi:TI) (g:TG) (tb:TS):TS:=fun D σ H=>wi σ H fun J H1=>∃ W:Nat -> Nat -> St -> Hp -> Prop,(∃ m,W 0 m σ H1) /\ ∀ i m σ H,W i m σ H ->
 (J.stop i H /\ D.nx σ H) \/ (J.go i H /\ ∃ N:St -> Hp -> Prop,(∀ σ' H',N σ' H' -> ∃ m',m' < m /\ W (i + 1) m' σ' H') /\ ∀ x H',J.yld i H x H' -> g x σ H' fun σ2 H2=>tb { D with nx:=N,ct:=N,bk:=D.nx } σ2 H2)
noncomputable def pinsAt (fp:List Addr) (h:Heap):List (Addr × Obj):=fp.filterMap fun b=>(h.get? b).map fun o=>(b,o)
theorem mem_pinsAt {fp:List Addr} {h:Heap} {b:Addr} {o:Obj} (hb:b ∈ fp) (e:h.get? b = some o):(b,o) ∈ pinsAt fp h:=List.mem_filterMap.mpr ⟨b,hb,by rw [e]; rfl⟩
theorem of_pinsAt {fp:List Addr} {h:Heap} {p:Addr × Obj} (hp:p ∈ pinsAt fp h):p.1 ∈ fp /\ h.get? p.1 = some p.2:=by
 obtain ⟨b,hb,e⟩:=List.mem_filterMap.mp hp
 cases q:h.get? b with
 | none=>rw [q] at e; cases e
 | some o=>
  rw [q] at e
  have e':(b,o) = p:=Option.some.inj e
  subst e'
  exact ⟨hb,q⟩
theorem Inv.pinned {pins:List (Addr × Obj)} {σ:St} {H:Hp} {s:Shared} {fp:List Addr} (I:Inv X pins σ H s) (hf:∀ b ∈ fp,FpOk X pins H b) (ho:∀ b ∈ fp,∃ o,s.heap.get? b = some o /\ ∀ v,o.data ≠ .cell v):Inv X (pins ++ pinsAt fp s.heap) σ H s:=
 I.pins_of fun p hp=>(List.mem_append.mp hp).elim (fun z=>I.pin p (List.mem_append_right _ z)) fun z=>by
  obtain ⟨hb,e⟩:=of_pinsAt z
  obtain ⟨f0,f1,f2,_⟩:=hf p.1 hb
  obtain ⟨o,e',d⟩:=ho p.1 hb
  rw [e] at e'; cases e'
  exact ⟨e,f0,f1,f2,d⟩
theorem Inv.unpinned {pins pl:List (Addr × Obj)} {σ:St} {H:Hp} {s:Shared} (I:Inv X (pins ++ pl) σ H s):Inv X pins σ H s:=I.pins_of fun p hp=>I.pin p (List.mem_append_right _ (List.mem_append_left _ hp))
theorem ps_for {iter:Expr} {body:List Stmt} {wi:TI} {g:TG} {tb:TS} {pos:Pos} (hp:PassesOwn (model X.prog X.w) X.A X.env X.xe) (hc:X.calm = true) (hi:PI X tg iter wi) (hg:PG X tg g) (hb:PSs X body tb)
  (hs:∀ x,foldedSetIterable iter X.env x = pure x:=by intro _; rfl):PS X (.For tg iter body [] pos) (tFor wi g tb):=by
 intro pins s σ H D I h
 refine wpAny_For (thn (hi pins s σ H _ I h) fun v s1 h1=>thn h1 fun itv s2 h2=>?_) hs
 obtain ⟨it,fp,tn,J,H2,e,I2,T,st2,f2,W,⟨m0,w0⟩,turn⟩:=h2
 subst e
 have stat:∀ {H':Hp},(∀ b ∈ fp,H' b = none) -> ∀ b ∈ fp,FpOk X pins H' b:=fun hn b hb=>⟨hn b hb,(f2 b hb).2⟩
 refine codeAny_forLoop_any (fun n s'=>∃ i σ' H',Inv X pins σ' H' s' /\ tn i s'.heap /\ (∀ b ∈ fp,H' b = none) /\ W i n σ' H') ?_ m0 ⟨0,σ,H2,I2,st2,fun b hb=>(f2 b hb).1,w0⟩
 rintro n s3 ⟨i,σ3,H3,I3,st3,fr3,w3⟩
 rcases turn i n σ3 H3 w3 with ⟨stop,qn⟩ | ⟨go,N,hN,step⟩
 ·refine wpAny_passesOwn hp (thn (T.done X rfl rfl rfl hc i pins s3 σ3 H3 X.xe I3 (stat fr3) st3 stop) fun r s4 ⟨hr,I4⟩=>?_)
  subst hr
  exact wpAny_execs_nil ⟨σ3,H3,I4,qn⟩
 ·refine wpAny_passesOwn hp (thn (T.item X rfl rfl rfl hc i pins s3 σ3 H3 X.xe I3 (stat fr3) st3 go) fun r s4 ⟨u,hr,h4⟩=>?_)
  subst hr
  refine wpAny_passesOwn hp (thn h4 fun _ s5 ⟨x,H5,I5,r5,y5,st5,fr5⟩=>?_)
  have I5':=I5.pinned (stat fr5) (T.obj _ _ st5)
  refine wpAny_passesOwn hp (thn (hg _ s5 σ3 H5 x u _ I5' r5 (step x H5 y5)) fun _ s6 ⟨σ6,H6,I6,q6⟩=>?_)
  refine wpAny_passesOwn hp (thn (hb _ s6 σ6 H6 _ I6 q6) fun f s7 q7=>?_)
  have again:∀ {σ7:St} {H7:Hp},Inv X (pins ++ pinsAt fp s5.heap) σ7 H7 s7 -> N σ7 H7 -> ∃ m,m < n /\ ∃ i σ' H',Inv X pins σ' H' s7 /\ tn i s7.heap /\ (∀ b ∈ fp,H' b = none) /\ W i m σ' H':=fun {σ7 H7} I7 n7=>by
   obtain ⟨m',hm,w7⟩:=hN σ7 H7 n7
   refine ⟨m',hm,i + 1,σ7,H7,I7.unpinned,T.keep _ _ _ st5 fun b hb o e=>(I7.pin (b,o) (List.mem_append_right _ (List.mem_append_right _ (mem_pinsAt hb e)))).1,fun b hb=>?_,w7⟩
   obtain ⟨o,e,d⟩:=T.obj _ _ st5 b hb
   exact (I7.pin (b,o) (List.mem_append_right _ (List.mem_append_right _ (mem_pinsAt hb e)))).2.1
  cases f with
  | next=>obtain ⟨σ7,H7,I7,n7⟩:=q7; exact again I7 n7
  | cont=>obtain ⟨σ7,H7,I7,n7⟩:=q7; exact again I7 n7
  | brk=>obtain ⟨σ7,H7,I7,q7⟩:=q7; exact ⟨σ7,H7,I7.unpinned,q7⟩
  | ret v=>obtain ⟨x7,σ7,H7,I7,r7,q7⟩:=q7; exact ⟨x7,σ7,H7,I7.unpinned,r7,q7⟩
end
theorem for_list {K:Frag} {a:Addr} {xs:List V} {g:TG} {tb:TS} {D:Ends} {σ:St} {H:Hp} (Pv:Nat -> St -> Hp -> Prop) (h0:Pv 0 σ H) (hl:∀ i σ H,i <= xs.length -> Pv i σ H -> SqL K H a xs)
  (hs:∀ i x σ H,xs[i]? = some x -> Pv i σ H -> g x σ H fun σ2 H2=>tb { D with nx:=Pv (i + 1),ct:=Pv (i + 1),bk:=D.nx } σ2 H2) (hd:∀ σ H,Pv xs.length σ H -> D.nx σ H):
  ∃ W:Nat -> Nat -> St -> Hp -> Prop,(∃ m,W 0 m σ H) /\ ∀ i m σ H,W i m σ H ->
   ((Itl K a).stop i H /\ D.nx σ H) \/ ((Itl K a).go i H /\ ∃ N:St -> Hp -> Prop,(∀ σ' H',N σ' H' -> ∃ m',m' < m /\ W (i + 1) m' σ' H') /\ ∀ x H',(Itl K a).yld i H x H' -> g x σ H' fun σ2 H2=>tb { D with nx:=N,ct:=N,bk:=D.nx } σ2 H2):=by
 refine ⟨fun i m σ H=>m = xs.length - i /\ i <= xs.length /\ Pv i σ H,⟨xs.length,by simp,Nat.zero_le _,h0⟩,?_⟩
 rintro i m σ H ⟨rfl,hi,p⟩
 have q:=hl i σ H hi p
 by_cases hlt:i < xs.length
 ·refine .inr ⟨⟨xs,xs[i],q,by simp [hlt]⟩,Pv (i + 1),fun σ' H' p'=>⟨xs.length - (i + 1),by omega,rfl,hlt,p'⟩,fun x H' y=>?_⟩
  obtain ⟨e,y⟩:=y
  subst e
  exact hs i x σ _ (y xs q) p
 ·have e:i = xs.length:=by omega
  subst e
  exact .inl ⟨⟨xs,q,Nat.le_refl _⟩,hd σ H p⟩
theorem for_range {lo:Int} {n:Nat} {g:TG} {tb:TS} {D:Ends} {σ:St} {H:Hp} (Pv:Nat -> St -> Hp -> Prop) (h0:Pv 0 σ H)
  (hs:∀ i σ H,i < n -> Pv i σ H -> g (.int (lo + i)) σ H fun σ2 H2=>tb { D with nx:=Pv (i + 1),ct:=Pv (i + 1),bk:=D.nx } σ2 H2) (hd:∀ σ H,Pv n σ H -> D.nx σ H):
  ∃ W:Nat -> Nat -> St -> Hp -> Prop,(∃ m,W 0 m σ H) /\ ∀ i m σ H,W i m σ H ->
   ((Itr lo n).stop i H /\ D.nx σ H) \/ ((Itr lo n).go i H /\ ∃ N:St -> Hp -> Prop,(∀ σ' H',N σ' H' -> ∃ m',m' < m /\ W (i + 1) m' σ' H') /\ ∀ x H',(Itr lo n).yld i H x H' -> g x σ H' fun σ2 H2=>tb { D with nx:=N,ct:=N,bk:=D.nx } σ2 H2):=by
 refine ⟨fun i m σ H=>m = n - i /\ i <= n /\ Pv i σ H,⟨n,by simp,Nat.zero_le _,h0⟩,?_⟩
 rintro i m σ H ⟨rfl,hi,p⟩
 by_cases hlt:i < n
 ·refine .inr ⟨hlt,Pv (i + 1),fun σ' H' p'=>⟨n - (i + 1),by omega,rfl,hlt,p'⟩,fun x H' y=>?_⟩
  obtain ⟨e,y⟩:=y
  subst e y
  exact hs i σ _ hlt p
 ·have e:i = n:=by omega
  subst e
  exact .inl ⟨Nat.le_refl _,hd σ H p⟩
noncomputable abbrev R2:=V -> V -> Hp -> VK -> Prop
def OpR (X:Cx) (f:Value -> Value -> Sem Value) (r:R2):Prop:=
 ∀ (pins:List (Addr × Obj)) (s:Shared) (σ:St) (H:Hp) (x y:V) (v u:Value) (Q:VK),Inv X pins σ H s -> RelV x v -> RelV y u -> r x y H Q ->
  wpAny (model X.prog X.w) X.A (f v u) (EP X pins σ Q) X.xe s
def UnR (X:Cx) (f:Value -> Sem Value) (r:V -> Hp -> VK -> Prop):Prop:=
 ∀ (pins:List (Addr × Obj)) (s:Shared) (σ:St) (H:Hp) (x:V) (v:Value) (Q:VK),Inv X pins σ H s -> RelV x v -> r x H Q ->
  wpAny (model X.prog X.w) X.A (f v) (EP X pins σ Q) X.xe s
def CallR (X:Cx) (f:Value) (r:List V -> Hp -> VK -> Prop):Prop:=
 ∀ (pins:List (Addr × Obj)) (s:Shared) (σ:St) (H:Hp) (xs:List V) (us:List Value) (Q:VK),Inv X pins σ H s -> Vals xs us -> r xs H Q ->
  wpAny (model X.prog X.w) X.A (call f us) (EP X pins σ Q) X.xe s
noncomputable def tOp (r:R2) (ta tb:TE):TE:=fun σ H Q=>ta σ H fun x H1=>tb σ H1 fun y H2=>r x y H2 Q
noncomputable def tUn (r:V -> Hp -> VK -> Prop) (ta:TE):TE:=fun σ H Q=>ta σ H fun x H1=>r x H1 Q
noncomputable def rI (C:Int -> Int -> Prop) (g:Int -> Int -> V):R2:=fun x y H Q=>∃ i j,x = .int i /\ y = .int j /\ C i j /\ Q (g i j) H
noncomputable def rI0 (g:Int -> Int -> V):R2:=fun x y H Q=>∃ i j,x = .int i /\ y = .int j /\ Q (g i j) H
noncomputable def rU (g:Int -> V):V -> Hp -> VK -> Prop:=fun x H Q=>∃ i,x = .int i /\ Q (g i) H
section
variable {X:Cx} {a b c:Expr} {ta tb tc:TE} {pos:Pos}
theorem binT (ha:PE X a ta) (hb:PE X b tb) {pins:List (Addr × Obj)} {s:Shared} {σ:St} {H:Hp} {R:V -> V -> Hp -> Prop} (I:Inv X pins σ H s)
  (h:ta σ H fun x H1=>tb σ H1 fun y H2=>R x y H2) {Q:Value -> Shared -> Prop} {f:Value -> Value -> Sem Value}
  (hf:∀ v u s2 x y H2,Inv X pins σ H2 s2 -> RelV x v -> RelV y u -> R x y H2 -> wpAny (model X.prog X.w) X.A (f v u) Q X.xe s2):
  wpAny (model X.prog X.w) X.A (eval a X.env) (fun v s₁=>wpAny (model X.prog X.w) X.A (eval b X.env) (fun u s₂=>wpAny (model X.prog X.w) X.A (f v u) Q X.xe s₂) X.xe s₁) X.xe s:=by
 refine thn (ha pins s σ H _ I h) fun v s1 ⟨x,H1,I1,r1,q1⟩=>?_
 refine thn (hb pins s1 σ H1 _ I1 q1) fun u s2 ⟨y,H2,I2,r2,q2⟩=>?_
 exact hf v u s2 x y H2 I2 r1 r2 q2
theorem pe_op {op:Operator} {r:R2} (ho:OpR X (binaryOp op) r) (ha:PE X a ta) (hb:PE X b tb):PE X (.BinOp a op b pos) (tOp r ta tb):=by
 intro pins s σ H Q I h
 exact wpAny_BinOp (binT ha hb I h fun v u s2 x y H2 I2 rx ry q=>ho pins s2 σ H2 x y v u Q I2 rx ry q)
theorem pe_un {op:UnaryOp} {r:V -> Hp -> VK -> Prop} (ho:UnR X (unaryOp op) r) (ha:PE X a ta):PE X (.UnaryOp op a pos) (tUn r ta):=by
 intro pins s σ H Q I h
 exact UnaryOp_ (thn (ha pins s σ H _ I h) fun v s1 ⟨x,H1,I1,r1,q1⟩=>ho pins s1 σ H1 x v Q I1 r1 q1)
theorem opI {f:Value -> Value -> Sem Value} {C:Int -> Int -> Prop} {g:Int -> Int -> Int}
  (rule:∀ (i j:Int) (t u:Tok) (s:Shared) (Q:Value -> Shared -> Prop) (E:Value -> Shared -> Prop),C i j -> Q (.int (g i j) s.toks) { s with toks:=s.toks + 1 } -> wpAny (model X.prog X.w) X.A (f (.int i t) (.int j u)) Q E s):
  OpR X f (rI C fun i j=>.int (g i j)):=by
 intro pins s σ H x y v u Q I rx ry h
 obtain ⟨i,j,rfl,rfl,hc,q⟩:=h
 obtain ⟨t,rfl⟩:=rx
 obtain ⟨t',rfl⟩:=ry
 exact rule i j t t' s _ _ hc ⟨.int (g i j),H,I.tok _,⟨_,rfl⟩,q⟩
theorem opI0 {f:Value -> Value -> Sem Value} {g:Int -> Int -> Int}
  (rule:∀ (i j:Int) (t u:Tok) (s:Shared) (Q:Value -> Shared -> Prop) (E:Value -> Shared -> Prop),Q (.int (g i j) s.toks) { s with toks:=s.toks + 1 } -> wpAny (model X.prog X.w) X.A (f (.int i t) (.int j u)) Q E s):
  OpR X f (rI0 fun i j=>.int (g i j)):=by
 intro pins s σ H x y v u Q I rx ry h
 obtain ⟨i,j,rfl,rfl,q⟩:=h
 obtain ⟨t,rfl⟩:=rx
 obtain ⟨t',rfl⟩:=ry
 exact rule i j t t' s _ _ ⟨.int (g i j),H,I.tok _,⟨_,rfl⟩,q⟩
theorem opB0 {f:Value -> Value -> Sem Value} {g:Int -> Int -> Bool}
  (rule:∀ (i j:Int) (t u:Tok) (s:Shared) (Q:Value -> Shared -> Prop) (E:Value -> Shared -> Prop),Q (.bool (g i j)) s -> wpAny (model X.prog X.w) X.A (f (.int i t) (.int j u)) Q E s):
  OpR X f (rI0 fun i j=>.bl (g i j)):=by
 intro pins s σ H x y v u Q I rx ry h
 obtain ⟨i,j,rfl,rfl,q⟩:=h
 obtain ⟨t,rfl⟩:=rx
 obtain ⟨t',rfl⟩:=ry
 exact rule i j t t' s _ _ ⟨.bl (g i j),H,I,rfl,q⟩
def CDiv (i j:Int):Prop:=0 < j /\ j < 1073741824
def CPow (i j:Int):Prop:=0 <= j /\ j <= 1000000 /\ i.natAbs < 2 ^ 64
def CMul (i j:Int):Prop:=(-(2 ^ 64) < i /\ i < 2 ^ 64) \/ (-(2 ^ 64) < j /\ j < 2 ^ 64)
theorem CMul.ok {i j:Int} (h:CMul i j):IntMulOk i j:=by
 rcases h with ⟨h1,h2⟩ | ⟨h1,h2⟩
 ·exact .of_left (intBits_le_64 h1 h2)
 ·exact .of_right (intBits_le_64 h1 h2)
theorem op_add:OpR X (binaryOp .Add) (rI0 fun i j=>.int (i + j)):=opI0 fun _ _ _ _ _ _ _ q=>add_int q
theorem op_sub:OpR X (binaryOp .Sub) (rI0 fun i j=>.int (i - j)):=opI0 fun _ _ _ _ _ _ _ q=>sub_int q
theorem op_mul:OpR X (binaryOp .Mult) (rI CMul fun i j=>.int (i * j)):=opI fun _ _ _ _ _ _ _ hc q=>mul_int q hc.ok
theorem op_fdiv:OpR X (binaryOp .FloorDiv) (rI CDiv fun i j=>.int (i / j)):=opI fun i j _ _ _ _ _ hc q=>by
 have h1:(0:Int) < j:=hc.1
 have h2:j < 1073741824:=hc.2
 exact floordiv_int (by omega) (by rw [Int.fdiv_eq_ediv_of_nonneg i (by omega)]; exact q) (.inl (PyProof.noPylong_small (by omega)))
theorem op_mod:OpR X (binaryOp .Mod) (rI (fun _ j=>0 < j) fun i j=>.int (i % j)):=opI fun i j _ _ _ _ _ hc q=>by
 have h1:(0:Int) < j:=hc
 exact mod_int' (by omega) (by rw [Int.fmod_eq_emod_of_nonneg i (by omega)]; exact q)
theorem unI {f:Value -> Sem Value} {g:Int -> Int}
  (rule:∀ (i:Int) (t:Tok) (s:Shared) (Q:Value -> Shared -> Prop) (E:Value -> Shared -> Prop),Q (.int (g i) s.toks) { s with toks:=s.toks + 1 } -> wpAny (model X.prog X.w) X.A (f (.int i t)) Q E s):
  UnR X f (rU fun i=>.int (g i)):=by
 intro pins s σ H x v Q I rx h
 obtain ⟨i,rfl,q⟩:=h
 obtain ⟨t,rfl⟩:=rx
 exact rule i t s _ _ ⟨.int (g i),H,I.tok _,⟨_,rfl⟩,q⟩
theorem un_neg:UnR X (unaryOp .USub) (rU fun i=>.int (-i)):=unI fun _ _ _ _ _ q=>neg_int q
end
noncomputable def scal:V -> V -> Bool
 | .non,.non=>true | .non,.int _=>true | .int _,.non=>true | .non,.bl _=>true | .bl _,.non=>true | .non,.str _=>true | .str _,.non=>true
 | .int _,.int _=>true | .bl _,.bl _=>true | .str _,.str _=>true | .byt _,.byt _=>true
 | .int _,.str _=>true | .str _,.int _=>true | .bl _,.str _=>true | .str _,.bl _=>true
 | _,_=>false
noncomputable def rEq:R2:=fun x y H Q=>scal x y = true /\ Q (.bl (decide (x = y))) H
noncomputable def rNe:R2:=fun x y H Q=>scal x y = true /\ Q (.bl (!decide (x = y))) H
theorem dec_int {i j:Int}:decide (V.int i = V.int j) = (i == j):=by
 rw [Bool.eq_iff_iff]
 simp
theorem dec_bl {i j:Bool}:decide (V.bl i = V.bl j) = (i == j):=by
 rw [Bool.eq_iff_iff]
 simp
theorem dec_str {i j:Str}:decide (V.str i = V.str j) = (i == j):=by
 rw [Bool.eq_iff_iff]
 simp
theorem dec_byt {i j:Array UInt8}:decide (V.byt i = V.byt j) = (i.toList == j.toList):=by
 rw [Bool.eq_iff_iff]
 cases i
 cases j
 simp
section
variable {X:Cx} {a b c:Expr} {ta tb tc:TE} {pos:Pos}
theorem fin_bl {pins:List (Addr × Obj)} {σ:St} {H:Hp} {s:Shared} {Q:VK} {k k':Bool} (I:Inv X pins σ H s) (q:Q (.bl k) H) (e:k = k'):EP X pins σ Q (.bool k') s:=by
 subst e
 exact ⟨.bl k,H,I,rfl,q⟩
theorem op_eq:OpR X (compareOp .Eq) rEq:=by
 intro pins s σ H x y v u Q I rx ry h
 obtain ⟨hs,q⟩:=h
 cases x with
 | non=>
  cases rx
  cases y with
  | non=>cases ry; exact PySem.EqNone.eq_none_none (fin_bl I q (by simp))
  | bl j=>cases ry; exact PySem.EqNone.eq_none_bool (fin_bl I q (by simp))
  | int j=>obtain ⟨t',rfl⟩:=ry; exact PySem.EqNone.eq_none_int (fin_bl I q (by simp))
  | str j=>obtain ⟨t',rfl⟩:=ry; exact PySem.EqNone.eq_none_str (fin_bl I q (by simp))
  | _=>exact absurd (show false = true from hs) Bool.false_ne_true
 | bl i=>
  cases rx
  cases y with
  | non=>cases ry; exact PySem.EqNone.eq_bool_none (fin_bl I q (by simp))
  | bl j=>cases ry; exact eq_bool (fin_bl I q dec_bl)
  | str j=>obtain ⟨t',rfl⟩:=ry; exact PySem.EqMixed.eq_bool_str (fin_bl I q (by simp))
  | _=>exact absurd (show false = true from hs) Bool.false_ne_true
 | int i=>
  obtain ⟨t,rfl⟩:=rx
  cases y with
  | non=>cases ry; exact PySem.EqNone.eq_int_none (fin_bl I q (by simp))
  | int j=>obtain ⟨t',rfl⟩:=ry; exact eq_int (fin_bl I q dec_int)
  | str j=>obtain ⟨t',rfl⟩:=ry; exact PySem.EqMixed.eq_int_str (fin_bl I q (by simp))
  | _=>exact absurd (show false = true from hs) Bool.false_ne_true
 | str i=>
  obtain ⟨t,rfl⟩:=rx
  cases y with
  | non=>cases ry; exact PySem.EqNone.eq_str_none (fin_bl I q (by simp))
  | bl j=>cases ry; exact PySem.EqMixed.eq_str_bool (fin_bl I q (by simp))
  | int j=>obtain ⟨t',rfl⟩:=ry; exact PySem.EqMixed.eq_str_int (fin_bl I q (by simp))
  | str j=>obtain ⟨t',rfl⟩:=ry; exact eq_str (fin_bl I q dec_str)
  | _=>exact absurd (show false = true from hs) Bool.false_ne_true
 | byt i=>
  obtain ⟨t,rfl⟩:=rx
  cases y with
  | byt j=>obtain ⟨t',rfl⟩:=ry; exact PySem.W.eq_bytes (fin_bl I q dec_byt)
  | _=>exact absurd (show false = true from hs) Bool.false_ne_true
 | _=>cases y <;> exact absurd (show false = true from hs) Bool.false_ne_true
theorem op_ne:OpR X (compareOp .NotEq) rNe:=by
 intro pins s σ H x y v u Q I rx ry h
 obtain ⟨hs,q⟩:=h
 cases x with
 | non=>
  cases rx
  cases y with
  | non=>cases ry; exact PySem.EqNone.ne_none_none (fin_bl I q (by simp))
  | bl j=>cases ry; exact PySem.EqNone.ne_none_bool (fin_bl I q (by simp))
  | int j=>obtain ⟨t',rfl⟩:=ry; exact PySem.EqNone.ne_none_int (fin_bl I q (by simp))
  | str j=>obtain ⟨t',rfl⟩:=ry; exact PySem.EqNone.ne_none_str (fin_bl I q (by simp))
  | _=>exact absurd (show false = true from hs) Bool.false_ne_true
 | bl i=>
  cases rx
  cases y with
  | non=>cases ry; exact PySem.EqNone.ne_bool_none (fin_bl I q (by simp))
  | bl j=>cases ry; exact ne_bool (fin_bl I q (congrArg not dec_bl))
  | str j=>obtain ⟨t',rfl⟩:=ry; exact PySem.EqMixed.ne_bool_str (fin_bl I q (by simp))
  | _=>exact absurd (show false = true from hs) Bool.false_ne_true
 | int i=>
  obtain ⟨t,rfl⟩:=rx
  cases y with
  | non=>cases ry; exact PySem.EqNone.ne_int_none (fin_bl I q (by simp))
  | int j=>obtain ⟨t',rfl⟩:=ry; exact ne_int (fin_bl I q (congrArg not dec_int))
  | str j=>obtain ⟨t',rfl⟩:=ry; exact PySem.EqMixed.ne_int_str (fin_bl I q (by simp))
  | _=>exact absurd (show false = true from hs) Bool.false_ne_true
 | str i=>
  obtain ⟨t,rfl⟩:=rx
  cases y with
  | non=>cases ry; exact PySem.EqNone.ne_str_none (fin_bl I q (by simp))
  | bl j=>cases ry; exact PySem.EqMixed.ne_str_bool (fin_bl I q (by simp))
  | int j=>obtain ⟨t',rfl⟩:=ry; exact PySem.EqMixed.ne_str_int (fin_bl I q (by simp))
  | str j=>obtain ⟨t',rfl⟩:=ry; exact ne_str (fin_bl I q (congrArg not dec_str))
  | _=>exact absurd (show false = true from hs) Bool.false_ne_true
 | byt i=>
  obtain ⟨t,rfl⟩:=rx
  cases y with
  | byt j=>obtain ⟨t',rfl⟩:=ry; exact PySem.W.ne_bytes (fin_bl I q (congrArg not dec_byt))
  | _=>exact absurd (show false = true from hs) Bool.false_ne_true
 | _=>cases y <;> exact absurd (show false = true from hs) Bool.false_ne_true
theorem op_lt:OpR X (compareOp .Lt) (rI0 fun i j=>.bl (decide (i < j))):=opB0 fun _ _ _ _ _ _ _ q=>lt_int q
theorem op_le:OpR X (compareOp .LtE) (rI0 fun i j=>.bl (decide (i <= j))):=opB0 fun _ _ _ _ _ _ _ q=>le_int q
theorem op_gt:OpR X (compareOp .Gt) (rI0 fun i j=>.bl (decide (j < i))):=opB0 fun _ _ _ _ _ _ _ q=>gt_int q
theorem op_in_str:OpR X (compareOp .In) (fun x y H Q=>∃ i j,x = .str i /\ y = .str j /\ Q (.bl (!(Builtin.Str.occurrences j i 0 j.length 1).isEmpty)) H):=by
 intro pins s σ H x y v u Q I rx ry h
 obtain ⟨i,j,rfl,rfl,q⟩:=h
 obtain ⟨t,rfl⟩:=rx
 obtain ⟨t',rfl⟩:=ry
 exact in_str (fin_bl I q rfl)
theorem op_notin_str:OpR X (compareOp .NotIn) (fun x y H Q=>∃ i j,x = .str i /\ y = .str j /\ Q (.bl (!(!(Builtin.Str.occurrences j i 0 j.length 1).isEmpty))) H):=by
 intro pins s σ H x y v u Q I rx ry h
 obtain ⟨i,j,rfl,rfl,q⟩:=h
 obtain ⟨t,rfl⟩:=rx
 obtain ⟨t',rfl⟩:=ry
 exact notIn_str (fin_bl I q rfl)
theorem OpR.or {f:Value -> Value -> Sem Value} {r r':R2} (h:OpR X f r) (h':OpR X f r'):OpR X f (fun x y H Q=>r x y H Q \/ r' x y H Q):=by
 intro pins s σ H x y v u Q I rx ry q
 rcases q with q | q
 ·exact h pins s σ H x y v u Q I rx ry q
 ·exact h' pins s σ H x y v u Q I rx ry q
theorem nomark (b:Expr) {op:CmpOp} (h:op ≠ .In:=by decide) (h2:op ≠ .NotIn:=by decide):behindInMarks op b = false:=by
 have e1:(op == CmpOp.In) = false:=by cases op <;> first | rfl | exact absurd rfl h
 have e2:(op == CmpOp.NotIn) = false:=by cases op <;> first | rfl | exact absurd rfl h2
 cases b <;> simp [behindInMarks,e1,e2]
theorem pe_cmpR {op:CmpOp} {r:R2} (ho:OpR X (compareOp op) r) (ha:PE X a ta) (hb:PE X b tb) (hm:behindInMarks op b = false):PE X (.Compare a [op] [b] pos) (tOp r ta tb):=by
 intro pins s σ H Q I h
 exact wpAny_Compare1 (binT ha hb I h fun v u s2 x y H2 I2 rx ry q=>ho pins s2 σ H2 x y v u Q I2 rx ry q) hm
noncomputable def tTest (t:TE):TT:=fun σ H Q=>t σ H fun x H'=>∃ k,x = .bl k /\ Q k H'
theorem pt_cmpR {op:CmpOp} {r:R2} (ho:OpR X (compareOp op) r) (ha:PE X a ta) (hb:PE X b tb) (hm:behindInMarks op b = false):PT X (.Compare a [op] [b] pos) (tTest (tOp r ta tb)):=by
 intro pins s σ H Q I h
 refine wpAny_isTrue_Compare1 (thn (ha pins s σ H _ I h) fun v s1 ⟨x,H1,I1,r1,q1⟩=>thn (hb pins s1 σ H1 _ I1 q1) fun u s2 ⟨y,H2,I2,r2,q2⟩=>
  thn (ho pins s2 σ H2 x y v u _ I2 r1 r2 q2) fun c s3 ⟨z,H3,I3,r3,k,e,q3⟩=>?_) hm
 subst e
 cases r3
 exact wpAny_truthy_bool ⟨H3,I3,q3⟩
theorem line63:(sizeLine:Nat) < 2 ^ 63:=by rw [sizeLine_eq]; decide
theorem op_add_str:OpR X (binaryOp .Add) (fun x y H Q=>∃ i j,x = .str i /\ y = .str j /\ i.length + j.length <= sizeLine /\ Q (.str (i ++ j)) H):=by
 intro pins s σ H x y v u Q I rx ry h
 obtain ⟨i,j,rfl,rfl,hz,q⟩:=h
 obtain ⟨t,rfl⟩:=rx
 obtain ⟨t',rfl⟩:=ry
 exact tokQ I.tk (add_str (fun t' tk (htk:0 < tk)=>⟨.str (i ++ j),H,I.tok _,⟨_,rfl⟩,q⟩) hz)
theorem vals1 {x:V} {us:List Value} (r:Vals [x] us):∃ u,us = [u] /\ RelV x u:=by
 cases r with
 | cons r1 r2=>cases r2; exact ⟨_,rfl,r1⟩
theorem vals2 {x y:V} {us:List Value} (r:Vals [x,y] us):∃ u w',us = [u,w'] /\ RelV x u /\ RelV y w':=by
 cases r with
 | cons r1 r2=>
  cases r2 with
  | cons r3 r4=>cases r4; exact ⟨_,_,rfl,r1,r3⟩
theorem call_min2 (hc:X.calm = true):CallR X (.builtin "min") (fun xs H Q=>∃ i j,xs = [.int i,.int j] /\ Q (.int (if j < i then j else i)) H):=by
 intro pins s σ H xs us Q I r h
 obtain ⟨i,j,rfl,q⟩:=h
 obtain ⟨u,w',rfl,⟨t,rfl⟩,⟨t',rfl⟩⟩:=vals2 r
 refine tokQ I.tk (min_two_ints (I.ok.hd hc) fun h' tk k (htk:0 < tk)=>⟨_,H,I.kept k,?_,q⟩)
 by_cases hj:j < i
 ·rw [if_pos hj,if_pos hj]; exact ⟨_,rfl⟩
 ·rw [if_neg hj,if_neg hj]; exact ⟨_,rfl⟩
theorem call_int1:CallR X (.type "int") (fun xs H Q=>(∃ i,xs = [.int i] /\ Q (.int i) H) \/ ∃ k,xs = [.bl k] /\ Q (.int (if k then 1 else 0)) H):=by
 intro pins s σ H xs us Q I r h
 rcases h with ⟨i,rfl,q⟩ | ⟨k,rfl,q⟩
 ·obtain ⟨u,rfl,t,rfl⟩:=vals1 r
  exact call_int_int ⟨.int i,H,I,⟨_,rfl⟩,q⟩
 ·obtain ⟨u,rfl,r1⟩:=vals1 r
  cases r1
  exact call_int_bool ⟨.int (if k then 1 else 0),H,I.tok _,⟨_,rfl⟩,q⟩
end
structure ObjM (h:Heap) (x dx C:Addr) (mA:Str -> Option Value):Prop where
 obj:h.get? x = some (PySem.W.instObj C dx)
 ns:h.Ns1 dx mA
 ne:dx ≠ x
theorem lookIn_ns {h:Heap} {dx:Addr} {mA:Str -> Option Value} (n:h.Ns1 dx mA):∃ od,h.get? dx = some od /\ ∀ name,PySem.W.lookIn name od = some (mA name):=by
 obtain ⟨o,es,ep,ho,hd,hk,_,hm⟩:=n
 refine ⟨o,ho,fun name=>?_⟩
 have e:=hm name
 unfold nsFind findBy at e
 rw [<- Array.find?_toList] at e
 unfold PySem.W.lookIn
 rw [hd]
 dsimp only
 split
 ·rename_i y q
  rw [q] at e
  exact congrArg some e
 ·rename_i q
  rw [q] at e
  have a:es.toList.any (·.refKey) = false:=by
   rw [List.any_eq_false]
   intro y hy
   obtain ⟨z,t,hkey⟩:=hk y (Array.mem_toList_iff.mp hy)
   simp [DictEntry.refKey,hkey]
  have a':¬ es.toList.any (·.refKey) = true:=by rw [a]; exact Bool.false_ne_true
  rw [if_neg a']
  exact congrArg some e
theorem ObjM.look {h:Heap} {x dx C:Addr} {mA:Str -> Option Value} (I:ObjM h x dx C mA):∃ od,PySem.W.InstAt h x (PySem.W.instObj C dx) C (some od) /\ ∀ name,PySem.W.lookIn name od = some (mA name):=
 let ⟨od,ho,hl⟩:=lookIn_ns I.ns
 ⟨od,⟨I.obj,rfl,rfl,ho⟩,hl⟩
section
variable {prog:Program} {w:World} {A:Around} {E:Value -> Shared -> Prop} {s:Shared} {K:Frag} {x dx C f:Addr} {mA:Str -> Option Value} {name:Str} {v:Value}
theorem get_map {expr:Bool} {Q:Value -> Shared -> Prop} (X:K.In s.heap) (I:ObjM s.heap x dx C mA) (hg:PySem.W.plainGet K C name = true) (hh:PySem.W.hasDictIn K C = true)
  (ha:findIn K (.ref C) name = some none) (hv:mA name = some v) (hv':PySem.W.handedIn v = true) (h:Q v { s with toks:=s.toks + 1 }):
  wpAny (model prog w) A (getAttr (.ref x) name expr) Q E s:=by
 obtain ⟨od,J,hl⟩:=I.look
 exact PySem.W.get_value X J (PySem.W.plainGet_of hg).1 (PySem.W.findObj_own hh ha rfl (by rw [hl,hv])) hv' h
theorem get_meth {pl:Sem Bool} {Q:Value × List Value -> Shared -> Prop} (X:K.In s.heap) (I:ObjM s.heap x dx C mA) (hg:PySem.W.plainGet K C name = true)
  (hf:findIn K (.ref C) name = some (some (.ref f))) (ht:PySem.W.isFn K (.ref f) = true) (hv:mA name = none) (h:Q (.ref f,[.ref x]) s):
  wpAny (model prog w) A (getMethod (.ref x) name pl) Q E s:=by
 obtain ⟨od,J,hl⟩:=I.look
 exact PySem.W.method_fn X J (PySem.W.plainGet_of hg).1 (PySem.W.plainGet_of hg).2 hf (beq_iff_eq.mp ht) (by show (PySem.W.lookIn name od).map (·.isSome) = some false; rw [hl,hv]; rfl) h
theorem set_map {ns:List Str} {Q:Unit -> Shared -> Prop} (X:K.In s.heap) (I:ObjM s.heap x dx C mA)
  (hs:findIn K (.ref C) "__setattr__" = some (some (.builtin "object.__setattr__"))) (hp:PySem.W.plainOver K C = true) (ht:PySem.W.takerIn K C name = some none) (hh:PySem.W.hasDictIn K C = true)
  (hw:PySem.Within mA ns) (hsz:ns.length <= sizeLine)
  (h:∀ h',ObjM h' x dx C (fun y=>if y = name then some v else mA y) -> Heap.SameBut dx s.heap h' -> Q () { s with heap:=h',toks:=s.toks + 2 }):
  wpAny (model prog w) A (setAttr (.ref x) name v) Q E s:=by
 obtain ⟨od,J,hl⟩:=I.look
 refine PySem.W.set_plain X J hs (PySem.W.osa_open (s:={ s with toks:=s.toks + 1 }) (r:=none) X J hp ht fun b=>?_)
 obtain ⟨cd,hc,hd'⟩:=PySem.W.any_some hh
 have hx:s.heap.get? x = some ⟨.ref C,some dx,.plain,#[]⟩:=I.obj
 refine wpAny_bind (wpAny_pure (wpAny_bind (wpAny_bind (wpAny_loadPart hx (wpAny_bind (PySem.W.Looks.here (s:={ s with toks:=s.toks + 1 }) (PySem.W.looks_clsIn X hc) ?_))))))
 rw [hd']
 refine wpAny_pure (a:=some dx) (wpAny_bind (wpAny_pure (wpAny_bind ?_)))
 refine wpAny_nsSet1 (s:={ s with toks:=s.toks + 1 }) I.ns fun h' hn2 hs2=>?_
 obtain ⟨oD,esD,epD,hoD,hdD,hcD⟩:=hn2.count (PySem.Within.cons name v hw)
 refine wpAny_bind (wpAny_lookBehind hoD (by rw [hdD]; exact pastItsLine_dict (Nat.le_trans hcD (by rw [List.length_cons]; omega))) ?_)
 exact wpAny_pure (h _ ⟨(hs2.2 _ (Ne.symm I.ne)).trans I.obj,hn2,I.ne⟩ hs2)
theorem make_map {R:Result -> Shared -> Prop} {vs:List Value} {kw:List (Str × Value)} (X:K.In s.heap) (hm:PySem.W.makesIn K C = true)
  (hi:findIn K (.ref C) "__init__" = some (some (.ref f))) (hf:PySem.W.typeIn K (.ref f) = some (.type "function"))
  (h:codeAny (model prog w) (A.under (.builtin "type.__call__" ⟨.ref C :: vs,kw⟩)) (.call (.ref f) ⟨.ref (s.heap.objs.size + 1) :: vs,kw⟩) (PySem.W.InitBack (s.heap.objs.size + 1) R)
   { s with heap:=(s.heap.push PySem.W.emptyDict).push (PySem.W.instObj C s.heap.objs.size) }):
  codeAny (model prog w) A (.call (.ref C) ⟨vs,kw⟩) R s:=by
 obtain ⟨hh,g,d,t,os⟩:=s
 exact PySem.W.make_core (PySem.W.makes_of X hm) (PySem.W.looks_findIn X hi) (fun self=>PySem.W.bind_fn X self hf) (.inl rfl) h
end
noncomputable def putF (f:Str) (v:V):List (Str × V) -> List (Str × V)
 | []=>[(f,v)]
 | (g,x) :: r=>if g = f then (g,v) :: r else (g,x) :: putF f v r
theorem lookup_putF (f g:Str) (v:V):∀ fs:List (Str × V),(putF f v fs).lookup g = if g = f then some v else fs.lookup g
 | []=>by
  show List.lookup g [(f,v)] = _
  by_cases h:g = f
  ·have hb:(g == f) = true:=beq_iff_eq.mpr h
   simp only [List.lookup,hb,if_pos h]
  ·have hb:(g == f) = false:=beq_eq_false_iff_ne.mpr h
   simp only [List.lookup,hb,if_neg h]
 | (k,x) :: r=>by
  have ih:=lookup_putF f g v r
  rw [show putF f v ((k,x) :: r) = (if k = f then (k,v) :: r else (k,x) :: putF f v r) from rfl]
  by_cases hk:k = f
  ·rw [if_pos hk]
   by_cases h:g = k
   ·have hb:(g == k) = true:=beq_iff_eq.mpr h
    simp only [List.lookup,hb,if_pos (h.trans hk)]
   ·have hb:(g == k) = false:=beq_eq_false_iff_ne.mpr h
    simp only [List.lookup,hb,if_neg (fun e:g = f=>h (e.trans hk.symm))]
  ·rw [if_neg hk]
   by_cases h:g = k
   ·have hb:(g == k) = true:=beq_iff_eq.mpr h
    simp only [List.lookup,hb,if_neg (fun e:g = f=>hk (h.symm.trans e))]
   ·have hb:(g == k) = false:=beq_eq_false_iff_ne.mpr h
    simp only [List.lookup,hb]
    exact ih
theorem keys_putF (f:Str) (v:V):∀ fs:List (Str × V),f ∈ (putF f v fs).map (·.1) /\ ∀ g,g ∈ fs.map (·.1) -> g ∈ (putF f v fs).map (·.1)
 | []=>⟨by simp [putF],fun g h=>by simp at h⟩
 | (k,x) :: r=>by
  obtain ⟨i1,i2⟩:=keys_putF f v r
  rw [show putF f v ((k,x) :: r) = (if k = f then (k,v) :: r else (k,x) :: putF f v r) from rfl]
  by_cases hk:k = f
  ·rw [if_pos hk]
   subst hk
   exact ⟨by simp,fun g h=>by simpa using h⟩
  ·rw [if_neg hk]
   refine ⟨?_,fun g h=>?_⟩
   ·rw [List.map_cons]
    exact List.mem_cons_of_mem _ i1
   ·rw [List.map_cons] at h ⊢
    rcases List.mem_cons.mp h with e | e
    ·exact List.mem_cons.mpr (.inl e)
    ·exact List.mem_cons_of_mem _ (i2 g e)
theorem length_putF (f:Str) (v:V):∀ fs:List (Str × V),(putF f v fs).length <= fs.length + 1
 | []=>by simp [putF]
 | (k,x) :: r=>by
  have ih:=length_putF f v r
  rw [show putF f v ((k,x) :: r) = (if k = f then (k,v) :: r else (k,x) :: putF f v r) from rfl]
  by_cases hk:k = f
  ·rw [if_pos hk,List.length_cons,List.length_cons]; omega
  ·rw [if_neg hk,List.length_cons,List.length_cons]; omega
theorem RelO.some_of {v:V} {o:Option Value} (r:RelO (some v) o):∃ u,o = some u /\ RelV v u:=by
 cases o with
 | none=>exact (show False from r).elim
 | some u=>exact ⟨u,rfl,r⟩
theorem RelO.none_of {o:Option Value} (r:RelO none o):o = none:=by
 cases o with
 | none=>rfl
 | some u=>exact (show False from r).elim
theorem handed_of {v:V} {u:Value} (r:RelV v u):PySem.W.handedIn u = true:=by
 cases v with
 | non=>cases (show u = Value.none from r); rfl
 | bl b=>cases (show u = Value.bool b from r); rfl
 | int i=>obtain ⟨t,e⟩:=(show ∃ t,u = Value.int i t from r); cases e; rfl
 | str x=>obtain ⟨t,e⟩:=(show ∃ t,u = Value.str x t from r); cases e; rfl
 | byt b=>obtain ⟨t,e⟩:=(show ∃ t,u = Value.bytes b t from r); cases e; rfl
 | flt b=>obtain ⟨t,e⟩:=(show ∃ t,u = Value.float b t from r); cases e; rfl
 | ref a=>cases (show u = Value.ref a from r); rfl
 | ty n=>cases (show u = Value.type n from r); rfl
section
variable {P:Program} {w:World} {H H':Hp} {h h':Heap} {a C dx:Addr} {fs fs':List (Str × V)}
theorem ins_get (hok:HOk P w H h) (e:H a = some (.ins C dx fs)):∃ mA,ObjM h a dx C mA /\ (∀ f,RelO (fs.lookup f) (mA f)) /\ PySem.Within mA (fs.map (·.1)) /\ fs.length <= 1000 /\ H dx = some (.own a):=by
 obtain ⟨d,z,ne,ob,mA,n,r,q⟩:=(show ObjOk P w H h a (.ins C dx fs) from hok a _ e)
 exact ⟨mA,⟨ob,n,ne⟩,r,q,z,d⟩
end
structure Cls (K:Frag) (C:Addr):Prop where
 pg:PySem.W.plainGet K C Str.empty = true
 hd:PySem.W.hasDictIn K C = true
 po:PySem.W.plainOver K C = true
 sa:findIn K (.ref C) "__setattr__" = some (some (.builtin "object.__setattr__"))
theorem Cls.get {K:Frag} {C:Addr} (c:Cls K C) (f:Str):PySem.W.plainGet K C f = true:=c.pg
def NoAttr (K:Frag) (C:Addr) (f:Str):Prop:=findIn K (.ref C) f = some none
theorem NoAttr.taker {K:Frag} {C:Addr} {f:Str} (n:NoAttr K C f):PySem.W.takerIn K C f = some none:=by
 unfold PySem.W.takerIn
 rw [show findIn K (.ref C) f = some none from n]
 rfl
structure Con (K:Frag) (C:Addr) (f:Str) (v:V) (u:Value):Prop where
 at_:findIn K (.ref C) f = some (some u)
 rel:RelV v u
 get:PySem.W.specialIn K u "__get__" = some none
 cp:PySem.W.copiedNames.contains f = false
structure Meth (K:Frag) (C:Addr) (m:Str) (f:Addr):Prop where
 at_:findIn K (.ref C) m = some (some (.ref f))
 fn:PySem.W.isFn K (.ref f) = true
 kp:keepIn K (.ref f) = true
section
variable {X:Cx} {pins:List (Addr × Obj)} {σ:St} {H:Hp} {s:Shared} {a C dx:Addr} {fs:List (Str × V)} {f:Str} {v:V} {A:Around} {E:Value -> Shared -> Prop}
theorem getattr_ok {b:Bool} {Q:Value -> Shared -> Prop} (I:Inv X pins σ H s) (e:H a = some (.ins C dx fs)) (c:Cls X.K C) (n:NoAttr X.K C f) (l:fs.lookup f = some v)
  (h:∀ u s',Inv X pins σ H s' -> RelV v u -> Q u s'):wpAny (model X.prog X.w) A (getAttr (.ref a) f b) Q E s:=by
 obtain ⟨mA,O,r,_,_,_⟩:=ins_get I.hok e
 obtain ⟨u,hu,ru⟩:=RelO.some_of (v:=v) (o:=mA f) (by rw [<- l]; exact r f)
 exact get_map I.kIn O (c.get f) c.hd n hu (handed_of ru) (h u _ (I.tok _) ru)
theorem getmeth_ok {m:Str} {g:Addr} {pl:Sem Bool} {Q:Value × List Value -> Shared -> Prop} (I:Inv X pins σ H s) (e:H a = some (.ins C dx fs)) (c:Cls X.K C) (k:Meth X.K C m g) (l:fs.lookup m = none)
  (h:Q (.ref g,[.ref a]) s):wpAny (model X.prog X.w) A (getMethod (.ref a) m pl) Q E s:=by
 obtain ⟨mA,O,r,_,_,_⟩:=ins_get I.hok e
 have hn:mA m = none:=RelO.none_of (by rw [<- l]; exact r m)
 exact get_meth I.kIn O (c.get m) k.at_ k.fn hn h
theorem setattr_ok {y:V} {u:Value} {Q:Unit -> Shared -> Prop} (I:Inv X pins σ H s) (e:H a = some (.ins C dx fs)) (c:Cls X.K C) (n:NoAttr X.K C f) (hl:fs.length < 1000) (ry:RelV y u)
  (h:∀ s',Inv X pins σ (upd H a (.ins C dx (putF f y fs))) s' -> Q () s'):wpAny (model X.prog X.w) A (setAttr (.ref a) f u) Q E s:=by
 obtain ⟨mA,O,r,wi,_,ho⟩:=ins_get I.hok e
 have hz:(fs.map (·.1)).length <= sizeLine:=by rw [List.length_map,sizeLine_eq]; omega
 refine set_map I.kIn O c.sa c.po n.taker c.hd wi hz fun h' O' sb=>h _ ?_
 have hd:∃ o,h'.get? dx = some o:=let ⟨o,_,_,e',_⟩:=O'.ns; ⟨o,e'⟩
 refine I.write (x:=a) (e:=dx) (by rw [e]; exact True.intro) (.inr ho) (fun b q hb z=>(sb.2 b hb).trans z) hd ?_
 refine ⟨by rw [upd_ne O.ne]; exact ho,?_,O.ne,O'.obj,_,O'.ns,fun g=>?_,fun g hg=>?_⟩
 ·have:=length_putF f y fs; omega
 ·show RelO ((putF f y fs).lookup g) (if g = f then some u else mA g)
  rw [lookup_putF]
  by_cases q:g = f
  ·rw [if_pos q,if_pos q]; exact ry
  ·rw [if_neg q,if_neg q]; exact r g
 ·by_cases q:g = f
  ·rw [q]; exact (keys_putF f y fs).1
  ·refine (keys_putF f y fs).2 g (wi g fun z=>hg ?_)
   show (if g = f then some u else mA g) = none
   rw [if_neg q]; exact z
theorem Inv.made (I:Inv X pins σ H s):Inv X pins σ (upd (upd H s.heap.objs.size (.own (s.heap.objs.size + 1))) (s.heap.objs.size + 1) (.ins C s.heap.objs.size []))
  { s with heap:=(s.heap.push PySem.W.emptyDict).push (PySem.W.instObj C s.heap.objs.size) }:=by
 have e1:(s.heap.push PySem.W.emptyDict).get? s.heap.objs.size = some PySem.W.emptyDict:=Heap.get?_push_size s.heap rfl
 have e2:((s.heap.push PySem.W.emptyDict).push (PySem.W.instObj C s.heap.objs.size)).get? (s.heap.objs.size + 1) = some (PySem.W.instObj C s.heap.objs.size):=by
  have:=Heap.get?_push_size (s.heap.push PySem.W.emptyDict) (o:=PySem.W.instObj C s.heap.objs.size) rfl
  rwa [Heap.size_push] at this
 have e3:(s.heap.push PySem.W.emptyDict).Ns s.heap.objs.size (fun _=>none):=⟨PySem.W.emptyDict,#[],_,e1,rfl,(fun e he=>absurd he (by simp)),fun _=>rfl⟩
 have I1:=I.laid (a:=s.heap.objs.size) (o:=.own (s.heap.objs.size + 1)) (h':=s.heap.push PySem.W.emptyDict) (t':=s.toks) (fun b u q=>Heap.get?_push_of_some _ q) (Nat.le_refl _) ⟨_,e1⟩
 refine I1.laid (a:=s.heap.objs.size + 1) (o:=.ins C s.heap.objs.size []) (t':=s.toks) (fun b u q=>Heap.get?_push_of_some _ q) (Nat.le_of_eq (Heap.size_push _ _)) ?_
 have ne:s.heap.objs.size ≠ s.heap.objs.size + 1:=Nat.ne_of_lt (Nat.lt_succ_self _)
 refine ⟨by rw [upd_ne ne,upd_same],Nat.zero_le _,ne,e2,fun _=>none,(Heap.Ns1.of_empty e3).at fun o q=>Heap.get?_push_of_some _ q,fun _=>True.intro,fun y hy=>absurd rfl hy⟩
theorem attr_of {prog:Program} {w:World} {env:Env} {e:Expr} {f:Str} {pos:Pos} {s:Shared} {Q:Value -> Shared -> Prop} (hb:attributeBase e f env (eval e env) = eval e env)
  (h:wpAny (model prog w) A (eval e env) (fun o s₁=>wpAny (model prog w) A (getAttr o f true) Q E s₁) E s):wpAny (model prog w) A (eval (.Attribute e f pos) env) Q E s:=
 Attribute_any_ h (by rw [arm_eval_Attribute,hb])
end
noncomputable def tFld (K:Frag) (ta:TE) (f:Str):TE:=fun σ H Q=>ta σ H fun x H1=>∃ a C dx fs v,x = .ref a /\ H1 a = some (.ins C dx fs) /\ Cls K C /\ NoAttr K C f /\ fs.lookup f = some v /\ Q v H1
noncomputable def sFld (K:Frag) (ta tv:TE) (f:Str):TS:=fun D σ H=>tv σ H fun y H1=>ta σ H1 fun x H2=>∃ a C dx fs,x = .ref a /\ H2 a = some (.ins C dx fs) /\ Cls K C /\ NoAttr K C f /\ fs.length < 1000 /\
 D.nx σ (upd H2 a (.ins C dx (putF f y fs)))
section
variable {X:Cx} {o e value:Expr} {f:Str} {pos pos' tpos:Pos} {ta tv:TE}
theorem pe_fld (he:PE X e ta) (hb:attributeBase e f X.env (eval e X.env) = eval e X.env):PE X (.Attribute e f pos) (tFld X.K ta f):=by
 intro pins s σ H Q I h
 refine attr_of hb (thn (he pins s σ H _ I h) fun u s1 ⟨x,H1,I1,rx,a,C,dx,fs,v,ex,ea,c,n,l,q⟩=>?_)
 subst ex
 obtain rfl:u = Value.ref a:=rx
 exact getattr_ok I1 ea c n l fun u' s2 I2 ru=>⟨v,H1,I2,ru,q⟩
theorem ps_fld (ha:PE X o ta) (hv:PE X value tv) (hs:swapsWith value (some (.Attribute o f pos')) pos.line X.env = pure false):PS X (.Assign [.Attribute o f pos'] value pos) (sFld X.K ta tv f):=by
 intro pins s σ H D I h
 refine plainObj_wpAny_Assign_Attribute (thn (hv pins s σ H _ I h) fun u s1 ⟨y,H1,I1,ry,q⟩=>thn (ha pins s1 σ H1 _ I1 q) fun ov s2 ⟨x,H2,I2,rx,a,C,dx,fs,ex,ea,c,n,l,q2⟩=>?_) hs
 subst ex
 obtain rfl:ov = Value.ref a:=rx
 exact setattr_ok I2 ea c n l ry fun s3 I3=>⟨σ,_,I3,q2⟩
end
section
variable {X:Cx} {pins:List (Addr × Obj)} {σ:St} {H:Hp} {s:Shared} {A:Around} {E:Value -> Shared -> Prop} {Q:Value -> Shared -> Prop} {c:Value} {b:Bool}
inductive TyOf (K:Frag) (H:Hp):V -> Value -> Prop where
 | non:TyOf K H .non (.type "NoneType")
 | bl (x:Bool):TyOf K H (.bl x) (.type "bool")
 | int (i:Int):TyOf K H (.int i) (.type "int")
 | str (x:Str):TyOf K H (.str x) (.type "str")
 | flt (x:UInt64):TyOf K H (.flt x) (.type "float")
 | lst {a:Addr} {xs:List V} (e:H a = some (.lst xs)):TyOf K H (.ref a) (.type "list")
 | frz {a:Addr} {o:Obj} {xs:List V} (e:H a = some (.frz o (.lst xs))):TyOf K H (.ref a) (.type "list")
 | tup {a:Addr} {xs:List V} (e:H a = some (.tup xs)):TyOf K H (.ref a) (.type "tuple")
 | dK {a:Addr} {kvs:List (Key × V)} (e:H a = some (.dK kvs)):TyOf K H (.ref a) (.type "dict")
 | dT {a:Addr} {kvs:List (List Key × V)} (e:H a = some (.dT kvs)):TyOf K H (.ref a) (.type "dict")
 | ins {a C dx:Addr} {fs:List (Str × V)} (e:H a = some (.ins C dx fs)) (cl:Cls K C) (ha:findIn K (.ref C) "__class__" = some (some (.builtin "object.__class__")))
   (hn:PySem.W.specialIn K (.builtin "object.__class__") "__get__" = some (some (.builtin "getset_descriptor.__get__"))) (htk:PySem.W.takesIn K (.builtin "object.__class__") = some true)
   (hm:PySem.W.mroIn K C (.type "object") = some true):TyOf K H (.ref a) (.ref C)
theorem isinst_ok {x:V} {u t:Value} (I:Inv X pins σ H s) (rx:RelV x u) (ty:TyOf X.K H x t) (e:PySem.W.kitOne X.K t c = some b) (h:∀ tk,Q (.bool b) { s with toks:=tk }):
  wpAny (model X.prog X.w) A (call (.builtin "isinstance") [u,c]) Q E s:=by
 cases ty with
 | non=>cases (show u = Value.none from rx); exact PySem.W.kia_one PySem.W.kitx_none I.kIn True.intro e (fun z=>nomatch z) h
 | bl y=>cases (show u = Value.bool y from rx); exact PySem.W.kia_one PySem.W.kitx_bool I.kIn True.intro e (fun z=>nomatch z) h
 | int i=>obtain ⟨t,q⟩:=(show ∃ t,u = Value.int i t from rx); cases q; exact PySem.W.kia_one PySem.W.kitx_int I.kIn True.intro e (fun z=>nomatch z) h
 | str y=>obtain ⟨t,q⟩:=(show ∃ t,u = Value.str y t from rx); cases q; exact PySem.W.kia_one PySem.W.kitx_str I.kIn True.intro e (fun z=>nomatch z) h
 | flt y=>obtain ⟨t,q⟩:=(show ∃ t,u = Value.float y t from rx); cases q; exact PySem.W.kia_one PySem.W.kitx_float I.kIn True.intro e (fun z=>nomatch z) h
 | @lst a xs ea=>
  cases (show u = Value.ref a from rx)
  obtain ⟨_,_,n,_,h1⟩:=(show ObjOk X.prog X.w H s.heap a (.lst xs) from I.hok a _ ea)
  exact PySem.W.kia_one PySem.W.kitx_list I.kIn ⟨_,h1,rfl⟩ e (fun z=>nomatch z) h
 | @frz a ob xs ea=>
  cases (show u = Value.ref a from rx)
  obtain ⟨_,_,_,n,_,h1⟩:=(show ObjOk X.prog X.w H s.heap a (.frz ob (.lst xs)) from I.hok a _ ea)
  exact PySem.W.kia_one PySem.W.kitx_list I.kIn ⟨_,h1,rfl⟩ e (fun z=>nomatch z) h
 | @tup a xs ea=>
  cases (show u = Value.ref a from rx)
  obtain ⟨_,_,_,p⟩:=(show ObjOk X.prog X.w H s.heap a (.tup xs) from I.hok a _ ea)
  obtain ⟨o,h1,h2,_⟩:=p
  exact PySem.W.kia_one PySem.W.kitx_tuple I.kIn ⟨o,h1,h2⟩ e (fun z=>nomatch z) h
 | @dK a kvs ea=>
  cases (show u = Value.ref a from rx)
  obtain ⟨_,_,vs,_,p⟩:=(show ObjOk X.prog X.w H s.heap a (.dK kvs) from I.hok a _ ea)
  obtain ⟨o,es,ep,h1,h2,_⟩:=p
  exact PySem.W.kia_one PySem.W.kitx_dict I.kIn ⟨o,h1,h2.1⟩ e (fun z=>nomatch z) h
 | @dT a kvs ea=>
  cases (show u = Value.ref a from rx)
  obtain ⟨_,_,xs,_,o,es,ep,h1,h2,_⟩:=(show ObjOk X.prog X.w H s.heap a (.dT kvs) from I.hok a _ ea)
  exact PySem.W.kia_one PySem.W.kitx_dict I.kIn ⟨o,h1,h2.1⟩ e (fun z=>nomatch z) h
 | @ins a C dx fs ea cl ha hn htk hm=>
  cases (show u = Value.ref a from rx)
  obtain ⟨mA,O,_⟩:=ins_get I.hok ea
  obtain ⟨od,J,_⟩:=O.look
  exact PySem.W.kia_one (PySem.W.kitx_own (cl.get _) cl.hd ha hn htk hm) I.kIn J e (fun z=>nomatch z) h
end
structure Room (k:Nat) (A:Around):Prop where
 hd:A.handled = none
 dp:A.depth + 3 * k + 5 < recursionLimit
 un:A.units + 16 * k + 200 < cLine
 gd:A.guards = some []
theorem Room.mono {j k:Nat} {A:Around} (r:Room k A) (h:j <= k):Room j A:=⟨r.hd,by have:=r.dp; omega,by have:=r.un; omega,r.gd⟩
theorem Room.deeper {k:Nat} {A:Around} (r:Room (k + 1) A) (env:Env):Room k (A.deeper env):=
 ⟨r.hd,by have:=r.dp; show A.depth + 1 + 3 * k + 5 < _; omega,by have:=r.un; show A.units + 3 + 16 * k + 200 < _; omega,r.gd⟩
theorem Room.in1 {k:Nat} {A:Around} (r:Room (k + 1) A):Room k A.in1:=
 ⟨r.hd,by have:=r.dp; show A.depth + 3 * k + 5 < _; omega,by have:=r.un; show A.units + 1 + 16 * k + 200 < _; omega,r.gd⟩
theorem make_depth {A:Around} {C:Addr} {us:List Value} {kw:List (Str × Value)}:(A.under (.builtin "type.__call__" ⟨.ref C :: us,kw⟩)).depth = A.depth + 1:=by
 first | rfl | simp [Around.under,Code.weight,Code.isCreation,Code.isGuard,Code.isCaller,Code.frames,Code.isFrame,guardIds]
theorem make_units {A:Around} {C:Addr} {us:List Value} {kw:List (Str × Value)}:(A.under (.builtin "type.__call__" ⟨.ref C :: us,kw⟩)).units = A.units + 1:=by
 first | rfl | simp [Around.under,Code.cUnits,Code.frames,Code.isFrame]
theorem Room.make {k:Nat} {A:Around} (r:Room (k + 1) A) (C:Addr) (us:List Value) (kw:List (Str × Value)):Room k (A.under (.builtin "type.__call__" ⟨.ref C :: us,kw⟩)):=
 ⟨r.hd,by have:=r.dp; rw [make_depth]; omega,by have:=r.un; rw [make_units]; omega,by first | exact r.gd | (simpa [Around.under,Code.guards,Code.isGuard,pushGuards,guardIds] using r.gd)⟩
theorem Room.depth {k:Nat} {A:Around} (r:Room k A):A.depth < recursionLimit:=by have:=r.dp; omega
theorem Room.units {k:Nat} {A:Around} (r:Room k A):A.units + 64 < cLine:=by have:=r.un; omega
theorem Room.units0 {k:Nat} {A:Around} (r:Room k A):A.units < cLine:=by have:=r.un; omega
noncomputable def tNil:TA:=fun _ H Q=>Q [] H
noncomputable def tCons (ta:TE) (tr:TA):TA:=fun σ H Q=>ta σ H fun x H1=>tr σ H1 fun xs H2=>Q (x :: xs) H2
section
variable {X:Cx} {e:Expr} {es:List Expr} {te:TE} {t:TA} {pos:Pos}
theorem pa_nil:PA X [] tNil:=fun _ _ _ _ H Q I h=>Calls.spliced_nil ⟨[],H,I,.nil,h⟩
theorem pa_cons (ha:PE X e te) (hr:PA X es t) (hs:starEach (e :: es) X.env = (false,eval e X.env) :: starEach es X.env:=by rfl):PA X (e :: es) (tCons te t):=by
 intro pos pins s σ H Q I h
 rw [hs]
 show wpAny _ _ (spliced ((false,eval e X.env) :: backTo pos (starEach es X.env))) _ _ s
 refine Calls.spliced_cons (thn (ha pins s σ H _ I h) fun u s1 ⟨x,H1,I1,r1,q1⟩=>?_)
 exact thn (hr pos pins s1 σ H1 _ I1 q1) fun us s2 ⟨xs,H2,I2,r2,q2⟩=>⟨x :: xs,H2,I2,.cons r1 r2,q2⟩
noncomputable def tTup (t:TA):TE:=fun σ H Q=>t σ H fun xs H1=>xs.length <= sizeLine /\ ∀ p,H1 p = none -> Q (.ref p) (upd H1 p (.tup xs))
noncomputable def tLst (t:TA):TE:=fun σ H Q=>t σ H fun xs H1=>xs.length <= sizeLine /\ ∀ p,H1 p = none -> Q (.ref p) (upd H1 p (.lst xs))
theorem pe_tup {x1} (h:PA X es t):PE X (.Tuple es x1 pos) (tTup t):=by
 intro pins s σ H Q I hq
 refine wpAny_Tuple_spliced (thn (h pos pins s σ H _ I hq) fun us s1 ⟨xs,H1,I1,r,z,q⟩=>⟨by rw [<- r.length]; exact z,?_⟩)
 have hf:H1 s1.heap.objs.size = none:=I1.hok.fresh (Nat.le_refl _)
 refine ⟨.ref s1.heap.objs.size,upd H1 s1.heap.objs.size (.tup xs),I1.laid (t':=s1.toks) (fun b u e=>Heap.get?_push_of_some _ e) (Nat.le_refl _) ?_,rfl,q _ hf⟩
 exact ⟨z,us,r,⟨_,Heap.get?_push_size _ rfl,rfl,_,rfl⟩⟩
theorem pe_lst (h:PA X es t):PE X (.List es pos) (tLst t):=by
 intro pins s σ H Q I hq
 refine wpAny_List_spliced (thn (h pos pins s σ H _ I hq) fun us s1 ⟨xs,H1,I1,r,z,q⟩=>⟨by rw [<- r.length]; exact z,?_⟩)
 have hf:H1 s1.heap.objs.size = none:=I1.hok.fresh (Nat.le_refl _)
 refine ⟨.ref s1.heap.objs.size,upd H1 s1.heap.objs.size (.lst xs),I1.laid (t':=s1.toks) (fun b u e=>Heap.get?_push_of_some _ e) (Nat.le_refl _) ?_,rfl,q _ hf⟩
 exact ⟨z,us,0,r,Heap.get?_push_size _ rfl⟩
end
noncomputable abbrev Sp:=List V -> Hp -> VK -> XK -> Prop
noncomputable abbrev CXT:=List Env -> Hp -> Shared -> XK -> Value -> Shared -> Prop
structure Env0 (P:Program) (w:World) (K:Frag) (mg:Str -> Option Value) (base:Heap) (A:Around) (outer:List Env) (s:Shared) (H:Hp):Prop where
 frames:A.frames = some outer
 mod:Mod K mg base
 bs:∀ b o,base.get? b = some o -> s.heap.get? b = some o /\ H b = none
 bsz:base.objs.size <= s.heap.objs.size
 funs:s.heap.FunFrames base outer
 frf:∀ b ∈ frs outer,H b = none
 hok:HOk P w H s.heap
 bare:AllBare s.gens
 tk:0 < s.toks
def CE (outer:List Env) (P:Program) (w:World) (H:Hp) (s:Shared) (Q:VK) (u:Value) (s':Shared):Prop:=
 ∃ v H',0 < s'.toks /\ s'.os = s.os /\ AllBare s'.gens /\ Un (frs outer) [] H H' s.heap s'.heap /\ HOk P w H' s'.heap /\ RelV v u /\ Q v H'
def CR (CX:CXT) (outer:List Env) (P:Program) (w:World) (H:Hp) (s:Shared) (Q:VK) (E:XK) (r:Result) (s':Shared):Prop:=
 match r with
 | .ok (.ret u)=>CE outer P w H s Q u s'
 | .ok _=>False
 | .error e=>CX outer H s E e s'
structure FnOk (P:Program) (w:World) (K:Frag) (mg:Str -> Option Value) (base:Heap) (CX:CXT) (k:Nat) (f:Addr) (fd:FuncData) (ps:List Str) (sp:Sp):Prop where
 len:∀ vs H Q E,sp vs H Q E -> vs.length = ps.length
 run:∀ (A:Around) (outer:List Env) (s:Shared) (H:Hp) (args:Args) (us:List Value) (vs:List V) (Q:VK) (E:XK),Room k A -> Env0 P w K mg base A outer s H -> BindsTo s fd args (ps.zip us) -> Vals vs us -> sp vs H Q E ->
  codeAny (model P w) A (.call (.ref f) args) (CR CX outer P w H s Q E) s
theorem FnOk.mono {P:Program} {w:World} {K:Frag} {mg:Str -> Option Value} {base:Heap} {CX:CXT} {j k:Nat} {f:Addr} {fd:FuncData} {ps:List Str} {sp:Sp} (F:FnOk P w K mg base CX j f fd ps sp) (h:j <= k):
  FnOk P w K mg base CX k f fd ps sp:=⟨F.len,fun A outer s H args us vs Q E hr=>F.run A outer s H args us vs Q E (hr.mono h)⟩
theorem FnOk.imp {P:Program} {w:World} {K:Frag} {mg:Str -> Option Value} {base:Heap} {CX:CXT} {k:Nat} {f:Addr} {fd:FuncData} {ps:List Str} {sp sp':Sp} (F:FnOk P w K mg base CX k f fd ps sp)
  (h:∀ vs H Q E,sp' vs H Q E -> sp vs H Q E):FnOk P w K mg base CX k f fd ps sp':=
 ⟨fun vs H Q E q=>F.len vs H Q E (h _ _ _ _ q),fun A outer s H args us vs Q E hr he hb hv hs=>F.run A outer s H args us vs Q E hr he hb hv (h _ _ _ _ hs)⟩
theorem Env0.make {P:Program} {w:World} {K:Frag} {mg:Str -> Option Value} {base:Heap} {A:Around} {outer:List Env} {s:Shared} {H:Hp} (e:Env0 P w K mg base A outer s H) (C:Addr) (us:List Value) (kw:List (Str × Value)):
  Env0 P w K mg base (A.under (.builtin "type.__call__" ⟨.ref C :: us,kw⟩)) outer s H:=⟨by first | exact e.frames | (simpa [Around.under,Code.envs,Code.isFrame,pushEnvs] using e.frames),e.mod,e.bs,e.bsz,e.funs,e.frf,e.hok,e.bare,e.tk⟩
theorem Env0.in1 {P:Program} {w:World} {K:Frag} {mg:Str -> Option Value} {base:Heap} {A:Around} {outer:List Env} {s:Shared} {H:Hp} (e:Env0 P w K mg base A outer s H):
  Env0 P w K mg base A.in1 outer s H:=⟨e.frames,e.mod,e.bs,e.bsz,e.funs,e.frf,e.hok,e.bare,e.tk⟩
section
variable {X:Cx} {pins:List (Addr × Obj)} {σ:St} {H:Hp} {s s':Shared}
theorem Inv.env0 (I:Inv X pins σ H s):Env0 X.prog X.w X.K X.mg X.base X.A X.stack s H:=
 ⟨I.ok.frames,I.ok.mod,I.bs,Nat.le_trans I.ok.bsz I.sz,I.stack,I.stkFree,I.hok,I.bare,I.tk⟩
theorem Inv.after {Q:VK} {u:Value} (I:Inv X pins σ H s) (h:CE X.stack X.prog X.w H s Q u s'):EP X pins σ Q u s':=by
 obtain ⟨v,H',ht,os,bare,un,hok,r,q⟩:=h
 obtain ⟨hh,g,d,t,os'⟩:=s'
 obtain rfl:os' = s.os:=os
 exact ⟨v,H',I.call (h':=hh) (g':=g) (d':=d) (t':=t) (ch:=[]) un hok bare (fun b z=>absurd z (by simp)) ht,r,q⟩
end
noncomputable def tCall (sp:Sp) (dvs:List V) (E:XK) (t:TA):TE:=fun σ H Q=>t σ H fun vs H1=>sp (vs ++ dvs) H1 Q E
noncomputable def tMeth (C:Addr) (m:Str) (sp:Sp) (dvs:List V) (E:XK) (ta:TE) (t:TA):TE:=fun σ H Q=>ta σ H fun x H1=>∃ a dx fs,x = .ref a /\ H1 a = some (.ins C dx fs) /\ fs.lookup m = none /\
 t σ H1 fun vs H2=>sp (x :: (vs ++ dvs)) H2 Q E
noncomputable def tMake (C:Addr) (sp:Sp) (dvs:List V) (E:XK) (t:TA):TE:=fun σ H Q=>t σ H fun vs H1=>∀ x dx,H1 x = none -> H1 dx = none -> dx ≠ x ->
 sp (.ref x :: (vs ++ dvs)) (upd (upd H1 dx (.own x)) x (.ins C dx [])) (fun v H2=>v = .non /\ Q (.ref x) H2) E
def Binds (K:Frag) (fd:FuncData) (ps:List Str) (ds:List Value):Prop:=
 ∀ (s:Shared) (us:List Value),K.In s.heap -> (us ++ ds).length = ps.length -> BindsTo s fd ⟨us,[]⟩ (ps.zip (us ++ ds))
theorem Binds.all {K:Frag} {fd:FuncData} {ps:List Str} (h:∀ us:List Value,us.length = ps.length -> bindArgs fd ⟨us,[]⟩ = pure (ps.zip us)):Binds K fd ps []:=fun s us _ hl=>by
 rw [List.append_nil] at hl ⊢
 exact .of_eq (h us hl)
def Passes (CX:CXT) (X:Cx) (E:XK):Prop:=∀ (pins:List (Addr × Obj)) (σ:St) (H:Hp) (s:Shared) (e:Value) (s':Shared),Inv X pins σ H s -> CX X.stack H s E e s' -> X.xe e s'
section
variable {X:Cx} {CX:CXT} {k:Nat} {f C:Addr} {fd:FuncData} {ps:List Str} {sp:Sp} {dvs:List V} {ds:List Value} {E:XK} {x m:Str} {p pos apos:Pos} {e o:Expr} {es:List Expr} {ta:TE} {t:TA}
theorem run_fn {pins:List (Addr × Obj)} {σ:St} {H:Hp} {s:Shared} {Q:VK} {us:List Value} {vs:List V} (F:FnOk X.prog X.w X.K X.mg X.base CX k f fd ps sp) (hr:Room k X.A) (hb:Binds X.K fd ps ds) (hd:Vals dvs ds) (hx:Passes CX X E)
  (I:Inv X pins σ H s) (r:Vals vs us) (h:sp (vs ++ dvs) H Q E):wpAny (model X.prog X.w) X.A (call (.ref f) us) (EP X pins σ Q) X.xe s:=by
 have r2:Vals (vs ++ dvs) (us ++ ds):=r.append hd
 have hl:(us ++ ds).length = ps.length:=by rw [<- r2.length]; exact F.len _ _ _ _ h
 refine wpAny_call (codeAny_mono (F.run X.A X.stack s H ⟨us,[]⟩ (us ++ ds) (vs ++ dvs) Q E hr I.env0 (hb s us I.kIn hl) r2 h) fun r s' hq=>?_)
 cases r with
 | error e=>exact hx pins σ H s e s' I hq
 | ok fl=>
  cases fl with
  | ret u=>exact I.after hq
  | next=>exact False.elim hq
  | brk=>exact False.elim hq
  | cont=>exact False.elim hq
theorem pe_call (F:FnOk X.prog X.w X.K X.mg X.base CX k f fd ps sp) (hr:Room k X.A) (hg:Gl X x) (hm:X.mg x = some (.ref f)) (hk:keepIn X.K (.ref f) = true) (hb:Binds X.K fd ps ds) (hd:Vals dvs ds) (hx:Passes CX X E)
  (ha:PA X (e :: es) t) (hdb:(x == ("__debug__" : Str)) = false:=by decide) (he:starEach (e :: es) X.env = (false,eval e X.env) :: starEach es X.env:=by rfl) (hpl:(backTo pos (starEach es X.env)).any (·.1) = false:=by rfl):
  PE X (.Call (.Name x p) (e :: es) [] pos) (tCall sp dvs E t):=by
 intro pins s σ H Q I h
 refine wpAny_Call_Name_kw (ld_glob I hg hm ?_ hdb)
 refine PySem.W.callWith_K (h₀:=X.base) I.ok.mod.kin hk (thn (ha pos pins s σ H _ I h) fun us s1 ⟨vs,H1,I1,r,q⟩=>⟨I1.kIn,?_⟩) he hpl
 exact run_fn F hr hb hd hx I1 r q
theorem pe_meth {pl:Sem Bool} (he:PE X o ta) (c:Cls X.K C) (hm:Meth X.K C m f) (F:FnOk X.prog X.w X.K X.mg X.base CX k f fd ps sp) (hr:Room k X.A) (hb:Binds X.K fd ps ds) (hd:Vals dvs ds) (hx:Passes CX X E) (ha:PA X (e :: es) t)
  (hst:starEach (e :: es) X.env = (false,eval e X.env) :: starEach es X.env:=by rfl) (hpl:(backTo pos (starEach es X.env)).any (·.1) = false:=by rfl)
  (ht:eval (.Call (.Attribute o m apos) (e :: es) [] pos) X.env = (do
   let ov <- eval o X.env
   standAt apos.atName
   let (f,first) <- holding [ov] (getMethod ov m pl)
   callWith pos f first (backTo pos (starEach (e :: es) X.env)) (backToKw pos (keywordEach [] X.env))):=by rfl):
  PE X (.Call (.Attribute o m apos) (e :: es) [] pos) (tMeth C m sp dvs E ta t):=by
 intro pins s σ H Q I h
 refine PySem.W.methodCall_KW (pl:=pl) (thn (he pins s σ H _ I h) fun u s1 ⟨x,H1,I1,rx,a,dx,fs,ex,ea,l,q⟩=>?_) ht
 subst ex
 obtain rfl:u = Value.ref a:=rx
 refine getmeth_ok I1 ea c hm l ?_
 refine PySem.W.callWith_K (first:=[.ref a]) (h₀:=X.base) I.ok.mod.kin hm.kp (thn (ha pos pins s1 σ H1 _ I1 q) fun us s2 ⟨vs,H2,I2,r,q2⟩=>⟨I2.kIn,?_⟩) hst hpl
 exact run_fn (us:=.ref a :: us) (vs:=.ref a :: vs) F hr hb hd hx I2 (.cons rfl r) q2
structure Mk (K:Frag) (C f:Addr):Prop where
 makes:PySem.W.makesIn K C = true
 init:findIn K (.ref C) "__init__" = some (some (.ref f))
 fn:PySem.W.isFn K (.ref f) = true
 kp:keepIn K (.ref C) = true
theorem run_make {pins:List (Addr × Obj)} {σ:St} {H:Hp} {s:Shared} {Q:VK} {us:List Value} {vs:List V} (M:Mk X.K C f) (F:FnOk X.prog X.w X.K X.mg X.base CX k f fd ps sp) (hr:Room (k + 1) X.A) (hb:Binds X.K fd ps ds) (hd:Vals dvs ds)
  (hx:Passes CX X E) (I:Inv X pins σ H s) (r:Vals vs us)
  (h:∀ x dx,H x = none -> H dx = none -> dx ≠ x -> sp (.ref x :: (vs ++ dvs)) (upd (upd H dx (.own x)) x (.ins C dx [])) (fun v H2=>v = .non /\ Q (.ref x) H2) E):
  wpAny (model X.prog X.w) X.A (call (.ref C) us) (EP X pins σ Q) X.xe s:=by
 have hq:=h (s.heap.objs.size + 1) s.heap.objs.size (I.hok.fresh (Nat.le_succ _)) (I.hok.fresh (Nat.le_refl _)) (Nat.ne_of_lt (Nat.lt_succ_self _))
 have I2:=Inv.made (C:=C) I
 have r2:Vals (V.ref (s.heap.objs.size + 1) :: (vs ++ dvs)) (Value.ref (s.heap.objs.size + 1) :: (us ++ ds)):=.cons rfl (r.append hd)
 have hl:(Value.ref (s.heap.objs.size + 1) :: us ++ ds).length = ps.length:=by
  have e:=r2.length
  rw [F.len _ _ _ _ hq] at e
  exact e.symm
 refine wpAny_call (make_map (f:=f) I.kIn M.makes M.init (beq_iff_eq.mp M.fn) (codeAny_mono (F.run _ X.stack _ _ ⟨Value.ref (s.heap.objs.size + 1) :: us,[]⟩ (Value.ref (s.heap.objs.size + 1) :: (us ++ ds)) _ _ E (hr.make C us [])
  (I2.env0.make C us []) (hb _ (Value.ref (s.heap.objs.size + 1) :: us) I2.kIn hl) r2 hq) fun r s' hq'=>?_))
 cases r with
 | error e=>exact hx pins σ _ _ e s' I2 hq'
 | ok fl=>
  cases fl with
  | ret u=>
   obtain ⟨v,H',I3,rv,ev,q3⟩:=I2.after hq'
   subst ev
   exact ⟨rv,⟨V.ref (s.heap.objs.size + 1),H',I3,rfl,q3⟩⟩
  | next=>exact False.elim hq'
  | brk=>exact False.elim hq'
  | cont=>exact False.elim hq'
theorem pe_make (M:Mk X.K C f) (F:FnOk X.prog X.w X.K X.mg X.base CX k f fd ps sp) (hr:Room (k + 1) X.A) (hg:Gl X x) (hm:X.mg x = some (.ref C)) (hb:Binds X.K fd ps ds) (hd:Vals dvs ds) (hx:Passes CX X E)
  (ha:PA X (e :: es) t) (hdb:(x == ("__debug__" : Str)) = false:=by decide) (he:starEach (e :: es) X.env = (false,eval e X.env) :: starEach es X.env:=by rfl) (hpl:(backTo pos (starEach es X.env)).any (·.1) = false:=by rfl):
  PE X (.Call (.Name x p) (e :: es) [] pos) (tMake C sp dvs E t):=by
 intro pins s σ H Q I h
 refine wpAny_Call_Name_kw (ld_glob I hg hm ?_ hdb)
 refine PySem.W.callWith_K (h₀:=X.base) I.ok.mod.kin M.kp (thn (ha pos pins s σ H _ I h) fun us s1 ⟨vs,H1,I1,r,q⟩=>⟨I1.kIn,?_⟩) he hpl
 exact run_make M F hr hb hd hx I1 r q
theorem pe_make0 (M:Mk X.K C f) (F:FnOk X.prog X.w X.K X.mg X.base CX k f fd ps sp) (hr:Room (k + 1) X.A) (hg:Gl X x) (hm:X.mg x = some (.ref C)) (hb:Binds X.K fd ps ds) (hd:Vals dvs ds) (hx:Passes CX X E)
  (hdb:(x == ("__debug__" : Str)) = false:=by decide):PE X (.Call (.Name x p) [] [] pos) (tMake C sp dvs E tNil):=by
 intro pins s σ H Q I h
 refine wpAny_Call_Name_kw (ld_glob I hg hm ?_ hdb)
 exact PySem.W.callWith_K0 I.kIn M.kp (run_make (us:=[]) M F hr hb hd hx I .nil h)
end
def PK (X:Cx) (kws:List Keyword) (t:TA):Prop:=
 ∀ (pos:Pos) (pins:List (Addr × Obj)) (s:Shared) (σ:St) (H:Hp) (Q:List V -> Hp -> Prop),Inv X pins σ H s -> t σ H Q -> wpAny (model X.prog X.w) X.A (evalAll ((backToKw pos (keywordEach kws X.env)).map (·.2))) (AP X pins σ Q) X.xe s
section
variable {X:Cx} {CX:CXT} {k:Nat} {f C:Addr} {fd:FuncData} {ps ks:List Str} {sp:Sp} {E:XK} {x m:Str} {p pos apos kpos:Pos} {e o:Expr} {es:List Expr} {kws:List Keyword} {te ta:TE} {t tk:TA} {nm:Option Str}
theorem pk_nil:PK X [] tNil:=fun _ _ _ _ H Q I h=>wpAny_evalAll_nil ⟨[],H,I,.nil,h⟩
theorem pk_cons (ha:PE X e te) (hr:PK X kws t):PK X (⟨nm,e,kpos⟩ :: kws) (tCons te t):=by
 intro pos pins s σ H Q I h
 show wpAny _ _ (evalAll ((do let v <- eval e X.env; standAt pos; pure v) :: (backToKw pos (keywordEach kws X.env)).map (·.2))) _ _ s
 refine wpAny_evalAll_cons (wpAny_bind (thn (ha pins s σ H _ I h) fun u s1 ⟨x,H1,I1,r1,q1⟩=>wpAny_bind (wpAny_standAt (wpAny_pure ?_))))
 exact thn (hr pos pins s1 σ H1 _ I1 q1) fun us s2 ⟨xs,H2,I2,r2,q2⟩=>⟨x :: xs,H2,I2,.cons r1 r2,q2⟩
structure KBinds (K:Frag) (fd:FuncData) (ps ks:List Str) (g:List Value -> List Value -> List Value) (gV:List V -> List V -> List V):Prop where
 to:∀ (s:Shared) (us ws:List Value),K.In s.heap -> (g us ws).length = ps.length -> BindsTo s fd ⟨us,ks.zip ws⟩ (ps.zip (g us ws))
 rel:∀ {vs:List V} {us:List Value} {zs:List V} {ws:List Value},Vals vs us -> Vals zs ws -> Vals (gV vs zs) (g us ws)
variable {g:List Value -> List Value -> List Value} {gV:List V -> List V -> List V}
end
structure FnScope (N P:List Str) (sc:Scope):Prop where
 kind:sc.kind = .function
 co:sc.isCoroutine = false
 gen:sc.isGenerator = false
 nd:N.Nodup
 pre:N.take P.length = P
 par:∀ x ∈ P,sc.names.lookup x = some .local \/ sc.names.lookup x = some .cell
 nofree:∀ y ∈ sc.names,y.2 ≠ .free
theorem bindL_out {kindOf:Str -> Option NameKind} {x:Str}:∀ {binds:List (Str × Value)} {m:Str -> Option Value},(∀ v,(x,v) ∉ binds) -> bindL kindOf binds m x = m x
 | [],_,_=>rfl
 | (n,v) :: r,m,h=>by
  unfold bindL
  rw [bindL_out fun w hw=>h w (List.mem_cons_of_mem _ hw)]
  split
  ·have:x ≠ n:=by rintro rfl; exact h v List.mem_cons_self
   simp [this]
  ·rfl
theorem bindC_out {kindOf:Str -> Option NameKind} {x:Str}:∀ {binds:List (Str × Value)} {m:Str -> Option Value},(∀ v,(x,v) ∉ binds) -> bindC kindOf binds m x = m x
 | [],_,_=>rfl
 | (n,v) :: r,m,h=>by
  unfold bindC
  rw [bindC_out fun w hw=>h w (List.mem_cons_of_mem _ hw)]
  split
  ·rfl
  ·have:x ≠ n:=by rintro rfl; exact h v List.mem_cons_self
   simp [this]
theorem bindL_get {kindOf:Str -> Option NameKind} {x:Str} {v:Value}:∀ {P:List Str} {vs:List Value} {i:Nat} {m:Str -> Option Value},P.Nodup -> P[i]? = some x -> vs[i]? = some v -> kindOf x = some .local ->
  bindL kindOf (P.zip vs) m x = some v
 | [],_,_,_,_,h,_,_=>by simp at h
 | _ :: _,[],_,_,_,_,h,_=>by simp at h
 | p :: P,w :: vs,0,m,nd,h1,h2,hk=>by
  simp at h1 h2; subst h1; subst h2
  show bindL kindOf ((p,w) :: P.zip vs) m p = _
  unfold bindL
  rw [bindL_out fun v hv=>(List.nodup_cons.mp nd).1 (List.of_mem_zip hv).1,if_pos hk]
  simp
 | p :: P,w :: vs,i + 1,m,nd,h1,h2,hk=>by
  show bindL kindOf ((p,w) :: P.zip vs) m x = _
  unfold bindL
  exact bindL_get (i:=i) (List.nodup_cons.mp nd).2 (by simpa using h1) (by simpa using h2) hk
theorem bindC_get {kindOf:Str -> Option NameKind} {x:Str} {v:Value}:∀ {P:List Str} {vs:List Value} {i:Nat} {m:Str -> Option Value},P.Nodup -> P[i]? = some x -> vs[i]? = some v -> kindOf x ≠ some .local ->
  bindC kindOf (P.zip vs) m x = some v
 | [],_,_,_,_,h,_,_=>by simp at h
 | _ :: _,[],_,_,_,_,h,_=>by simp at h
 | p :: P,w :: vs,0,m,nd,h1,h2,hk=>by
  simp at h1 h2; subst h1; subst h2
  show bindC kindOf ((p,w) :: P.zip vs) m p = _
  unfold bindC
  rw [bindC_out fun v hv=>(List.nodup_cons.mp nd).1 (List.of_mem_zip hv).1,if_neg hk]
  simp
 | p :: P,w :: vs,i + 1,m,nd,h1,h2,hk=>by
  show bindC kindOf ((p,w) :: P.zip vs) m x = _
  unfold bindC
  exact bindC_get (i:=i) (List.nodup_cons.mp nd).2 (by simpa using h1) (by simpa using h2) hk
noncomputable def start (N:List Str) (vs:List V):St:=vs.map some ++ List.replicate (N.length - vs.length) none
noncomputable def cxOf (CX:CXT) (P:Program) (w:World) (K:Frag) (mg:Str -> Option Value) (base:Heap) (N:List Str) (qual:Str) (scope:Scope) (f:Addr) (cd:Value) (A:Around) (outer:List Env) (s:Shared) (H:Hp) (E:XK):Cx where
 prog:=P
 w:=w
 K:=K
 mg:=mg
 base:=base
 A:=A.deeper (envOfC qual scope s.heap.objs.size f cd)
 N:=N
 s₀:=s
 H₀:=H
 env:=envOfC qual scope s.heap.objs.size f cd
 outer:=outer
 stack:=envOfC qual scope s.heap.objs.size f cd :: outer
 ex:=[]
 calm:=true
 fn:=fun _=>true
 pn:=[]
 xe:=fun e s'=>wpAny (model P w) (A.deeper (envOfC qual scope s.heap.objs.size f cd)) (leaving (envOfC qual scope s.heap.objs.size f cd) e) (fun _ s''=>CX outer H s E e s'') (fun e' s''=>CX outer H s E e' s'') s'
theorem cell_has {sc:Scope} {n:Nat} {x:Str} (h:sc.names.lookup x = some .cell):∃ c,(cellsFrom n sc.names []).lookup x = some c:=by
 have q:=PySem.W.cellsFrom_some sc.names n [] (.inl h)
 exact Option.isSome_iff_exists.mp q
theorem inv_start {CX:CXT} {P:Program} {w:World} {K:Frag} {mg:Str -> Option Value} {base:Heap} {N ps:List Str} {qual:Str} {scope:Scope} {f:Addr} {cd:Value} {A:Around} {outer:List Env} {s s1:Shared} {H:Hp} {E:XK} {us:List Value} {vs:List V}
  (S:FnScope N ps scope) (hd:A.handled = none) (e0:Env0 P w K mg base A outer s H) (hl:vs.length = ps.length) (r:Vals vs us)
  (x:InCallC s s.heap.objs.size (bindL (envOfC qual scope s.heap.objs.size f cd).kindOf (ps.zip us) fun _=>none) (cellsFrom (s.heap.objs.size + 1) scope.names []) (bindC (envOfC qual scope s.heap.objs.size f cd).kindOf (ps.zip us) fun _=>none) s1) (htk:0 < s1.toks):
  Inv (cxOf CX P w K mg base N qual scope f cd A outer s H E) [] (start N vs) H s1:=by
 have hpl:ps.length <= N.length:=by have:=congrArg List.length S.pre; rw [List.length_take] at this; omega
 obtain ⟨h1,tk,rfl,hk⟩:=x.done
 have noA:∀ b:Addr,b ∉ (cxOf CX P w K mg base N qual scope f cd A outer s H E).ex:=fun b z=>absurd (show b ∈ ([]:List Addr) from z) (by simp)
 refine ⟨⟨e0.mod,S.kind,rfl,rfl,Nat.le_refl _,fun y z c h1 h2=>?_,fun y hy=>?_,fun y c _ h=>?_,fun _=>hd,Around.frames_deeper e0.frames,.inr ⟨rfl,rfl⟩,fun b z=>absurd z (noA b),e0.bs,e0.bsz,fun b _ _=>noA b,fun b z=>absurd z (noA b),e0.funs,e0.frf⟩,
  rfl,e0.bare,Un.kept hk,⟨_,x.toInCall.ns,fun i y v h1 h2 h3=>?_⟩,fun y c h=>⟨_,x.cell y c h⟩,e0.hok.fresh (Nat.le_refl _),fun y c h=>?_,fun p hp=>absurd (show p ∈ ([]:List (Addr × Obj)) from hp) (by simp),e0.hok.kept hk,?_,htk⟩
 ·exact name_of_addr x.apart (PySem.mem_of_lookup h1) (PySem.mem_of_lookup h2)
 ·have hy:scope.names.lookup y = some .cell \/ scope.names.lookup y = some .free:=hy
  rcases hy with hy | hy
  ·exact cell_has hy
  ·exact absurd rfl (S.nofree _ (PySem.mem_of_lookup hy))
 ·exact Nat.le_of_lt (x.above y c (PySem.mem_of_lookup h))
 ·have hi:i < vs.length:=by
   unfold start at h2
   by_cases hi:i < vs.length
   ·exact hi
   ·rw [List.getElem?_append_right (by simpa using hi)] at h2
    rw [List.getElem?_replicate] at h2
    split at h2 <;> cases h2
  have ha:vs[i]? = some v:=by
   unfold start at h2
   rw [List.getElem?_append_left (by simpa using hi),List.getElem?_map] at h2
   cases e:vs[i]? with
   | none=>rw [e] at h2; cases h2
   | some a=>rw [e] at h2; cases h2; rfl
  obtain ⟨u,hu,rv⟩:=r.get ha
  have hp:ps[i]? = some y:=by
   rw [<- S.pre,List.getElem?_take_of_lt (by omega)]; exact h1
  have ndP:ps.Nodup:=by rw [<- S.pre]; exact S.nd.sublist (List.take_sublist _ _)
  refine ⟨u,rv,?_⟩
  rcases S.par y (List.mem_of_getElem? hp) with k | k
  ·exact .inl ⟨k,bindL_get ndP hp hu k⟩
  ·obtain ⟨c,e⟩:=cell_has (n:=s.heap.objs.size + 1) k
   refine .inr ⟨.inl k,c,e,?_⟩
   have q:=x.cell y c e
   rw [bindC_get ndP hp hu (by show scope.names.lookup y ≠ _; rw [k]; decide)] at q
   exact q
 ·exact e0.hok.fresh (Nat.le_of_lt (x.above y c (PySem.mem_of_lookup h)))
 ·unfold start
  show _ = N.length
  rw [List.length_append,List.length_map,List.length_replicate]
  omega
theorem fn_of {CX:CXT} {P:Program} {w:World} {K:Frag} {mg:Str -> Option Value} {base:Heap} {k:Nat} {f:Addr} {name qual:Str} {params:Arguments} {body:List Stmt} {scope:Scope} {dV kV doc pm cdv ct oc:Value} {an od:Option Addr}
  {osl:Array (Option Value)} {N ps:List Str} {sp:Sp} (lk:K.lookup f = some ⟨oc,od,.func (fnOf name qual params body scope dV kV doc pm an cdv ct),osl⟩) (hcd:codeIn K cdv qual = true) (S:FnScope N ps scope)
  (len:∀ vs H Q E,sp vs H Q E -> vs.length = ps.length)
  (hbody:∀ (A:Around) (outer:List Env) (s:Shared) (H:Hp) (vs:List V) (Q:VK) (E:XK),Room k (A.deeper (envOfC qual scope s.heap.objs.size f cdv)) -> sp vs H Q E ->
   ∃ t,PSs (cxOf CX P w K mg base N qual scope f cdv A outer s H E) body t /\ t { nx:=fun _ H'=>Q .non H',rt:=Q } (start N vs) H):
  FnOk P w K mg base CX (k + 1) f (fnOf name qual params body scope dV kV doc pm an cdv ct) ps sp:=by
 refine ⟨len,fun A outer s H args us vs Q E hr e0 hb r hsp=>?_⟩
 have hl:=len _ _ _ _ hsp
 have KX:K.In s.heap:=e0.mod.kin.keeps fun b o e=>(e0.bs b o e).1
 have lim:s.heap.NoLimit:=e0.mod.nolimit.keeps fun b o e=>(e0.bs b o e).1
 have hkind:∀ y ∈ ps.zip us,scope.names.lookup y.1 = some .local \/ (scope.names.lookup y.1 = some .cell /\ ((cellsFrom (s.heap.objs.size + 1) scope.names []).lookup y.1).isSome = true):=fun ⟨n,v⟩ hy=>by
  rcases S.par n (List.of_mem_zip hy).1 with q | q
  ·exact .inl q
  ·exact .inr ⟨q,PySem.W.cellsFrom_some _ _ _ (.inl q)⟩
 refine codeAny_call_function hr.depth (KX _ _ lk) rfl S.co S.gen rfl (PySem.W.codeRec_of KX hcd) (hb _ _ _ _ ?_)
 refine tokQ e0.tk (wpAny_newFunctionEnv_cells S.kind hkind fun env he s1 x htk=>?_)
 subst he
 refine ⟨lim.keeps x.toInCall.keep,codeAny_func ?_⟩
 obtain ⟨t,ht,hq⟩:=hbody A outer s H vs Q E (hr.deeper _) hsp
 have I:Inv (cxOf CX P w K mg base N qual scope f cdv A outer s H E) [] (start N vs) H s1:=inv_start S hr.hd e0 hl r x htk
 refine wpAny_mono (ht [] s1 (start N vs) H _ I hq) (fun fl s' hs=>?_) fun e s' hs=>hs
 have fin:∀ {σ':St} {H':Hp} {v:V} {u:Value},Inv (cxOf CX P w K mg base N qual scope f cdv A outer s H E) [] σ' H' s' -> RelV v u -> Q v H' -> CE outer P w H s Q u s':=
  fun {σ' H' v u} J rv q=>⟨v,H',J.tk,J.os,J.bare,J.base,J.hok,rv,q⟩
 cases fl with
 | ret u=>
  obtain ⟨v,σ',H',J,rv,q⟩:=hs
  exact fin J rv q
 | next=>
  obtain ⟨σ',H',J,q⟩:=hs
  exact fin (v:=V.non) (u:=Value.none) J rfl q
 | brk=>
  obtain ⟨_,_,_,q⟩:=hs
  exact False.elim q
 | cont=>
  obtain ⟨_,_,_,q⟩:=hs
  exact False.elim q
section
variable {X:Cx} {x:Str} {p pos:Pos} {e:Expr} {es:List Expr} {t:TA} {id T:String} {r:List V -> Hp -> VK -> Prop}
noncomputable def tCB (r:List V -> Hp -> VK -> Prop) (t:TA):TE:=fun σ H Q=>t σ H fun vs H1=>r vs H1 Q
theorem pe_callB (hc:CallR X (.builtin id) r) (hg:Gl X x) (hm:X.mg x = none) (hv:bootBuiltins x = some (.builtin id)) (ha:PA X (e :: es) t) (hn:x ≠ "__name__" := by decide) (hdb:(x == ("__debug__" : Str)) = false:=by decide)
  (he:starEach (e :: es) X.env = (false,eval e X.env) :: starEach es X.env:=by rfl) (hpl:(backTo pos (starEach es X.env)).any (·.1) = false:=by rfl):PE X (.Call (.Name x p) (e :: es) [] pos) (tCB r t):=by
 intro pins s σ H Q I h
 refine wpAny_Call_Name_kw (ld_blt I hg hm hv ?_ hn hdb)
 exact PyProof.Rows.callWith_builtin1 (thn (ha pos pins s σ H _ I h) fun us s1 ⟨vs,H1,I1,r1,q1⟩=>hc pins s1 σ H1 vs us Q I1 r1 q1) he hpl
theorem pe_callTy (hc:CallR X (.type T) r) (hg:Gl X x) (hm:X.mg x = none) (hv:bootBuiltins x = some (.type T)) (ha:PA X (e :: es) t) (hn:x ≠ "__name__" := by decide) (hdb:(x == ("__debug__" : Str)) = false:=by decide)
  (he:starEach (e :: es) X.env = (false,eval e X.env) :: starEach es X.env:=by rfl) (hpl:(backTo pos (starEach es X.env)).any (·.1) = false:=by rfl):PE X (.Call (.Name x p) (e :: es) [] pos) (tCB r t):=by
 intro pins s σ H Q I h
 refine wpAny_Call_Name_kw (ld_blt I hg hm hv ?_ hn hdb)
 exact PyProof.Rows.callWith_type1 (thn (ha pos pins s σ H _ I h) fun us s1 ⟨vs,H1,I1,r1,q1⟩=>hc pins s1 σ H1 vs us Q I1 r1 q1) he hpl
end
end L2
namespace HT
open PySem PyProof.Rows
section
open PySem.SeqAt
open PySem.AutoSeq1 (wpAny_loadPart')
open PySem.MeetsSeq PySem.MeetsSeq2 PySem.MeetsSeq3
end
section
variable {prog:Program} {w:World} {A:Around} {E:Value -> Shared -> Prop} {s:Shared}
noncomputable def sIx (n d:Nat):Option Int -> Nat
 | none=>d
 | some v=>if v < 0 then (v + (n:Int)).toNat else min v.toNat n
theorem sIx_nat (n d k:Nat):sIx n d (some (k:Int)) = min k n:=by
 show (if (k:Int) < 0 then ((k:Int) + (n:Int)).toNat else min (k:Int).toNat n) = min k n
 rw [if_neg (by omega),Int.toNat_natCast]
end
end HT
namespace L2
open PySem PySem.Spec PyProof.Rows
noncomputable abbrev TO:=St -> Hp -> (Option Int -> Hp -> Prop) -> Prop
def PO (X:Cx) (e:Option Expr) (t:TO):Prop:=
 ∀ (pins:List (Addr × Obj)) (s:Shared) (σ:St) (H:Hp) (Q:Option Int -> Hp -> Prop),Inv X pins σ H s -> t σ H Q ->
  wpAny (model X.prog X.w) X.A (evalPart e X.env) (fun u s'=>∃ o H',Inv X pins σ H' s' /\ IsPart u o /\ Q o H') X.xe s
noncomputable def tNoPart:TO:=fun _ H Q=>Q none H
noncomputable def tPart (t:TE):TO:=fun σ H Q=>t σ H fun x H1=>∃ i,x = .int i /\ Q (some i) H1
theorem intsAre_of {ns:List Int}:∀ {us:List Value},Vals (ns.map V.int) us -> IntsAre us ns:=by
 induction ns with
 | nil=>intro us r; rw [List.map_nil] at r; cases r; exact .nil
 | cons n ns ih=>
  intro us r
  rw [List.map_cons] at r
  cases r with
  | cons r1 r2=>
   obtain ⟨t,e⟩:=r1
   subst e
   exact .cons n t (ih r2)
section
variable {X:Cx} {e:Expr} {te:TE} {lo hi:Option Expr} {tl th:TO} {pos p2:Pos}
theorem po_none:PO X none tNoPart:=by
 intro pins s σ H Q I h
 rw [evalPart_none]
 exact wpAny_pure ⟨none,H,I,.none,h⟩
theorem po_some (h:PE X e te):PO X (some e) (tPart te):=by
 intro pins s σ H Q I hw
 rw [evalPart_some]
 refine thn (h pins s σ H _ I hw) fun u s1 ⟨x,H1,I1,r1,q1⟩=>?_
 obtain ⟨i,rfl,q⟩:=q1
 obtain ⟨t,rfl⟩:=r1
 exact ⟨some i,H1,I1,.int i t,q⟩
def SlR (X:Cx) (r:V -> Option Int -> Option Int -> Hp -> VK -> Prop):Prop:=
 ∀ (pins:List (Addr × Obj)) (s:Shared) (σ:St) (H:Hp) (x:V) (v vl vu:Value) (lo hi:Option Int) (sl:Addr) (Q:VK),Inv X pins σ H s -> RelV x v -> s.heap.IsSliceOf sl vl vu .none -> IsPart vl lo -> IsPart vu hi -> r x lo hi H Q ->
  ∃ T id,typeLookup (.type T) "__getitem__" = pure (some (.builtin id)) /\ s.TypeIs v T /\ wpAny (model X.prog X.w) X.A (getItem v (.ref sl)) (EP X pins σ Q) X.xe s
theorem SlR.or {r r':V -> Option Int -> Option Int -> Hp -> VK -> Prop} (h:SlR X r) (h':SlR X r'):SlR X (fun x lo hi H Q=>r x lo hi H Q \/ r' x lo hi H Q):=by
 intro pins s σ H x v vl vu lo hi sl Q I rx hs pl pu q
 rcases q with q | q
 ·exact h pins s σ H x v vl vu lo hi sl Q I rx hs pl pu q
 ·exact h' pins s σ H x v vl vu lo hi sl Q I rx hs pl pu q
noncomputable def tSl (r:V -> Option Int -> Option Int -> Hp -> VK -> Prop) (te:TE) (tl th:TO):TE:=fun σ H Q=>te σ H fun x H1=>tl σ H1 fun l H2=>th σ H2 fun u H3=>r x l u H3 Q
theorem pe_slice {r:V -> Option Int -> Option Int -> Hp -> VK -> Prop} (hr:SlR X r) (he:PE X e te) (hl:PO X lo tl) (hu:PO X hi th):PE X (.Subscript e (.Slice lo hi none p2) pos) (tSl r te tl th):=by
 intro pins s σ H Q I h
 refine Subscript_ (thn (he pins s σ H _ I h) fun v s1 ⟨x,H1,I1,r1,q1⟩=>?_)
 refine wpAny_Slice (thn (hl pins s1 σ H1 _ I1 q1) fun vl s2 ⟨l,H2,I2,pl,q2⟩=>thn (hu pins s2 σ H2 _ I2 q2) fun vu s3 ⟨u,H3,I3,pu,q3⟩=>?_)
 rw [evalPart_none]
 refine wpAny_pure ?_
 have I4:Inv X pins σ H3 { s3 with heap:=s3.heap.push { cls:=.type "slice",data:=.fields #[vl,vu,.none] } }:=I3.kept (t':=s3.toks) fun b ob q=>Heap.get?_push_of_some _ q
 obtain ⟨T,id,hT,ht,hg⟩:=hr pins { s3 with heap:=s3.heap.push { cls:=.type "slice",data:=.fields #[vl,vu,.none] } } σ H3 x v vl vu l u s3.heap.objs.size Q I4 r1 (Heap.IsSliceOf.new ..) pl pu q3
 show wpAny (model X.prog X.w) X.A (subscriptTail e (.Slice lo hi none p2) v (.ref s3.heap.objs.size)) (EP X pins σ Q) X.xe { s3 with heap:=s3.heap.push { cls:=.type "slice",data:=.fields #[vl,vu,.none] } }
 exact tail_any (ops:=[.ref s3.heap.objs.size,v]) ht hT hg (by with_unfolding_all rfl)
noncomputable def cutV (xs:List V) (lo hi:Option Int):List V:=(xs.drop (HT.sIx xs.length 0 lo)).take (HT.sIx xs.length xs.length hi - HT.sIx xs.length 0 lo)
theorem cutV_length (xs:List V) (lo hi:Option Int):(cutV xs lo hi).length <= xs.length:=by
 unfold cutV
 rw [List.length_take,List.length_drop]
 omega
end
noncomputable def ixN (n:Nat) (i:Int):Option Nat:=if 0 <= i then (if i < n then some i.toNat else none) else if -(n:Int) <= i then some (i + n).toNat else none
noncomputable def atI {α:Type} (xs:List α) (i:Int):Option α:=(ixN xs.length i).bind fun j=>xs[j]?
theorem ixN_seq {n:Nat} {i:Int} {j:Nat} (h:ixN n i = some j):seqIndex? i n = some j /\ j < n /\ -(n:Int) <= i /\ i < n:=by
 unfold ixN at h
 by_cases h0:0 <= i
 ·rw [if_pos h0] at h
  by_cases h1:i < n
  ·rw [if_pos h1] at h
   have e:i.toNat = j:=Option.some.inj h
   exact ⟨by rw [seqIndex_of h0 h1,e],by omega,by omega,h1⟩
  ·rw [if_neg h1] at h; cases h
 ·rw [if_neg h0] at h
  by_cases h1:-(n:Int) <= i
  ·rw [if_pos h1] at h
   have e:(i + n).toNat = j:=Option.some.inj h
   exact ⟨by rw [seqIndex_neg (by omega) h1,e],by omega,h1,by omega⟩
  ·rw [if_neg h1] at h; cases h
theorem atI_get {α:Type} {xs:List α} {i:Int} {v:α} (h:atI xs i = some v):∃ j,seqIndex? i xs.length = some j /\ xs[j]? = some v /\ j < xs.length /\ -(xs.length:Int) <= i /\ i < xs.length:=by
 unfold atI at h
 cases e:ixN xs.length i with
 | none=>rw [e] at h; cases h
 | some j=>
  rw [e] at h
  obtain ⟨h1,h2,h3,h4⟩:=ixN_seq e
  exact ⟨j,h1,h,h2,h3,h4⟩
theorem atI_nat {α:Type} {xs:List α} {j:Nat} {v:α} (h:xs[j]? = some v):atI xs (j:Int) = some v:=by
 have hj:j < xs.length:=(List.getElem?_eq_some_iff.mp h).1
 have e:ixN xs.length (j:Int) = some j:=by
  unfold ixN
  rw [if_pos (by omega),if_pos (by omega)]; simp
 unfold atI; rw [e]; exact h
def PlainIx (b:Expr):Prop:=∀ o i,subscripted b false o i = operate [o,i] (getItem o i)
def IxR (X:Cx) (r:R2):Prop:=
 ∀ (value slice:Expr) (pins:List (Addr × Obj)) (s:Shared) (σ:St) (H:Hp) (x y:V) (v u:Value) (Q:VK),Inv X pins σ H s -> RelV x v -> RelV y u -> r x y H Q ->
  subscripted slice false v u = operate [v,u] (getItem v u) -> wpAny (model X.prog X.w) X.A (subscriptTail value slice v u) (EP X pins σ Q) X.xe s
def MtR (X:Cx) (id:String) (r:V -> List V -> Hp -> VK -> Prop):Prop:=
 ∀ (pins:List (Addr × Obj)) (s:Shared) (σ:St) (H:Hp) (x:V) (xs:List V) (v:Value) (us:List Value) (Q:VK),Inv X pins σ H s -> RelV x v -> Vals xs us -> r x xs H Q ->
  wpAny (model X.prog X.w) X.A (call (.builtin id) (v :: us)) (EP X pins σ Q) X.xe s
section
variable {X:Cx} {a b:Expr} {ta tb:TE} {pos:Pos}
theorem IxR.or {r r':R2} (h:IxR X r) (h':IxR X r'):IxR X (fun x y H Q=>r x y H Q \/ r' x y H Q):=by
 intro value slice pins s σ H x y v u Q I rx ry q hs
 rcases q with q | q
 ·exact h value slice pins s σ H x y v u Q I rx ry q hs
 ·exact h' value slice pins s σ H x y v u Q I rx ry q hs
theorem MtR.or {id:String} {r r':V -> List V -> Hp -> VK -> Prop} (h:MtR X id r) (h':MtR X id r'):MtR X id (fun x xs H Q=>r x xs H Q \/ r' x xs H Q):=by
 intro pins s σ H x xs v us Q I rx rs q
 rcases q with q | q
 ·exact h pins s σ H x xs v us Q I rx rs q
 ·exact h' pins s σ H x xs v us Q I rx rs q
theorem pe_ix {r:R2} (hr:IxR X r) (ha:PE X a ta) (hb:PE X b tb) (hs:PlainIx b):PE X (.Subscript a b pos) (tOp r ta tb):=by
 intro pins s σ H Q I h
 exact Subscript_ (binT ha hb I h fun v u s2 x y H2 I2 rx ry q=>hr a b pins s2 σ H2 x y v u Q I2 rx ry q (hs _ _))
noncomputable def rIxL (K:Frag):R2:=fun x y H Q=>∃ p xs i v,x = .ref p /\ y = .int i /\ SqL K H p xs /\ atI xs i = some v /\ Q v H
noncomputable def rIxT (K:Frag):R2:=fun x y H Q=>∃ p xs i v,x = .ref p /\ y = .int i /\ SqT K H p xs /\ atI xs i = some v /\ Q v H
noncomputable def rIxS:R2:=fun x y H Q=>∃ z i c,x = .str z /\ y = .int i /\ z.length <= sizeLine /\ atI z.cps.toList i = some c /\ Q (.str ⟨#[c]⟩) H
theorem ix_list:IxR X (rIxL X.K):=by
 intro value slice pins s σ H x y v u Q I rx ry h hs
 obtain ⟨p,xs,i,z,rfl,rfl,hq,he,q⟩:=h
 cases rx
 obtain ⟨t,rfl⟩:=ry
 obtain ⟨its,r,pl,hz⟩:=I.list hq
 obtain ⟨j,h1,h2,h3,h4,h5⟩:=atI_get he
 obtain ⟨w,ew,rw'⟩:=r.get h2
 have hl:=r.length
 have hn:=line63
 have fin:EP X pins σ Q w s:=⟨z,H,I,rw',q⟩
 by_cases h0:0 <= i
 ·have hj:i.toNat = j:=by
   rw [seqIndex_of h0 h5] at h1
   exact Option.some.inj h1
  exact item_listR pl.isList h0 (by omega) (by rw [hj]; simpa using ew) fin hs
 ·have hj:(i + (its.toArray.size:Int)).toNat = j:=by
   rw [seqIndex_neg (by omega) h4] at h1
   rw [List.size_toArray,<- hl]
   exact Option.some.inj h1
  exact subscriptTail_builtinR (x:=w) pl.isList.typeIs slot_list_getitem.lookup
   (wpAny_getItem_list_neg (Q:=fun r s'=>r = w /\ EP X pins σ Q r s') pl.isList (by omega) (by rw [List.size_toArray] <;> omega) (by omega) (by rw [hj]; simpa using ew) ⟨rfl,fin⟩) hs
theorem ix_tup:IxR X (rIxT X.K):=by
 intro value slice pins s σ H x y v u Q I rx ry h hs
 obtain ⟨p,xs,i,z,rfl,rfl,hq,he,q⟩:=h
 cases rx
 obtain ⟨t,rfl⟩:=ry
 obtain ⟨its,r,pl,hz⟩:=I.tuple hq
 obtain ⟨j,h1,h2,h3,h4,h5⟩:=atI_get he
 obtain ⟨w,ew,rw'⟩:=r.get h2
 have hl:=r.length
 have hn:=line63
 have fin:EP X pins σ Q w s:=⟨z,H,I,rw',q⟩
 exact subscriptTail_builtinR (x:=w) pl.typeIs slot_tuple_getitem.lookup
  (getItem_tuple (j:=j) (Q:=fun r s'=>r = w /\ EP X pins σ Q r s') pl (by omega) (by omega) (by rw [List.size_toArray,<- hl]; exact h1) (by simpa using ew) ⟨rfl,fin⟩) hs
theorem ix_str:IxR X rIxS:=by
 intro value slice pins s σ H x y v u Q I rx ry h hs
 obtain ⟨z,i,c,rfl,rfl,hz,he,q⟩:=h
 obtain ⟨t,rfl⟩:=rx
 obtain ⟨t',rfl⟩:=ry
 obtain ⟨j,h1,h2,h3,h4,h5⟩:=atI_get he
 have hl:z.cps.toList.length = z.length:=by simp [Str.length]
 rw [hl] at h1 h4 h5
 have hn:=line63
 exact tail_any (typeIs_str s z t) slot_str_getitem.lookup (getItem_str (c:=c) (by
  have e1:decide (i < -(2 ^ 63:Int)) = false:=decide_eq_false (by omega)
  have e2:decide (i >= 2 ^ 63) = false:=decide_eq_false (by omega)
  rw [e1,e2,Bool.or_false]) (by rw [h1]; simpa using h2) ⟨.str ⟨#[c]⟩,H,I.tok _,⟨_,rfl⟩,q⟩) hs
noncomputable def rIx (K:Frag):R2:=fun x y H Q=>rIxL K x y H Q \/ rIxT K x y H Q \/ rIxS x y H Q
theorem ix_seq:IxR X (rIx X.K):=ix_list.or (ix_tup.or ix_str)
theorem mapSeq_set (its:List Value) (n j:Nat) (u:Value):Obj.mapSeq (·.setIfInBounds j u) { cls:=.type "list",data:=.seq its.toArray n } = { cls:=.type "list",data:=.seq (its.set j u).toArray n }:=by
 simp [Obj.mapSeq]
theorem Inv.lst {pins:List (Addr × Obj)} {σ:St} {H:Hp} {s:Shared} {p:Addr} {xs:List V} (I:Inv X pins σ H s) (h:H p = some (.lst xs)):
  ∃ (its:List Value) (n:Nat),Vals xs its /\ s.heap.get? p = some { cls:=.type "list",data:=.seq its.toArray n } /\ xs.length <= sizeLine:=by
 obtain ⟨z,its,n,r,e⟩:=I.hok p _ h
 exact ⟨its,n,r,e,z⟩
theorem Inv.lstUpd {pins:List (Addr × Obj)} {σ:St} {H:Hp} {s:Shared} {p:Addr} {xs ys:List V} {its its':List Value} {n n':Nat} {f:Obj -> Obj} (I:Inv X pins σ H s) (h:H p = some (.lst xs))
  (ho:s.heap.get? p = some { cls:=.type "list",data:=.seq its.toArray n }) (hf:f { cls:=.type "list",data:=.seq its.toArray n } = { cls:=.type "list",data:=.seq its'.toArray n' }) (r:Vals ys its') (hz:ys.length <= sizeLine) (t:Nat) (ht:0 < t:=by first | assumption | exact Nat.succ_pos _ | (apply Inv.tk; assumption) | omega):
  Inv X pins σ (upd H p (.lst ys)) { s with heap:=s.heap.update p f,toks:=t }:=by
 have e:(s.heap.update p f).get? p = some { cls:=.type "list",data:=.seq its'.toArray n' }:=by
  rw [Heap.get?_update_self f ho (by rw [hf] <;> rfl),hf]
 refine I.write (x:=p) (e:=p) (by rw [h]; trivial) (.inl rfl) (fun b u hb q=>(Heap.get?_update_other _ _ (Ne.symm hb)).trans q) ⟨_,e⟩ ?_
 exact ⟨hz,its',n',r,e⟩
noncomputable def rSetL:V -> V -> V -> Hp -> (Hp -> Prop) -> Prop:=fun o i v H Q=>∃ p xs k j,o = .ref p /\ i = .int k /\ H p = some (.lst xs) /\ ixN xs.length k = some j /\ Q (upd H p (.lst (xs.set j v)))
theorem set_list:PSet X rSetL:=by
 intro pins s σ H o i v ov iv u Q I ro ri rv h
 obtain ⟨p,xs,k,j,rfl,rfl,hp,hj,q⟩:=h
 cases ro
 obtain ⟨t,rfl⟩:=ri
 obtain ⟨its,n,r,ho,hz⟩:=I.lst hp
 obtain ⟨h1,h2,h3,h4⟩:=ixN_seq hj
 have hl:=r.length
 have hn:=line63
 have I':Inv X pins σ (upd H p (.lst (xs.set j v))) { s with heap:=s.heap.update p (Obj.mapSeq (·.setIfInBounds j u)) }:=
  I.lstUpd hp ho (mapSeq_set its n j u) (r.set rv j) (by rw [List.length_set]; exact hz) s.toks
 by_cases h0:0 <= k
 ·have hk:k.toNat = j:=by
   rw [seqIndex_of h0 h4] at h1
   exact Option.some.inj h1
  exact PySem.W.ki_setAt ho h0 (by omega) (by rw [List.size_toArray,<- hl]; exact h4) (by rw [hk]; exact ⟨_,I',q⟩)
 ·have hk:(k + (its.toArray.size:Int)).toNat = j:=by
   rw [seqIndex_neg (by omega) h3] at h1
   rw [List.size_toArray,<- hl]
   exact Option.some.inj h1
  exact PySem.W.ki_setBack ho (by omega) (by rw [List.size_toArray,<- hl]; exact h3) (by omega) (by rw [hk]; exact ⟨_,I',q⟩)
theorem slice_bounds (lo hi:Option Int) (n:Nat):(sliceBounds lo hi none n).1 = ((HT.sIx n 0 lo:Nat):Int) /\ (sliceBounds lo hi none n).2.1 = ((HT.sIx n n hi:Nat):Int) /\ (sliceBounds lo hi none n).2.2 = 1:=by
 refine ⟨?_,?_,rfl⟩
 ·cases lo with
  | none=>simp [sliceBounds,HT.sIx]
  | some i=>
   simp only [sliceBounds,HT.sIx,Option.getD_none,show (1:Int) > 0 by decide,if_true]
   by_cases h:i < 0
   ·simp only [h,if_true] <;> omega
   ·simp only [h,if_false] <;> omega
 ·cases hi with
  | none=>simp [sliceBounds,HT.sIx]
  | some i=>
   simp only [sliceBounds,HT.sIx,Option.getD_none,show (1:Int) > 0 by decide,if_true]
   by_cases h:i < 0
   ·simp only [h,if_true] <;> omega
   ·simp only [h,if_false] <;> omega
theorem slicePick_cut (its:List Value) (lo hi:Option Int):slicePick its.toArray lo hi none = ((its.drop (HT.sIx its.length 0 lo)).take (HT.sIx its.length its.length hi - HT.sIx its.length 0 lo)).toArray:=by
 obtain ⟨h1,h2,h3⟩:=slice_bounds lo hi its.toArray.size
 unfold slicePick
 rw [h1,h2,h3]
 simp only [sliceRange_one,pick_run,List.size_toArray] <;> rfl
noncomputable def rSlL (K:Frag):V -> Option Int -> Option Int -> Hp -> VK -> Prop:=fun x lo hi H Q=>∃ a xs,x = .ref a /\ SqL K H a xs /\ ∀ p,H p = none -> Q (.ref p) (upd H p (.lst (cutV xs lo hi)))
theorem sl_list:SlR X (rSlL X.K):=by
 intro pins s σ H x v vl vu lo hi sl Q I rx hs pl pu h
 obtain ⟨a,xs,rfl,hx,q⟩:=h
 cases rx
 obtain ⟨its,r,ht,hz⟩:=I.list hx
 have hlen:=r.length
 refine ⟨"list",_,slot_list_getitem.lookup,ht.isList.typeIs,?_⟩
 refine wpAny_getItem_list_slice ht.isList hs pl pu .none (by simp) ?_ (by rw [List.size_toArray] <;> omega)
 rw [slicePick_cut,<- hlen]
 refine ⟨.ref s.heap.objs.size,_,I.laid (t':=s.toks) (o:=.lst (cutV xs lo hi)) (fun b ob q=>Heap.get?_push_of_some _ q) (Nat.le_refl _) ?_,rfl,q _ (I.hok.fresh (Nat.le_refl _))⟩
 exact ⟨Nat.le_trans (cutV_length xs lo hi) hz,_,0,(r.drop (HT.sIx xs.length 0 lo)).take (HT.sIx xs.length xs.length hi - HT.sIx xs.length 0 lo),Heap.get?_push_size _ rfl⟩
noncomputable def flatV:V -> Bool
 | .non=>true
 | .bl _=>true
 | .int _=>true
 | .str _=>true
 | _=>false
noncomputable def eqV:V -> V -> Bool
 | .non,.non=>true
 | .bl a,.bl b=>a == b
 | .bl a,.int b=>(if a then 1 else 0) == b
 | .int a,.bl b=>a == (if b then 1 else 0)
 | .int a,.int b=>a == b
 | .str a,.str b=>a == b
 | _,_=>false
theorem eqAt_V {A:Around} {s:Shared} {y x:V} {u v:Value} (ry:RelV y u) (rx:RelV x v) (fy:flatV y = true) (fx:flatV x = true):SeqAt.EqAt A s u v (eqV y x):=by
 cases y with
 | non=>
  cases ry
  cases x with
  | non=>cases rx; exact SeqAt.EqAt.same _
  | bl b=>cases rx; exact SeqAt.EqAt.none_bool b
  | int b=>obtain ⟨t,rfl⟩:=rx; exact SeqAt.EqAt.none_int b t
  | str b=>obtain ⟨t,rfl⟩:=rx; exact SeqAt.EqAt.none_str b t
  | _=>exact absurd (show false = true from fx) Bool.false_ne_true
 | bl a=>
  cases ry
  cases x with
  | non=>cases rx; exact SeqAt.EqAt.bool_none a
  | bl b=>cases rx; exact SeqAt.EqAt.bool_bool a b
  | int b=>obtain ⟨t,rfl⟩:=rx; exact SeqAt.EqAt.bool_int a b t
  | str b=>obtain ⟨t,rfl⟩:=rx; exact SeqAt.EqAt.bool_str a b t
  | _=>exact absurd (show false = true from fx) Bool.false_ne_true
 | int a=>
  obtain ⟨t',rfl⟩:=ry
  cases x with
  | non=>cases rx; exact SeqAt.EqAt.int_none a t'
  | bl b=>cases rx; exact SeqAt.EqAt.int_bool a t' b
  | int b=>obtain ⟨t,rfl⟩:=rx; exact SeqAt.EqAt.int_int a t' b t
  | str b=>obtain ⟨t,rfl⟩:=rx; exact SeqAt.EqAt.int_str a t' b t
  | _=>exact absurd (show false = true from fx) Bool.false_ne_true
 | str a=>
  obtain ⟨t',rfl⟩:=ry
  cases x with
  | non=>cases rx; exact SeqAt.EqAt.str_none a t'
  | bl b=>cases rx; exact SeqAt.EqAt.str_bool a t' b
  | int b=>obtain ⟨t,rfl⟩:=rx; exact SeqAt.EqAt.str_int a t' b t
  | str b=>obtain ⟨t,rfl⟩:=rx; exact SeqAt.EqAt.str_str a t' b t
  | _=>exact absurd (show false = true from fx) Bool.false_ne_true
 | _=>exact absurd (show false = true from fy) Bool.false_ne_true
noncomputable def eqU (x:V) (u:Value):Bool:=match u with
 | .none=>eqV .non x
 | .bool b=>eqV (.bl b) x
 | .int i _=>eqV (.int i) x
 | .str z _=>eqV (.str z) x
 | _=>false
theorem eqU_of {x y:V} {u:Value} (r:RelV y u) (f:flatV y = true):eqU x u = eqV y x:=by
 cases y with
 | non=>cases r; rfl
 | bl b=>cases r; rfl
 | int i=>obtain ⟨t,rfl⟩:=r; rfl
 | str z=>obtain ⟨t,rfl⟩:=r; rfl
 | _=>exact absurd (show false = true from f) Bool.false_ne_true
theorem any_eqU {x:V}:∀ {xs:List V} {us:List Value},Vals xs us -> xs.all flatV = true -> us.any (eqU x) = xs.any fun y=>eqV y x
 | _,_,.nil,_=>rfl
 | y :: xs,u :: us,.cons r t,f=>by
  rw [List.all_cons,Bool.and_eq_true] at f
  rw [List.any_cons,List.any_cons,eqU_of r f.1,any_eqU t f.2]
theorem mem_eqAt {A:Around} {s:Shared} {x:V} {v:Value} (rx:RelV x v) (fx:flatV x = true):∀ {xs:List V} {us:List Value},Vals xs us -> xs.all flatV = true -> ∀ u ∈ us,SeqAt.EqAt A s u v (eqU x u)
 | _,_,.nil,_=>fun u hu=>by cases hu
 | y :: xs,u :: us,.cons r t,f=>fun u' hu=>by
  rw [List.all_cons,Bool.and_eq_true] at f
  rcases List.mem_cons.mp hu with rfl | hu
  ·rw [eqU_of r f.1]; exact eqAt_V r rx f.1 fx
  ·exact mem_eqAt rx fx t f.2 u' hu
noncomputable def inV (x:V) (xs:List V):Bool:=xs.any fun y=>eqV y x
noncomputable def rIn (K:Frag) (neg:Bool):R2:=fun x y H Q=>∃ p xs,y = .ref p /\ (SqL K H p xs \/ SqT K H p xs) /\ flatV x = true /\ xs.all flatV = true /\ Q (.bl (if neg then !inV x xs else inV x xs)) H
theorem op_in_seq:OpR X (compareOp .In) (rIn X.K false):=by
 intro pins s σ H x y v u Q I rx ry h
 obtain ⟨p,xs,rfl,hq,fx,fs,q⟩:=h
 cases ry
 rcases hq with hq | hq
 ·obtain ⟨its,r,pl,hz⟩:=I.list hq
  refine SeqAt.in_listAt (eqU x) pl.isList (fun w hw=>mem_eqAt rx fx r fs w (by simpa using hw)) ⟨.bl _,H,I,rfl,?_⟩
  rw [show its.toArray.any (eqU x) = its.any (eqU x) by simp,any_eqU r fs]
  exact q
 ·obtain ⟨its,r,pl,hz⟩:=I.tuple hq
  refine SeqAt.in_tupleAt (eqU x) pl (fun w hw=>mem_eqAt rx fx r fs w (by simpa using hw)) ⟨.bl _,H,I,rfl,?_⟩
  rw [show its.toArray.any (eqU x) = its.any (eqU x) by simp,any_eqU r fs]
  exact q
theorem op_notIn_seq:OpR X (compareOp .NotIn) (rIn X.K true):=by
 intro pins s σ H x y v u Q I rx ry h
 obtain ⟨p,xs,rfl,hq,fx,fs,q⟩:=h
 cases ry
 rcases hq with hq | hq
 ·obtain ⟨its,r,pl,hz⟩:=I.list hq
  refine SeqAt.notIn_listAt (eqU x) pl.isList (fun w hw=>mem_eqAt rx fx r fs w (by simpa using hw)) ⟨.bl _,H,I,rfl,?_⟩
  rw [show its.toArray.any (eqU x) = its.any (eqU x) by simp,any_eqU r fs]
  exact q
 ·obtain ⟨its,r,pl,hz⟩:=I.tuple hq
  refine SeqAt.notIn_tupleAt (eqU x) pl (fun w hw=>mem_eqAt rx fx r fs w (by simpa using hw)) ⟨.bl _,H,I,rfl,?_⟩
  rw [show its.toArray.any (eqU x) = its.any (eqU x) by simp,any_eqU r fs]
  exact q
theorem call_len_seq:CallR X (.builtin "len") (fun xs H Q=>∃ p ys,xs = [.ref p] /\ (SqL X.K H p ys \/ SqT X.K H p ys) /\ Q (.int ys.length) H):=by
 intro pins s σ H xs us Q I r h
 obtain ⟨p,ys,rfl,hq,q⟩:=h
 obtain ⟨u,rfl,rx⟩:=vals1 r
 cases rx
 have hn:=line63
 rcases hq with hq | hq
 ·obtain ⟨its,r',pl,hz⟩:=I.list hq
  have hlen:=r'.length
  exact Calls.call_len_list pl.isList (by simp only [List.size_toArray] <;> omega) ⟨.int ys.length,H,I.tok _,⟨s.toks + 1,by rw [List.size_toArray,hlen]⟩,q⟩
 ·obtain ⟨its,r',pl,hz⟩:=I.tuple hq
  have hlen:=r'.length
  exact len_tuple pl (by simp only [List.size_toArray] <;> omega) ⟨.int ys.length,H,I.tok _,⟨s.toks + 1,by rw [List.size_toArray,hlen]⟩,q⟩
theorem call_len_str:CallR X (.builtin "len") (fun xs H Q=>∃ z,xs = [.str z] /\ z.length <= sizeLine /\ Q (.int z.length) H):=by
 intro pins s σ H xs us Q I r h
 obtain ⟨z,rfl,hz,q⟩:=h
 obtain ⟨u,rfl,t,rfl⟩:=vals1 r
 have hn:=line63
 exact len_str (by omega) ⟨.int z.length,H,I.tok _,⟨_,rfl⟩,q⟩
theorem CallR.or {f:Value} {r r':List V -> Hp -> VK -> Prop} (h:CallR X f r) (h':CallR X f r'):CallR X f (fun xs H Q=>r xs H Q \/ r' xs H Q):=by
 intro pins s σ H xs us Q I rs q
 rcases q with q | q
 ·exact h pins s σ H xs us Q I rs q
 ·exact h' pins s σ H xs us Q I rs q
theorem call_list_of:CallR X (.type "list") (fun xs H Q=>∃ p ys,xs = [.ref p] /\ (SqL X.K H p ys \/ SqT X.K H p ys) /\ ∀ l,H l = none -> Q (.ref l) (upd H l (.lst ys))):=by
 intro pins s σ H xs us Q I r h
 obtain ⟨p,ys,rfl,hq,q⟩:=h
 obtain ⟨u,rfl,rx⟩:=vals1 r
 cases rx
 have fin:∀ (its:List Value),Vals ys its -> ys.length <= sizeLine -> ∀ (h':Heap) (c':Nat),(∀ b o',s.heap.get? b = some o' -> h'.get? b = some o') ->
   h'.get? s.heap.objs.size = some { cls:=.type "list",dict:=none,data:=.seq its.toArray c',slots:=#[] } -> EP X pins σ Q (.ref s.heap.objs.size) { s with heap:=h' }:=fun its r' hz h' c' kp e=>
  ⟨.ref s.heap.objs.size,_,I.laid (t':=s.toks) kp (Nat.le_refl _) (show ObjOk X.prog X.w _ h' _ (.lst ys) from ⟨hz,its,c',r',e⟩),rfl,q _ (I.hok.fresh (Nat.le_refl _))⟩
 rcases hq with hq | hq
 ·obtain ⟨its,r',pl,hz⟩:=I.list hq
  have hlen:=r'.length
  obtain ⟨o,ho,hc,n,hd⟩:=pl.isList
  exact call_list_seq p (.inl rfl) ho hc hd (fun h' c' kp e=>fin its r' hz h' c' kp e) (by simp only [List.size_toArray] <;> omega)
 ·obtain ⟨its,r',pl,hz⟩:=I.tuple hq
  have hlen:=r'.length
  obtain ⟨o,ho,hc,n,hd⟩:=pl
  exact call_list_seq p (.inr rfl) ho hc hd (fun h' c' kp e=>fin its r' hz h' c' kp e) (by simp only [List.size_toArray] <;> omega)
theorem call_tuple_of:CallR X (.type "tuple") (fun xs H Q=>∃ p ys,xs = [.ref p] /\ ((SqL X.K H p ys /\ ∀ l,H l = none -> Q (.ref l) (upd H l (.tup ys))) \/ (SqT X.K H p ys /\ Q (.ref p) H))):=by
 intro pins s σ H xs us Q I r h
 obtain ⟨p,ys,rfl,h⟩:=h
 obtain ⟨u,rfl,rx⟩:=vals1 r
 cases rx
 rcases h with ⟨hq,q⟩ | ⟨hq,q⟩
 ·obtain ⟨its,r',pl,hz⟩:=I.list hq
  have hlen:=r'.length
  refine call_tuple_list pl.isList (fun h' kp=>?_) (by simp only [List.size_toArray] <;> omega)
  have I1:Inv X pins σ H { s with heap:=h' }:=I.kept (t':=s.toks) kp
  have I2:Inv X pins σ (upd H h'.objs.size (.tup ys)) { s with heap:=h'.push { cls:=.type "tuple",data:=.seq its.toArray } }:=
   I1.laid (t':=s.toks) (fun b o e=>Heap.get?_push_of_some _ e) (Nat.le_refl _) (show ObjOk X.prog X.w _ _ _ (.tup ys) from ⟨hz,its,r',IsTup.new _ _⟩)
  exact ⟨.ref h'.objs.size,_,I2,rfl,q _ (I1.hok.fresh (Nat.le_refl _))⟩
 ·obtain ⟨its,r',pl,hz⟩:=I.tuple hq
  exact call_tuple_same pl ⟨.ref p,H,I,rfl,q⟩
def tyV (K:Frag) (T:String) (x:V) (H:Hp):Prop:=match x with
 | .str _=>T = "str"
 | .int _=>T = "int"
 | .ref p=>(T = "list" /\ ∃ xs,SqL K H p xs) \/ (T = "tuple" /\ ∃ o,K.lookup p = some o /\ o.cls = .type "tuple" /\ o.dict = none) \/
   (T = "dict" /\ ((∃ kvs,H p = some (.dK kvs)) \/ ∃ kvs,H p = some (.dT kvs))) \/ (T = "set" /\ ∃ S n,H p = some (.set S n))
 | _=>False
theorem tyV_is {pins:List (Addr × Obj)} {σ:St} {H:Hp} {s:Shared} {T:String} {x:V} {v:Value} (I:Inv X pins σ H s) (r:RelV x v) (ty:tyV X.K T x H):
  s.TypeIs v T /\ ∀ a,v = .ref a -> ∃ ob,s.heap.get? a = some ob /\ ob.dict = none:=by
 cases x with
 | str z=>
  obtain ⟨t,rfl⟩:=r
  cases (show T = "str" from ty)
  exact ⟨typeIs_str s z t,fun _ e=>nomatch e⟩
 | int i=>
  obtain ⟨t,rfl⟩:=r
  cases (show T = "int" from ty)
  exact ⟨typeIs_int s i t,fun _ e=>nomatch e⟩
 | ref p=>
  cases r
  rcases ty with ⟨rfl,xs,hq⟩ | ⟨rfl,o,hk,hc,hd⟩ | ⟨rfl,hk⟩ | ⟨rfl,S,n,hk⟩
  ·obtain ⟨its,_,pl,_⟩:=I.list hq
   refine ⟨pl.isList.typeIs,fun a e=>?_⟩
   cases e
   obtain ⟨o,n,e,c,hd,_⟩:=pl
   exact ⟨o,e,hd⟩
  ·refine ⟨⟨o,I.kIn p o hk,hc⟩,fun a e=>?_⟩
   cases e
   exact ⟨o,I.kIn _ o hk,hd⟩
  ·have z:∃ o,s.heap.get? p = some o /\ o.ExactDict:=by
    rcases hk with ⟨kvs,hk⟩ | ⟨kvs,hk⟩
    ·obtain ⟨_,_,_,_,o,_,_,e,ex,_⟩:=I.hok p _ hk
     exact ⟨o,e,ex⟩
    ·obtain ⟨_,_,_,_,o,_,_,e,ex,_⟩:=I.hok p _ hk
     exact ⟨o,e,ex⟩
   obtain ⟨o,e,ex⟩:=z
   refine ⟨⟨o,e,ex.1⟩,fun a e2=>?_⟩
   cases e2
   exact ⟨o,e,ex.2.1⟩
  ·obtain ⟨o,_,_,_,e,ex,_⟩:=I.hok p _ hk
   refine ⟨⟨o,e,ex.1⟩,fun a e2=>?_⟩
   cases e2
   exact ⟨o,e,ex.2.1⟩
 | _=>exact False.elim ty
noncomputable def tBM (K:Frag) (T:String) (r:V -> List V -> Hp -> VK -> Prop) (to:TE) (t:TA):TE:=fun σ H Q=>to σ H fun x H1=>tyV K T x H1 /\ t σ H1 fun xs H2=>r x xs H2 Q
variable {o e:Expr} {es:List Expr} {to:TE} {t:TA} {name:Str} {apos cpos:Pos} {T id:String} {r:V -> List V -> Hp -> VK -> Prop}
theorem pe_bm (pa:PlainAttrs T) (slot:Slot T name id) (hty:typeOf (.builtin id) = pure (.type "method_descriptor")) (hm:MtR X id r) (ho:PE X o to) (ha:PA X (e :: es) t)
  (hbase:attributeBase o name X.env (eval o X.env) = eval o X.env:=by rfl)
  (hfew:((backTo cpos (starEach (e :: es) X.env)).all (fun x=>!x.1) && (backToKw cpos (keywordEach [] X.env)).all (fun x=>x.1.isSome)
   && decide ((e :: es).length + ([]:List Keyword).length + (if ([]:List Keyword).isEmpty then 0 else 1) < 30)) = true:=by rfl)
  (hline:(apos.endLine == cpos.line) = true:=by rfl) (hs:starEach (e :: es) X.env = (false,eval e X.env) :: starEach es X.env:=by rfl) (hplain:(backTo cpos (starEach es X.env)).any (·.1) = false:=by rfl):
  PE X (.Call (.Attribute o name apos) (e :: es) [] cpos) (tBM X.K T r to t):=by
 intro pins s σ H Q I h
 refine wpAny_Call_method_late hbase hfew hline rfl (thn (ho pins s σ H _ I h) fun v s1 ⟨x,H1,I1,r1,ty,q1⟩=>?_)
 obtain ⟨h1,h2⟩:=tyV_is I1 r1 ty
 refine ⟨T,id,pa,slot,hty,h1,h2,?_⟩
 have hA:=ha cpos pins s1 σ H1 _ I1 q1
 rw [hs] at hA ⊢
 refine Calls.callWith_builtin (by show (false || (backTo cpos (starEach es X.env)).any (·.1)) = false; rw [hplain] <;> rfl) (Calls.evalArgs_plain ?_)
 exact thn hA fun us s2 ⟨vs,H2,I2,r2,q2⟩=>hm pins s2 σ H2 x vs v us Q I2 r1 r2 q2
end
def MtM (X:Cx) (id:String) (r:V -> List V -> Hp -> VK -> Prop):Prop:=
 ∀ (pins:List (Addr × Obj)) (s:Shared) (σ:St) (H:Hp) (x:V) (xs:List V) (v:Value) (us:List Value) (Q:VK),Inv X pins σ H s -> RelV x v -> Vals xs us -> r x xs H Q ->
  wpAny (model X.prog X.w) X.A (call (.builtin id) (v :: us)) (EP X pins σ Q) X.xe s
theorem Vals.one:∀ {x:V} {us:List Value},Vals [x] us -> ∃ u,us = [u] /\ RelV x u
 | _,_,.cons r .nil=>⟨_,rfl,r⟩
theorem Vals.two:∀ {x y:V} {us:List Value},Vals [x,y] us -> ∃ u v,us = [u,v] /\ RelV x u /\ RelV y v
 | _,_,_,.cons r (.cons q .nil)=>⟨_,_,rfl,r,q⟩
theorem Vals.zero:∀ {us:List Value},Vals [] us -> us = []
 | _,.nil=>rfl
theorem Vals.dropLast {xs:List V} {us:List Value} (h:Vals xs us):Vals xs.dropLast us.dropLast:=by
 induction h with
 | nil=>exact .nil
 | cons r t ih=>
  cases t with
  | nil=>exact .nil
  | cons q t'=>exact .cons r ih
theorem Vals.eraseIdx:∀ {xs:List V} {us:List Value} (i:Nat),Vals xs us -> Vals (xs.eraseIdx i) (us.eraseIdx i)
 | _,_,_,.nil=>.nil
 | _,_,0,.cons _ t=>t
 | _,_,i + 1,.cons r t=>.cons r (Vals.eraseIdx i t)
theorem Vals.reverse {xs:List V} {us:List Value} (h:Vals xs us):Vals xs.reverse us.reverse:=by
 induction h with
 | nil=>exact .nil
 | cons r t ih=>rw [List.reverse_cons,List.reverse_cons]; exact Vals.append ih (.cons r .nil)
theorem Vals.rep {xs:List V} {us:List Value} (h:Vals xs us):∀ k:Nat,Vals (List.replicate k xs).flatten (List.replicate k us).flatten
 | 0=>.nil
 | k + 1=>by
  rw [List.replicate_succ,List.replicate_succ,List.flatten_cons,List.flatten_cons]
  exact Vals.append h (Vals.rep h k)
theorem foldl_rep (its:List Value):∀ (k:Nat) (acc:List Value),
  List.foldl (fun x1 x2=>x1 ++ x2) acc.toArray (List.replicate k its.toArray) = (acc ++ (List.replicate k its).flatten).toArray
 | 0,acc=>by simp
 | k + 1,acc=>by
  have e:acc.toArray ++ its.toArray = (acc ++ its).toArray:=by simp
  have e2:(acc ++ its) ++ (List.replicate k its).flatten = acc ++ (List.replicate (k + 1) its).flatten:=by
   rw [List.replicate_succ,List.flatten_cons,List.append_assoc]
  rw [<- e2,<- foldl_rep its k (acc ++ its),<- e,List.replicate_succ,List.foldl_cons]
section
variable {X:Cx} {pins:List (Addr × Obj)} {σ:St} {H:Hp} {s:Shared} {l b:Addr} {xs ys zs:List V}
theorem Inv.lset {its its':List Value} {n:Nat} {f:Array Value -> Array Value} {t':Nat} (I:Inv X pins σ H s) (hH:H l = some (.lst xs))
  (e:s.heap.get? l = some { cls:=.type "list",data:=.seq its.toArray n }) (hf:f its.toArray = its'.toArray) (hv:Vals ys its') (hz:ys.length <= sizeLine) (ht:0 < t':=by first | assumption | exact Nat.succ_pos _ | (apply Inv.tk; assumption) | omega):
  Inv X pins σ (upd H l (.lst ys)) { s with heap:=s.heap.update l (Obj.mapSeq f),toks:=t' }:=by
 have q:=PySem.IsL.update e f
 rw [hf] at q
 refine I.write (x:=l) (e:=l) (by rw [hH]; exact trivial) (.inl rfl) (fun b' u hb hu=>(Heap.get?_update_other s.heap (Obj.mapSeq f) (Ne.symm hb)).trans hu) ⟨_,q⟩ ?_
 exact ⟨hz,its',_,hv,q⟩
theorem Inv.lnew {its:List Value} {t':Nat} (I:Inv X pins σ H s) (hv:Vals ys its) (hz:ys.length <= sizeLine) (ht:0 < t':=by first | assumption | exact Nat.succ_pos _ | (apply Inv.tk; assumption) | omega):
  Inv X pins σ (upd H s.heap.objs.size (.lst ys)) { s with heap:=s.heap.push { cls:=.type "list",data:=.seq its.toArray },toks:=t' }:=
 I.laid (fun _ _ q=>Heap.get?_push_of_some _ q) (Nat.le_refl _) ⟨hz,its,0,hv,Heap.get?_push_size _ rfl⟩
theorem Inv.fresh (I:Inv X pins σ H s):H s.heap.objs.size = none:=I.hok.fresh (Nat.le_refl _)
theorem Inv.lstM (I:Inv X pins σ H s) (hH:H l = some (.lst xs)):xs.length <= sizeLine /\ ∃ (its:List Value) (n:Nat),Vals xs its /\ xs.length = its.length /\ s.heap.get? l = some { cls:=.type "list",data:=.seq its.toArray n }:=by
 obtain ⟨z,its,n,r,e⟩:=I.hok l _ hH
 exact ⟨z,its,n,r,r.length,e⟩
theorem notLongL {n:Nat} (h:n <= sizeLine):Builtin.List.listTooLong n = false:=by
 unfold Builtin.List.listTooLong
 exact decide_eq_false (by omega)
end
section
variable {X:Cx}
noncomputable def rAppend:V -> List V -> Hp -> VK -> Prop:=fun x vs H Q=>∃ l xs y,x = .ref l /\ vs = [y] /\ H l = some (.lst xs) /\ xs.length < sizeLine /\ Q .non (upd H l (.lst (xs ++ [y])))
theorem mt_append:MtM X "list.append" rAppend:=by
 intro pins s σ H x vs v us Q I rx rv h
 obtain ⟨l,xs,y,rfl,rfl,hH,hz,q⟩:=h
 cases rx
 obtain ⟨u,rfl,ru⟩:=rv.one
 obtain ⟨z,its,n,r,hl,e⟩:=I.lstM hH
 refine call_meets F.slot_list_append ⟨_,e,rfl⟩ F.entry_list_append (F.args_list_append_2 _ _) (PySem.list_append l its.toArray n u (by rw [List.size_toArray]; omega)) ⟨e,?_⟩
 refine ⟨.non,_,I.lset (its':=its ++ [u]) hH e (by simp) (r.append (.cons ru .nil)) ?_,rfl,q⟩
 rw [List.length_append,List.length_singleton]
 omega
noncomputable def rCat:R2:=fun x y H Q=>∃ l b xs zs,x = .ref l /\ y = .ref b /\ H l = some (.lst xs) /\ H b = some (.lst zs) /\ xs.length + zs.length <= sizeLine /\ ∀ p,H p = none -> Q (.ref p) (upd H p (.lst (xs ++ zs)))
theorem op_cat:OpR X (binaryOp .Add) rCat:=by
 intro pins s σ H x y v u Q I rx ry h
 obtain ⟨l,b,xs,zs,rfl,rfl,hH,hB,hz,q⟩:=h
 cases rx
 cases ry
 obtain ⟨z,its,n,r,hl,e⟩:=I.lstM hH
 obtain ⟨z2,its2,n2,r2,hl2,e2⟩:=I.lstM hB
 refine PySem.P.add_list e e2 ?_ (by rw [List.size_toArray,List.size_toArray]; omega)
 have ea:its.toArray ++ its2.toArray = (its ++ its2).toArray:=by simp
 rw [ea]
 exact ⟨.ref _,_,I.lnew (t':=s.toks) (r.append r2) (by rw [List.length_append]; omega),rfl,q _ I.fresh⟩
noncomputable def rRep:R2:=fun x y H Q=>∃ l k xs,x = .ref l /\ y = .int k /\ H l = some (.lst xs) /\ -(2 ^ 63) <= k /\ k < 2 ^ 63 /\ xs.length * k.toNat <= sizeLine /\
 ∀ p,H p = none -> Q (.ref p) (upd H p (.lst (List.replicate k.toNat xs).flatten))
theorem len_rep {α:Type} (xs:List α) (k:Nat):(List.replicate k xs).flatten.length = k * xs.length:=by
 induction k with
 | zero=>simp
 | succ k ih=>rw [List.replicate_succ,List.flatten_cons,List.length_append,ih,Nat.succ_mul,Nat.add_comm]
theorem op_rep:OpR X (binaryOp .Mult) rRep:=by
 intro pins s σ H x y v u Q I rx ry h
 obtain ⟨l,k,xs,rfl,rfl,hH,h1,h2,hz,q⟩:=h
 cases rx
 obtain ⟨t,rfl⟩:=ry
 obtain ⟨z,its,n,r,hl,e⟩:=I.lstM hH
 have hlen:its.toArray.size * k.toNat <= sizeLine:=by rw [List.size_toArray,<- hl]; exact hz
 have hcap:¬ its.toArray.size * k.toNat > (2 ^ 63 - 1) / 8:=by
  have:(sizeLine:Nat) <= (2 ^ 63 - 1) / 8:=by decide
  omega
 have hfit:¬ (!Builtin.List.listFitsIndex k) = true:=by
  rw [fitsIndex_both h1 h2]
  exact Bool.false_ne_true
 have hlong:¬ Builtin.List.listTooLong (its.toArray.size * k.toNat) = true:=by
  rw [notLongL hlen]
  exact Bool.false_ne_true
 have hnew:List.foldl (fun x1 x2=>x1 ++ x2) #[] (List.replicate (if its.toArray.isEmpty = true then 0 else k.toNat) its.toArray) = (List.replicate k.toNat its).flatten.toArray:=by
  have f0:∀ m:Nat,List.foldl (fun x1 x2=>x1 ++ x2) #[] (List.replicate m its.toArray) = (List.replicate m its).flatten.toArray:=fun m=>by
   have:=foldl_rep its m []
   rw [List.nil_append] at this
   exact this
  rw [f0]
  cases its with
  | nil=>simp
  | cons a r'=>rw [if_neg (by simp)]
 refine wpAny_binaryOp_repeat_ref (T := "list") (U := "int") (by decide) ⟨_,e,rfl⟩ (fun s'=>typeIs_int s' k t) noFill_list_mul F.fills_int_mul F.slot_int_rmul repeat_list F.slot_int_index.lookup
  (call_meets F.slot_int_rmul (typeIs_int s k t) F.entry_int_rmul (F.args_int_rmul_2 _ _) (int___rmul___int_list k t l its.toArray n)
   ⟨e,rfl,⟨_,e,rfl⟩,call_meets F.slot_list_mul ⟨_,e,rfl⟩ F.entry_list_mul (F.args_list_mul_2 _ _) (AutoListH.list___mul___list_int_3 l its.toArray n k t hfit hcap hlong) ⟨e,?_⟩⟩)
 rw [hnew]
 exact ⟨.ref _,_,I.lnew (t':=s.toks) (r.rep k.toNat) (by rw [len_rep,Nat.mul_comm]; exact hz),rfl,q _ I.fresh⟩
end
section
variable {prog:Program} {w:World} {A:Around} {E:Value -> Shared -> Prop} {s:Shared}
end
section
variable {X:Cx}
end
end L2
namespace Att
open PySem PySem.W PySem.Calls PyProof.Rows
theorem ints_of_wellAll {P:Params} {h:Heap}:∀ (ns:List Int) (vs:List Value),WellAll P h vs (ns.map WData.int) -> IntsAre vs ns:=by
 intro ns
 induction ns with
 | nil=>
  intro vs w
  rw [List.map_nil] at w
  cases w
  exact .nil
 | cons n ns ih=>
  intro vs w
  rw [List.map_cons] at w
  cases w with
  | cons a b=>
   cases a
   exact .cons _ _ (ih _ b)
theorem script_of {l:OpenLaw} {n:Nat} (hn:l.most = some n) {P:Params} {h:Heap} {args:List WData} {vals:List Value}
  (hpre:l.row.toRowW.claim.pre args = true) (hwl:WellAll P h vals args):
  ∃ a vs ns,vals = [Value.ref a] /\ args = [WData.list (ns.map WData.int)] /\ h.get? a = some { cls:=.type "list",data:=.seq vs.toArray } /\ IntsAre vs ns /\ ns.length <= n:=by
 have hsh:WShape.hasAll [] args [.list .int] = true:=(pre_splitW hpre).1
 have hc:l.pre.holds [] { args:=args } = true:=(pre_splitW hpre).2
 obtain ⟨d,r,rfl,h1,h2⟩:=hasAllW_cons hsh
 obtain rfl:=hasAllW_nil h2
 obtain ⟨xs,rfl,h3⟩:=hasW_list h1
 obtain ⟨ns,rfl⟩:=items_int h3
 have hlen:ns.length <= n:=by
  unfold OpenLaw.pre at hc
  have h4:(WTm.not (.lt (.lit (.int (n:Int))) (.len (.arg 0)))).holds [] { args:=[.list (ns.map .int)] } = true:=by
   have h4:=(holds_andW hc).1
   rw [hn] at h4
   exact h4
  have h5:=condW_of h4 (w_not (w_lt w_lit (w_len_list (w_arg rfl))))
  rw [List.length_map] at h5
  refine Nat.le_of_not_lt fun q=>?_
  have q':(n:Int) < ((ns.length:Nat):Int):=by omega
  first
   | (rw [decide_eq_true q'] at h5; exact absurd h5 (by decide))
   | (simp at h5; omega)
 cases hwl with
 | cons w1 w2=>
  cases w2
  cases w1 with
  | list ho hall=>exact ⟨_,_,ns,rfl,rfl,ho,ints_of_wellAll ns _ hall,hlen⟩
theorem post_true (l:OpenLaw) (args:List WData):l.row.toRowW.claim.post args (.bool true) args = true:=
 postW_of (r:=l.row.toRowW) (X:=(true == true))
  (show WShape.has [] (.bool true) .bool = true by first | rfl | decide | simp [WShape.has,WShape.arms,WShape.armsAll])
  (show (WTm.eq .res (.lit (.bool true))).value [] { args:=args,res:=some (.bool true),after:=args } = some (.bool (true == true)) from w_eq_bool (w_res rfl) w_lit) rfl
section
variable {prog:Program} {w:World} {A:Around} {E:Value -> Shared -> Prop} {s:Shared} {K:Frag}
noncomputable def ledger (h:Heap) (L d:Addr):List (Addr × Obj):=(List.range h.objs.size).filterMap fun a=>if a = L \/ a = d then none else (h.get? a).map fun o=>(a,o)
end
end Att
namespace L2
open PySem PySem.Spec PyProof.Rows
theorem vals_ints:∀ {vs:List Value} {ns:List Int},IntsAre vs ns -> Vals (ns.map V.int) vs
 | _,_,.nil=>.nil
 | _,_,.cons n t h=>.cons ⟨t,rfl⟩ (vals_ints h)
def Only (H:Hp):Prop:=∀ b,H b = none \/ ∃ o xs,H b = some (.frz o (.lst xs))
theorem law_call {P:Program} {w:World} {K:Frag} {mg mb:Str -> Option Value} {CX:CXT} {k:Nat} {fa a:Addr} {fd:FuncData} {x:Str} {sp:Sp} {s₁:Shared} {vs:List Value} {ns:List Int}
  (KX:K.In s₁.heap) (hns:s₁.heap.Ns mainGlobals mg) (hb:s₁.heap.Ns builtinsNs mb) (hbb:∀ x:Str,x ≠ "__name__" -> mb x = bootBuiltins x) (hlim:s₁.heap.NoLimit) (hg:s₁.gens = #[]) (htk:0 < s₁.toks)
  (ha:s₁.heap.get? a = some { cls:=.type "list",data:=.seq vs.toArray }) (hi:IntsAre vs ns) (hl:ns.length <= sizeLine) (hr:Room k callerA)
  (F:∀ base:Heap,K.In base -> base.Ns mainGlobals mg -> FnOk P w K mg base CX k fa fd [x] sp) (hbind:∀ (s:Shared) (u:Value),BindsTo s fd ⟨[u],[]⟩ [(x,u)])
  (hsp:∀ H:Hp,Only H -> SqL K H a (ns.map V.int) -> sp [.ref a] H (fun v _=>v = .bl true) fun _ _ _=>False)
  (hCX:∀ H e s',CX [] H s₁ (fun _ _ _=>False) e s' -> False):
  codeAny (model P w) callerA (.call (.ref fa) ⟨[.ref a],[]⟩) (fun r s'=>r = .ok (.ret (.bool true)) /\ OldK s₁.heap s'.heap /\ s'.os = s₁.os /\ AllBare s'.gens) s₁:=by
 have rv:=vals_ints hi
 have lenV:=hi.length
 have core:∀ H:Hp,Only H -> SqL K H a (ns.map V.int) -> HOk P w H s₁.heap -> (∀ b,H b ≠ none -> b = a) -> (H a ≠ none -> K.lookup a = none) ->
   codeAny (model P w) callerA (.call (.ref fa) ⟨[.ref a],[]⟩) (fun r s'=>r = .ok (.ret (.bool true)) /\ OldK s₁.heap s'.heap /\ s'.os = s₁.os /\ AllBare s'.gens) s₁:=by
  intro H hO hS hok hA hK
  have base_of:∀ {b:Addr} {o:Obj},s₁.heap.get? b = some o -> H b = none -> (hidT s₁.heap H).get? b = some o:=fun e n=>hidT_get e n
  have noA:∀ {b:Addr} {o:Obj} {es:Array DictEntry} {ep:Nat},s₁.heap.get? b = some o -> o.data = .dict es ep -> H b = none:=fun {b o es ep} e d=>by
   cases q:H b with
   | none=>rfl
   | some u=>
    have e':b = a:=hA b (by rw [q]; simp)
    subst e'
    rw [ha] at e; cases e
    have d':Data.seq vs.toArray _ = Data.dict es ep:=d
    cases d'
  have nsK:∀ {b:Addr} {m:Str -> Option Value},s₁.heap.Ns b m -> (hidT s₁.heap H).Ns b m:=fun {b m} ⟨o,es,ep,e,d,r⟩=>⟨o,es,ep,base_of e (noA e d),d,r⟩
  have hKb:K.In (hidT s₁.heap H):=fun b o e=>base_of (KX b o e) (by
   cases q:H b with
   | none=>rfl
   | some u=>
    have e':b = a:=hA b (by rw [q]; simp)
    subst e'
    rw [hK (by rw [q]; simp)] at e; cases e)
  have hM:Mod K mg (hidT s₁.heap H):=⟨hKb,nsK hns,⟨mb,nsK hb,hbb⟩,let ⟨mc,h1,h2⟩:=hlim; ⟨mc,nsK h1,h2⟩⟩
  have e0:Env0 P w K mg (hidT s₁.heap H) callerA [] s₁ H:=⟨rfl,hM,fun b o e=>of_hidT e,Nat.le_of_eq (hidT_size _ _),trivial,fun b hb=>absurd (show b ∈ ([]:List Addr) from hb) (by simp),hok,.of_eq hg,htk⟩
  refine codeAny_mono ((F _ hKb (nsK hns)).run callerA [] s₁ H ⟨[.ref a],[]⟩ [.ref a] [.ref a] _ _ hr e0 (hbind s₁ (.ref a)) (.cons rfl .nil) (hsp H hO hS)) fun r s' h=>?_
  cases r with
  | error e=>exact (hCX H e s' h).elim
  | ok fl=>
   cases fl with
   | next=>exact False.elim h
   | brk=>exact False.elim h
   | cont=>exact False.elim h
   | ret u=>
    obtain ⟨v,H',_,os,bare,un,hok',r',q⟩:=h
    have q':v = .bl true:=q
    subst q'
    obtain rfl:u = Value.bool true:=r'
    refine ⟨rfl,OldK.of_keep fun b o e=>?_,os,bare⟩
    cases q:H b with
    | none=>exact un.keep b o e q (by intro z; exact absurd (show b ∈ ([]:List Addr) from z) (by simp)) (by simp)
    | some u=>
     rcases hO b with z | ⟨ob,xs,z⟩
     ·rw [q] at z; cases z
     ·have z2:=un.frzs b ob _ z
      obtain ⟨e1,_⟩:=hok b _ z
      obtain ⟨e2,_⟩:=hok' b _ z2
      rw [e] at e1; cases e1
      exact e2
 cases hk:K.lookup a with
 | some o=>
  have e:=KX a o hk
  rw [ha] at e
  cases e
  refine core (fun _=>none) (fun _=>.inl rfl) (.inr ⟨_,vs.toArray,_,hk,rfl,rfl,rfl,by rw [List.size_toArray,lenV]; exact hl,by simpa using rv⟩) (fun b u z=>by have z':(none:Option HO) = some u:=z; cases z') (fun b z=>absurd rfl z) fun z=>absurd rfl z
 | none=>
  refine core (fun b=>if b = a then some (.frz { cls:=.type "list",data:=.seq vs.toArray } (.lst (ns.map V.int))) else none) (fun b=>?_) (.inl (.inr ⟨{ cls:=.type "list",data:=.seq vs.toArray },if_pos rfl⟩)) (fun b u z=>?_) (fun b z=>?_) fun _=>hk
  ·by_cases hb:b = a
   ·exact .inr ⟨_,_,if_pos hb⟩
   ·exact .inl (if_neg hb)
  ·by_cases hb:b = a
   ·have z':=(if_pos hb).symm.trans z
    cases z'
    subst hb
    exact ⟨ha,by rw [List.length_map]; exact hl,vs,_,rv,ha⟩
   ·have z':=(if_neg hb).symm.trans z
    cases z'
  ·by_cases hb:b = a
   ·exact hb
   ·exact absurd (if_neg hb) z
noncomputable abbrev KOf {K:Frag} {h:Heap} (_:K.In h):Frag:=K
theorem attach_callX {l:PySem.W.OpenLaw} {n:Nat} {q:Program} {loose:List Str} {XP:(Str -> Option Value) -> Heap -> Prop} {α:Type} {Yf:Shared -> α} {Ya:World -> α} {d:DefRec}
  (hn:l.most = some n) (hdf:d.params.defaults = [])
  (call:∀ (w:World) (s₀ s₁:Shared) (mg mb:Str -> Option Value) (fa a:Addr) (vs:List Value) (ns:List Int),
   PySem.W.Ground q loose [] XP w s₀ mg mb s₁.heap -> Yf s₀ = Ya w -> (∀ b o,s₀.heap.get? b = some o -> s₁.heap.get? b = some o) -> s₀.toks <= s₁.toks -> mg d.name = some (.ref fa) ->
   s₁.heap.get? a = some { cls:=.type "list",data:=.seq vs.toArray } -> IntsAre vs ns -> ns.length <= n -> s₁.gens = #[] ->
   codeAny (model l.prog w) callerA (.call (.ref fa) ⟨[.ref a],[]⟩) (fun r s'=>r = .ok (.ret (.bool true)) /\ OldK s₁.heap s'.heap /\ s'.os = s₁.os /\ AllBare s'.gens) s₁):
  PySem.W.WalkX q loose XP Yf Ya l.row.toRowW d [] (fun f vs=>PySem.call f vs):=by
 intro w s₀ s₁ mg mb G Y fa o pm cd doc dV kV ho hd hcd hD hmg hg args vals as L hpre hlay hrd hwl hlo
 obtain ⟨a,vs,ns,rfl,rfl,hobj,hints,hlen⟩:=Att.script_of hn hpre hwl
 have ht:s₀.toks <= s₁.toks:=by
  obtain ⟨ord,_,e⟩:=L.laid
  exact (PySem.W.layAllW_grows _ _ _ e).toks
 refine PySem.W.enter_call (codeAny_mono (call w s₀ s₁ mg mb fa a vs ns G Y L.keeps ht hmg hobj hints hlen hg) fun r s' hq=>?_)
 obtain ⟨rfl,h2,h3,h4⟩:=hq
 exact ⟨.inl ⟨.bool true,.bool true,[],rfl,fun _=>rfl,.bool true,Att.post_true l _,fun _=>⟨List.Pairwise.nil,fun _ hm=>(nomatch hm)⟩⟩,h2,h3,h4⟩
theorem walk_ofX {l:PySem.W.OpenLaw} {n k:Nat} {q:Program} {loose:List Str} {XP:(Str -> Option Value) -> Heap -> Prop} {α:Type} {Yf:Shared -> α} {Ya:World -> α} {d:DefRec} {K:Params -> Frag} {CX:World -> CXT} {sp:World -> Sp} {x:Str}
  (hn:l.most = some n) (hn2:n <= sizeLine) (hdf:d.params.defaults = []) (hr:Room k callerA)
  (hY:∀ (w:World) (s:Shared),Yf s = Ya w -> (K w.params).In s.heap /\ 0 < s.toks)
  (F:∀ (w:World) (mg:Str -> Option Value) (fa:Addr) (h:Heap),(K w.params).In h -> h.Ns mainGlobals mg -> mg d.name = some (.ref fa) ->
   ∃ fd:FuncData,(∀ (s:Shared) (u:Value),BindsTo s fd ⟨[u],[]⟩ [(x,u)]) /\
    ∀ base:Heap,(K w.params).In base -> base.Ns mainGlobals mg -> FnOk l.prog w (K w.params) mg base (CX w) k fa fd [x] (sp w))
  (hsp:∀ (w:World) (H:Hp) (a:Addr) (ns:List Int),ns.length <= n -> Only H -> SqL (K w.params) H a (ns.map V.int) -> sp w [.ref a] H (fun v _=>v = .bl true) fun _ _ _=>False)
  (hCX:∀ (w:World) (H:Hp) (s:Shared) (e:Value) (s':Shared),CX w [] H s (fun _ _ _=>False) e s' -> False):
  PySem.W.WalkX q loose XP Yf Ya l.row.toRowW d [] (fun f vs=>PySem.call f vs):=by
 refine attach_callX hn hdf fun w s₀ s₁ mg mb fa a vs ns G Y kp ht hmg hobj hints hlen hg=>?_
 obtain ⟨K0,t0⟩:=hY w s₀ Y
 have KX:(K w.params).In s₁.heap:=fun b o e=>kp b o (K0 b o e)
 obtain ⟨fd,hb,hF⟩:=F w mg fa _ KX G.T.g hmg
 exact law_call KX G.T.g G.T.b G.T.builtins G.T.nolimit hg (Nat.lt_of_lt_of_le t0 ht) hobj hints (Nat.le_trans hlen hn2) hr hF hb (fun H hO hS=>hsp w H a ns hlen hO hS) fun H e s'=>hCX w H s₁ e s'
noncomputable def inClass (s:Stmt) (j:Nat):Stmt:=match s with
 | .ClassDef _ _ _ body _ _ _ _ _ _ _=>body.getD j (.Pass ⟨0,0,0,0⟩)
 | _=>.Pass ⟨0,0,0,0⟩
noncomputable def defArgs (s:Stmt):Arguments:=match s with
 | .FunctionDef _ a _ _ _ _ _ _ _ _=>a
 | _=>{ posonlyargs:=[],args:=[],vararg:=none,kwonlyargs:=[],kw_defaults:=[],kwarg:=none,defaults:=[] }
noncomputable def defBody (s:Stmt):List Stmt:=match s with
 | .FunctionDef _ _ b _ _ _ _ _ _ _=>b
 | _=>[]
noncomputable def defScope (s:Stmt):Scope:=match s with
 | .FunctionDef _ _ _ _ _ _ sc _ _ _=>sc
 | _=>{ kind:=.function,names:=[],isGenerator:=false,isCoroutine:=false }
noncomputable abbrev CX0:CXT:=fun _ _ _ _ _ _=>False
noncomputable abbrev E0:XK:=fun _ _ _=>False
theorem pass0 {X:Cx}:Passes CX0 X E0:=fun _ _ _ _ _ _ _ h=>h.elim
structure Fun (K:Frag) (x qual:Str) (st:Stmt) (f:Addr) (fd:FuncData):Prop where
 ex:∃ (oc:Value) (od:Option Addr) (kV doc pm:Value) (an:Option Addr) (cdv ct:Value) (osl:Array (Option Value)),
  fd = fnOf x qual (defArgs st) (defBody st) (defScope st) .none kV doc pm an cdv ct /\ K.lookup f = some ⟨oc,od,.func fd,osl⟩ /\ codeIn K cdv qual = true
 kp:keepIn K (.ref f) = true
section
variable {P:Program} {w:World} {K:Frag} {mg:Str -> Option Value} {base:Heap}
theorem Fun.ok {x qual:Str} {st:Stmt} {f:Addr} {fd:FuncData} {N ps:List Str} {k:Nat} {sp:Sp} (F:Fun K x qual st f fd) (S:FnScope N ps (defScope st)) (len:∀ vs H Q E,sp vs H Q E -> vs.length = ps.length)
  (hbody:∀ (cdv:Value) (A:Around) (outer:List Env) (s:Shared) (H:Hp) (vs:List V) (Q:VK) (E:XK),Room k (A.deeper (envOfC qual (defScope st) s.heap.objs.size f cdv)) -> sp vs H Q E ->
   ∃ t,PSs (cxOf CX0 P w K mg base N qual (defScope st) f cdv A outer s H E).nox (defBody st) t /\ t { nx:=fun _ H'=>Q .non H',rt:=Q } (start N vs) H):FnOk P w K mg base CX0 (k + 1) f fd ps sp:=by
 obtain ⟨oc,od,kV,doc,pm,an,cdv,ct,osl,rfl,lk,hcd⟩:=F.ex
 refine fn_of lk hcd S len fun A outer s H vs Q E hr hsp=>?_
 obtain ⟨t,h,q⟩:=hbody cdv A outer s H vs Q E hr hsp
 exact ⟨t,h.nox,q⟩
theorem Fun.binds {x qual:Str} {st:Stmt} {f:Addr} {fd:FuncData} {ps:List Str} (F:Fun K x qual st f fd)
  (h:∀ (kV doc pm:Value) (an:Option Addr) (cdv ct:Value) (us:List Value),us.length = ps.length -> bindArgs (fnOf x qual (defArgs st) (defBody st) (defScope st) .none kV doc pm an cdv ct) ⟨us,[]⟩ = pure (ps.zip us)):Binds K fd ps []:=by
 obtain ⟨oc,od,kV,doc,pm,an,cdv,ct,osl,rfl,lk,hcd⟩:=F.ex
 exact .all (h kV doc pm an cdv ct)
theorem fun_mk {x qual:Str} {st:Stmt} {f:Addr} {oc:Value} {od an:Option Addr} {osl:Array (Option Value)} {kV doc pm cdv ct:Value} (l:K.lookup f = some ⟨oc,od,.func (fnOf x qual (defArgs st) (defBody st) (defScope st) .none kV doc pm an cdv ct),osl⟩)
  (c:codeIn K cdv qual = true) (k:keepIn K (.ref f) = true):Fun K x qual st f (fnOf x qual (defArgs st) (defBody st) (defScope st) .none kV doc pm an cdv ct):=⟨⟨oc,od,kV,doc,pm,an,cdv,ct,osl,rfl,l,c⟩,k⟩
end
theorem hu_of {A:Around} {k:Nat} (hr:Room k A):A.units + 1 < cLine:=Nat.lt_of_le_of_lt (Nat.add_le_add_left (by decide:1 <= 64) _) hr.units
theorem small1000 {n:Nat} (h:n <= 1000):n < sizeLine:=Nat.lt_of_le_of_lt h (by decide)
section
variable {X:Cx}
theorem pv (i:Nat) {x:Str} {pos:Pos} (hN:X.N[i]? = some x:=by rfl) (hv:Vis X.env.scope x:=by first | exact Or.inl rfl | exact Or.inr (Or.inl rfl) | exact Or.inr (Or.inr rfl)) (hd:(x == ("__debug__" : Str)) = false:=by decide)
  (hcd:(x == ("__classdict__" : Str)) = false:=by decide):PE X (.Name x pos) (tVar i):=pe_var hN hv hd hcd
end
theorem iteF {A B:Prop} (h:B):if false = true then A else B:=by
 rw [if_neg Bool.false_ne_true]
 exact h
theorem iteT {A B:Prop} (h:A):if true = true then A else B:=by
 rw [if_pos rfl]
 exact h
theorem ite2 {c A B:Prop} [Decidable c] (h1:c -> A) (h2:¬ c -> B):if c then A else B:=by
 by_cases h:c
 ·rw [if_pos h]
  exact h1 h
 ·rw [if_neg h]
  exact h2 h
def Same (H H':Hp):Prop:=∀ b o,H b = some o -> H' b = some o
theorem Same.refl (H:Hp):Same H H:=fun _ _ h=>h
theorem Same.trans {H H1 H2:Hp} (a:Same H H1) (b:Same H1 H2):Same H H2:=fun c o h=>b c o (a c o h)
theorem Same.free {H H':Hp} (e:Same H H') {l:Addr} (h:H' l = Option.none):H l = Option.none:=by
 cases q:H l with
 | none=>rfl
 | some o=>
  rw [e l o q] at h
  cases h
theorem Same.seq {K:Frag} {H H':Hp} {a:Addr} {xs:List V} (e:Same H H') (h:SqL K H a xs):SqL K H' a xs:=by
 rcases h with (h | ⟨o,h⟩) | h
 ·exact .inl (.inl (e _ _ h))
 ·exact .inl (.inr ⟨o,e _ _ h⟩)
 ·exact .inr h
section
variable {X:Cx} {pins:List (Addr × Obj)} {σ:St} {H H':Hp} {s:Shared} {h':Heap}
theorem Inv.turnedL {t':Nat} {its:List Addr} (I:Inv X pins σ H s) (k:∀ b o,b ∉ its -> s.heap.get? b = some o -> h'.get? b = some o) (hf:∀ b ∈ its,FpOk X pins H b) (ht:0 < t':=by first | assumption | exact Nat.succ_pos _ | (apply Inv.tk; assumption) | omega):Inv X pins σ H { s with heap:=h',toks:=t' }:=by
 have nit:∀ b u,H b = some u -> b ∉ its:=fun b u e z=>by
  have q:=(hf b z).1
  rw [q] at e
  cases e
 refine I.step (g':=s.gens) (d':=s.drawn) (ch:=its) (fun b hb=>?_) (fun b o _ _ hc e _=>k b o hc e) (fun b o _ _ hc e _=>⟨o.slots,k b o hc e⟩) (fun _ _ _ _ n=>n)
  (fun b o hc e=>⟨o,k b o hc e⟩) (fun _ _ e=>e) (fun _ _ _ e=>e) (fun b ps e=>⟨#[],by rw [e]; simp⟩) (fun m hm=>?_) (fun b u e=>?_) I.bare
 ·obtain ⟨f0,f1,f2,f3,f4,f5⟩:=hf b hb
  exact ⟨f3,f1,f4,f5⟩
 ·obtain ⟨o,es,ep,ho,r⟩:=hm
  exact ⟨o,es,ep,k _ o (fun z=>(hf _ z).2.1 rfl) ho,r⟩
 ·refine (I.hok b u e).stay (fun c v hc q=>k c v ?_ q) (fun _ q=>q) fun _ _ q=>q
  rcases hc with z | z
  ·rw [z]; exact nit b u e
  ·exact nit c _ z
end
theorem strIter_no (x:Str):["enumerate", "zip", "dict_itemiterator", "dict_reverseitemiterator", "odict_iterator", "itertools.zip_longest", "itertools.pairwise"].contains (strIterType x) = false:=by
 unfold strIterType
 split <;> decide
section
variable {prog:Program} {w:World} {A:Around} {E:Value -> Shared -> Prop} {s:Shared}
theorem strIterType_cases (x:Str):strIterType x = "str_ascii_iterator" \/ strIterType x = "str_iterator" := by
 unfold strIterType
 split
 ·exact .inl rfl
 ·exact .inr rfl
theorem next_str_item {it:Addr} {x:Str} {t:Tok} {i c:Nat} {Q:Option Value -> Shared -> Prop} (hit:s.heap.IsStrIter it (strIterType x) x t i) (hx:x.cps[i]? = some c)
  (hQ:∀ h',h'.IsStrIter it (strIterType x) x t (i + 1) -> Heap.SameBut it s.heap h' -> Q (some (.str ⟨#[c]⟩ s.toks)) { s with heap:=h',toks:=s.toks + 1 }):
  wpAny (model prog w) A (pyNext (.ref it)) Q E s:=by
 rcases strIterType_cases x with e | e
 ·rw [e] at hit
  simp only [e] at hQ
  exact wpAny_pyNext_ascii_item hit hx hQ
 ·rw [e] at hit
  simp only [e] at hQ
  exact wpAny_pyNext_wide_item hit hx hQ
theorem next_str_end {it:Addr} {x:Str} {t:Tok} {i:Nat} {Q:Option Value -> Shared -> Prop} (hh:A.handled = none) (hit:s.heap.IsStrIter it (strIterType x) x t i) (hx:x.cps[i]? = none)
  (hQ:∀ h',Heap.ExtBut it s.heap h' -> Q none { s with heap:=h' }):wpAny (model prog w) A (pyNext (.ref it)) Q E s:=by
 rcases strIterType_cases x with e | e
 ·rw [e] at hit
  exact wpAny_pyNext_ascii_end hh hit hx hQ
 ·rw [e] at hit
  exact wpAny_pyNext_wide_end hh hit hx hQ
theorem iter_str_self {it:Addr} {x:Str} {t:Tok} {i:Nat} {Q:Value -> Shared -> Prop} (hit:s.heap.IsStrIter it (strIterType x) x t i) (h:Q (.ref it) s):wpAny (model prog w) A (pyIter (.ref it)) Q E s:=by
 rcases strIterType_cases x with e | e
 ·rw [e] at hit
  exact wpAny_pyIter_striter_ascii hit h
 ·rw [e] at hit
  exact wpAny_pyIter_striter_wide hit h
theorem nextOf_str_item {it:Addr} {x:Str} {t:Tok} {i c:Nat} {Q:Value -> Shared -> Prop} (hit:s.heap.IsStrIter it (strIterType x) x t i) (hx:x.cps[i]? = some c)
  (hQ:∀ h',h'.IsStrIter it (strIterType x) x t (i + 1) -> Heap.SameBut it s.heap h' -> Q (.str ⟨#[c]⟩ s.toks) { s with heap:=h',toks:=s.toks + 1 }):
  wpAny (model prog w) A (Builtin.SmallTypes.nextOf (.ref it)) Q E s:=by
 rcases strIterType_cases x with e | e
 ·rw [e] at hit
  simp only [e] at hQ
  exact wpAny_nextOf_ascii_item hit hx hQ
 ·rw [e] at hit
  simp only [e] at hQ
  exact wpAny_nextOf_wide_item hit hx hQ
theorem nextOf_str_end {it:Addr} {x:Str} {t:Tok} {i:Nat} {Q:Value -> Shared -> Prop} (hh:A.handled = none) (hit:s.heap.IsStrIter it (strIterType x) x t i) (hx:x.cps[i]? = none)
  (hE:∀ h' e,Heap.ExtBut it s.heap h' -> (∃ o,h'.get? e = some o /\ o.cls = .type "StopIteration") -> E (.ref e) { s with heap:=h' }):wpAny (model prog w) A (Builtin.SmallTypes.nextOf (.ref it)) Q E s:=by
 rcases strIterType_cases x with e | e
 ·rw [e] at hit
  exact wpAny_nextOf_ascii_end hh hit hx hE
 ·rw [e] at hit
  exact wpAny_nextOf_wide_end hh hit hx hE
end
noncomputable def Its (x:Str):It:=⟨fun i _=>i < x.cps.size,fun i H v H'=>H' = H /\ ∃ c,x.cps[i]? = some c /\ v = .str ⟨#[c]⟩,fun i _=>x.cps.size <= i⟩
theorem strIter_obj {h:Heap} {it:Addr} {ty:String} {x:Str} {t:Tok} {i:Nat} (st:h.IsStrIter it ty x t i):∃ o,h.get? it = some o /\ ∀ v,o.data ≠ .cell v:=by
 obtain ⟨o,e,c,d⟩:=st
 exact ⟨o,e,fun v z=>by rw [d] at z; cases z⟩
theorem turn_str {P:Program} {w:World} {K:Frag} {tg:Expr} (x:Str) (t:Tok) (it:Addr):Turn P w K tg (Its x) [it] it (fun i h=>h.IsStrIter it (strIterType x) x t i) where
 mem:=by simp
 obj:=fun i h st b hb=>by
  have e:b = it:=by simpa using hb
  subst e
  exact strIter_obj st
 keep:=fun i h h' st k=>by
  obtain ⟨o,e,r⟩:=st
  exact ⟨o,k it (by simp) o e,r⟩
 item:=by
  intro X hP hw hK hc i pins s σ H E I hf st hg
  subst hP hw hK
  have hi:i < x.cps.size:=hg
  refine next_str_item st (c:=x.cps[i]) (by simp [hi]) fun h' st' sb=>?_
  have I1:Inv X pins σ H { s with heap:=h',toks:=s.toks + 1 }:=I.turnedL (its:=[it]) (fun b o hb e=>(sb.2 b (by simpa using hb)).trans e) hf
  obtain ⟨o,e,c,d⟩:=id st'
  exact ⟨_,rfl,go_of (s:={ s with heap:=h',toks:=s.toks + 1 }) e c d (strIter_no x) ⟨.str ⟨#[x.cps[i]]⟩,H,I1,⟨_,rfl⟩,⟨rfl,_,by simp [hi],rfl⟩,st',fun b hb=>(hf b hb).1⟩⟩
 done:=by
  intro X hP hw hK hc i pins s σ H E I hf st hg
  subst hP hw hK
  have hi:x.cps.size <= i:=hg
  exact next_str_end (I.ok.hd hc) st (by simp [hi]) fun h' eb=>⟨rfl,I.turnedL (t':=s.toks) (its:=[it]) (fun b o hb e=>eb b o (by simpa using hb) e) hf⟩
 self:=fun _ _ _ _ _ st h=>iter_str_self st h
section
variable {X:Cx} {tg e:Expr} {te:TE}
end
theorem for_it {J:It} {n:Nat} {g:TG} {tb:TS} {D:Ends} {σ:St} {H:Hp} (Pv:Nat -> St -> Hp -> Prop) (h0:Pv 0 σ H) (hgo:∀ i σ H,i < n -> Pv i σ H -> J.go i H) (hst:∀ σ H,Pv n σ H -> J.stop n H)
  (hs:∀ i σ H x H',i < n -> Pv i σ H -> J.yld i H x H' -> g x σ H' fun σ2 H2=>tb { D with nx:=Pv (i + 1),ct:=Pv (i + 1),bk:=D.nx } σ2 H2) (hd:∀ σ H,Pv n σ H -> D.nx σ H):
  ∃ W:Nat -> Nat -> St -> Hp -> Prop,(∃ m,W 0 m σ H) /\ ∀ i m σ H,W i m σ H ->
   (J.stop i H /\ D.nx σ H) \/ (J.go i H /\ ∃ N:St -> Hp -> Prop,(∀ σ' H',N σ' H' -> ∃ m',m' < m /\ W (i + 1) m' σ' H') /\ ∀ x H',J.yld i H x H' -> g x σ H' fun σ2 H2=>tb { D with nx:=N,ct:=N,bk:=D.nx } σ2 H2):=by
 refine ⟨fun i m σ H=>m = n - i /\ i <= n /\ Pv i σ H,⟨n,by simp,Nat.zero_le _,h0⟩,?_⟩
 rintro i m σ H ⟨rfl,hi,p⟩
 by_cases hlt:i < n
 ·exact .inr ⟨hgo i σ H hlt p,Pv (i + 1),fun σ' H' p'=>⟨n - (i + 1),by omega,rfl,hlt,p'⟩,fun x H' y=>hs i σ H x H' hlt p y⟩
 ·have e:i = n:=by omega
  subst e
  exact .inl ⟨hst σ H p,hd σ H p⟩
structure Nx (prog:Program) (w:World) (A:Around) (it:Addr) (f:List Addr) (Sa Sb:Heap -> Prop) (P:Value -> Prop):Prop where
 fra:∀ h h',Sa h -> (∀ b ∈ f,∀ o,h.get? b = some o -> h'.get? b = some o) -> Sa h'
 frb:∀ h h',Sb h -> (∀ b ∈ f,∀ o,h.get? b = some o -> h'.get? b = some o) -> Sb h'
 step:∀ (s:Shared) (Q:Value -> Shared -> Prop) (E:Value -> Shared -> Prop),Sa s.heap -> (∀ x h' tk,P x -> Sb h' -> Heap.SameBut it s.heap h' -> Q x { s with heap:=h',toks:=tk }) -> wpAny (model prog w) A (Builtin.SmallTypes.nextOf (.ref it)) Q E s
structure Nd (prog:Program) (w:World) (A:Around) (it:Addr) (f:List Addr) (Sa:Heap -> Prop):Prop where
 fra:∀ h h',Sa h -> (∀ b ∈ f,∀ o,h.get? b = some o -> h'.get? b = some o) -> Sa h'
 step:∀ (s:Shared) (Q:Value -> Shared -> Prop) (E:Value -> Shared -> Prop),Sa s.heap -> (∀ h' e,Heap.ExtBut it s.heap h' -> (∃ o,h'.get? e = some o /\ o.cls = .type "StopIteration") -> E (.ref e) { s with heap:=h' }) -> wpAny (model prog w) A (Builtin.SmallTypes.nextOf (.ref it)) Q E s
structure ZAp (z TI TO i1 i2:Addr):Prop where
 TIz:TI ≠ z
 TOz:TO ≠ z
 i1z:i1 ≠ z
 i2z:i2 ≠ z
 TITO:TI ≠ TO
 TIi1:TI ≠ i1
 TIi2:TI ≠ i2
 TOi1:TO ≠ i1
 TOi2:TO ≠ i2
 i12:i1 ≠ i2
section
variable {prog:Program} {w:World} {A:Around} {E:Value -> Shared -> Prop} {s:Shared}
theorem zip_next_itemN {z TI TO i1 i2:Addr} {f1 f2:List Addr} {Sa Sb Sc Sd:Heap -> Prop} {P1 P2:Value -> Prop} {a b:Value} {Q:Value -> Shared -> Prop} (D:ZAp z TI TO i1 i2)
  (n1:Nx prog w A i1 f1 Sa Sb P1) (n2:Nx prog w A i2 f2 Sc Sd P2) (hf1:∀ c ∈ f1,c ≠ z /\ c ≠ TO /\ c ≠ i2) (hf2:∀ c ∈ f2,c ≠ z /\ c ≠ TO /\ c ≠ i1)
  (hz:IsZip s.heap z TI TO .none) (hTI:IsPair s.heap TI (.ref i1) (.ref i2)) (hTO:IsPair s.heap TO a b) (h1:Sa s.heap) (h2:Sc s.heap)
  (hQ:∀ x y h' tk,P1 x -> P2 y -> IsZip h' z TI TO (rawInt s.heap.objs.size) -> IsPair h' TO x y -> Sb h' -> Sd h' -> IsPair h' s.heap.objs.size x y -> h'.objs.size = s.heap.objs.size + 1 ->
   (∀ c o,c ≠ z -> c ≠ TO -> c ≠ i1 -> c ≠ i2 -> s.heap.get? c = some o -> h'.get? c = some o) -> Q (.ref s.heap.objs.size) { s with heap:=h',toks:=tk }):
  wpAny (model prog w) A (Builtin.«zip.__next__» ⟨[.ref z],[]⟩) (fun fin s'=>∃ v,fin = .done (.ret v) /\ Q v s') E s:=by
 obtain ⟨hp,gs,dr,k0,os⟩:=s
 refine wpAny_bind (m:=slotArgs "__next__" 0 _) (wpAny_of_eq (a:=(Value.ref _,[])) rfl ?_)
 refine wpAny_bind (m:=field _ 2) (wpAny_field hz rfl (x:=Value.bool false) rfl (wpAny_bind (m:=field _ 3) (wpAny_field hz rfl (x:=Value.ref TI) rfl (wpAny_bind (m:=seqItems? _) (wpAny_seqItems hTI rfl ?_)))))
 refine wpAny_bind (m:=Builtin.SmallTypes.ownedTupleIsFree _) (wpAny_bind (wpAny_field hz rfl (x:=Value.none) rfl (wpAny_pure ?_)))
 refine wpAny_bind (wpAny_rule (wpAny_bind (wpAny_field hz rfl (x:=Value.ref TO) rfl (wpAny_bind (wpAny_setField_rec hz (by simp) fun g1 zg sg=>wpAny_bind ?_)))))
 simp only [List.zipIdx_cons,List.zipIdx_nil,List.forIn_cons,List.forIn_nil]
 have zg:IsZip g1 z TI TO .ellipsis:=zg
 have sg:Heap.SameBut z hp g1:=sg
 refine wpAny_bind (wpAny_bind (wpAny_onRaise (wpAny_bind (m:=Builtin.SmallTypes.nextOf (.ref i1)) (n1.step _ _ _ (n1.fra hp g1 h1 fun c hc o=>sg.extBut _ _ (hf1 c hc).1) fun x g2 k1 p1 b2 t2=>wpAny_pure ?_))))
 have t2:Heap.SameBut i1 g1 g2:=t2
 have o2:IsPair g2 TO a b:=t2.extBut _ _ D.TOi1 (sg.extBut _ _ D.TOz hTO)
 refine wpAny_bind (wpAny_seqItems o2 rfl (wpAny_bind (wpAny_updateSeq_pair o2 fun g3 o3 t3=>wpAny_bind (wpAny_letGo (wpAny_pure ?_)))))
 have o3:IsPair g3 TO x b:=o3
 have t3:Heap.SameBut TO g2 g3:=t3
 have to3:∀ c o,c ≠ z -> c ≠ TO -> c ≠ i1 -> hp.get? c = some o -> g3.get? c = some o:=fun c o e1 e2 e3 q=>t3.extBut _ _ e2 (t2.extBut _ _ e3 (sg.extBut _ _ e1 q))
 refine wpAny_bind (wpAny_bind (wpAny_onRaise (wpAny_bind (m:=Builtin.SmallTypes.nextOf (.ref i2)) (n2.step _ _ _ (n2.fra hp g3 h2 fun c hc o=>to3 c o (hf2 c hc).1 (hf2 c hc).2.1 (hf2 c hc).2.2) fun y g4 k2 p2 b4 t4=>wpAny_pure ?_))))
 have t4:Heap.SameBut i2 g3 g4:=t4
 have o4:IsPair g4 TO x b:=t4.extBut _ _ D.TOi2 o3
 refine wpAny_bind (wpAny_seqItems o4 rfl (wpAny_bind (wpAny_updateSeq_pair o4 fun g5 o5 t5=>wpAny_bind (wpAny_letGo (wpAny_pure (wpAny_pure ?_))))))
 have o5:IsPair g5 TO x y:=o5
 have t5:Heap.SameBut TO g4 g5:=t5
 have size5:g5.objs.size = hp.objs.size:=t5.1.trans (t4.1.trans (t3.1.trans (t2.1.trans sg.1)))
 have z5:IsZip g5 z TI TO .ellipsis:=t5.extBut _ _ D.TOz.symm (t4.extBut _ _ D.i2z.symm (t3.extBut _ _ D.TOz.symm (t2.extBut _ _ D.i1z.symm zg)))
 have zlt:z < g5.objs.size:=Heap.lt_size z5
 refine wpAny_bind (wpAny_seqItems o5 rfl (wpAny_bind (wpAny_newTuple (wpAny_bind (m:=Builtin.SmallTypes.ownedTupleHandOut _ _) ?_))))
 refine wpAny_bind (wpAny_setField_rec (Heap.get?_push_of_some _ z5) (by simp) fun g6 z6 t6=>wpAny_setField_rec z6 (by simp) fun g7 z7 t7=>wpAny_pure ⟨_,rfl,?_⟩)
 have t6:Heap.SameBut z (g5.push { cls:=.type "tuple",data:=.seq #[x,y] }) g6:=t6
 have t7:Heap.SameBut z g6 g7:=t7
 have z7:IsZip g7 z TI TO (rawInt g5.objs.size):=z7
 have over:∀ c o,c ≠ z -> g5.get? c = some o -> g7.get? c = some o:=fun c o e q=>t7.extBut _ _ e (t6.extBut _ _ e (Heap.get?_push_of_some _ q))
 have pair7:IsPair g7 g5.objs.size x y:=t7.extBut _ _ (Nat.ne_of_gt zlt) (t6.extBut _ _ (Nat.ne_of_gt zlt) (Heap.get?_push_size _ rfl))
 have size7:g7.objs.size = g5.objs.size + 1:=t7.1.trans (t6.1.trans (Heap.size_push ..))
 show Q (.ref g5.objs.size) _
 rw [size5] at z7 pair7 size7 ⊢
 refine hQ x y g7 k2 p1 p2 z7 (over _ _ D.TOz o5) (n1.frb g2 g7 b2 fun c hc o q=>?_) (n2.frb g4 g7 b4 fun c hc o q=>?_) pair7 size7 fun c o e1 e2 e3 e4 q=>over c o e1 (t5.extBut _ _ e2 (t4.extBut _ _ e4 (to3 c o e1 e2 e3 q)))
 ·obtain ⟨e1,e2,e3⟩:=hf1 c hc
  exact over c o e1 (t5.extBut _ _ e2 (t4.extBut _ _ e3 (t3.extBut _ _ e2 q)))
 ·obtain ⟨e1,e2,_⟩:=hf2 c hc
  exact over c o e1 (t5.extBut _ _ e2 q)
theorem zip_next_end1 {z TI TO i1 i2:Addr} {f1:List Addr} {Sa:Heap -> Prop} {Q:Fin -> Shared -> Prop} (D:ZAp z TI TO i1 i2)
  (n1:Nd prog w A i1 f1 Sa) (hf1:∀ c ∈ f1,c ≠ z /\ c ≠ TO /\ c ≠ i2)
  (hz:IsZip s.heap z TI TO .none) (hTI:IsPair s.heap TI (.ref i1) (.ref i2)) (h1:Sa s.heap)
  (hE:∀ h' e tk,(∀ c o,c ≠ z -> c ≠ TO -> c ≠ i1 -> c ≠ i2 -> s.heap.get? c = some o -> h'.get? c = some o) -> (∃ o,h'.get? e = some o /\ o.cls = .type "StopIteration") -> E (.ref e) { s with heap:=h',toks:=tk }):
  wpAny (model prog w) A (Builtin.«zip.__next__» ⟨[.ref z],[]⟩) Q E s:=by
 obtain ⟨hp,gs,dr,k0,os⟩:=s
 refine wpAny_bind (m:=slotArgs "__next__" 0 _) (wpAny_of_eq (a:=(Value.ref _,[])) rfl ?_)
 refine wpAny_bind (m:=field _ 2) (wpAny_field hz rfl (x:=Value.bool false) rfl (wpAny_bind (m:=field _ 3) (wpAny_field hz rfl (x:=Value.ref TI) rfl (wpAny_bind (m:=seqItems? _) (wpAny_seqItems hTI rfl ?_)))))
 refine wpAny_bind (m:=Builtin.SmallTypes.ownedTupleIsFree _) (wpAny_bind (wpAny_field hz rfl (x:=Value.none) rfl (wpAny_pure ?_)))
 refine wpAny_bind (wpAny_rule (wpAny_bind (wpAny_field hz rfl (x:=Value.ref TO) rfl (wpAny_bind (wpAny_setField_rec hz (by simp) fun g1 zg sg=>wpAny_bind ?_)))))
 simp only [List.zipIdx_cons,List.zipIdx_nil,List.forIn_cons,List.forIn_nil]
 have zg:IsZip g1 z TI TO .ellipsis:=zg
 have sg:Heap.SameBut z hp g1:=sg
 refine wpAny_bind (wpAny_bind (wpAny_onRaise (wpAny_bind (m:=Builtin.SmallTypes.nextOf (.ref i1)) (n1.step _ _ _ (n1.fra hp g1 h1 fun c hc o=>sg.extBut _ _ (hf1 c hc).1) fun g2 e t2 ⟨oe,qe,ce⟩=>?_))))
 have t2:Heap.ExtBut i1 g1 g2:=t2
 have z2:IsZip g2 z TI TO .ellipsis:=t2 _ _ D.i1z.symm zg
 have ne:e ≠ z:=fun q=>by subst q; rw [z2] at qe; cases qe; simp at ce
 refine wpAny_setField_rec z2 (by simp) fun g3 _ t3=>?_
 have t3:Heap.SameBut z g2 g3:=t3
 exact hE g3 e k0 (fun c o e1 _ e3 _ q=>t3.extBut _ _ e1 (t2 _ _ e3 (sg.extBut _ _ e1 q))) ⟨oe,t3.extBut _ _ ne qe,ce⟩
theorem zip_next_end2 {z TI TO i1 i2:Addr} {f1 f2:List Addr} {Sa Sb Sc:Heap -> Prop} {P1:Value -> Prop} {a b:Value} {Q:Fin -> Shared -> Prop} (D:ZAp z TI TO i1 i2)
  (n1:Nx prog w A i1 f1 Sa Sb P1) (n2:Nd prog w A i2 f2 Sc) (hf1:∀ c ∈ f1,c ≠ z /\ c ≠ TO /\ c ≠ i2) (hf2:∀ c ∈ f2,c ≠ z /\ c ≠ TO /\ c ≠ i1)
  (hz:IsZip s.heap z TI TO .none) (hTI:IsPair s.heap TI (.ref i1) (.ref i2)) (hTO:IsPair s.heap TO a b) (h1:Sa s.heap) (h2:Sc s.heap)
  (hE:∀ h' e tk,(∀ c o,c ≠ z -> c ≠ TO -> c ≠ i1 -> c ≠ i2 -> s.heap.get? c = some o -> h'.get? c = some o) -> (∃ o,h'.get? e = some o /\ o.cls = .type "StopIteration") -> E (.ref e) { s with heap:=h',toks:=tk }):
  wpAny (model prog w) A (Builtin.«zip.__next__» ⟨[.ref z],[]⟩) Q E s:=by
 obtain ⟨hp,gs,dr,k0,os⟩:=s
 refine wpAny_bind (m:=slotArgs "__next__" 0 _) (wpAny_of_eq (a:=(Value.ref _,[])) rfl ?_)
 refine wpAny_bind (m:=field _ 2) (wpAny_field hz rfl (x:=Value.bool false) rfl (wpAny_bind (m:=field _ 3) (wpAny_field hz rfl (x:=Value.ref TI) rfl (wpAny_bind (m:=seqItems? _) (wpAny_seqItems hTI rfl ?_)))))
 refine wpAny_bind (m:=Builtin.SmallTypes.ownedTupleIsFree _) (wpAny_bind (wpAny_field hz rfl (x:=Value.none) rfl (wpAny_pure ?_)))
 refine wpAny_bind (wpAny_rule (wpAny_bind (wpAny_field hz rfl (x:=Value.ref TO) rfl (wpAny_bind (wpAny_setField_rec hz (by simp) fun g1 zg sg=>wpAny_bind ?_)))))
 simp only [List.zipIdx_cons,List.zipIdx_nil,List.forIn_cons,List.forIn_nil]
 have zg:IsZip g1 z TI TO .ellipsis:=zg
 have sg:Heap.SameBut z hp g1:=sg
 refine wpAny_bind (wpAny_bind (wpAny_onRaise (wpAny_bind (m:=Builtin.SmallTypes.nextOf (.ref i1)) (n1.step _ _ _ (n1.fra hp g1 h1 fun c hc o=>sg.extBut _ _ (hf1 c hc).1) fun x g2 k1 p1 b2 t2=>wpAny_pure ?_))))
 have t2:Heap.SameBut i1 g1 g2:=t2
 have o2:IsPair g2 TO a b:=t2.extBut _ _ D.TOi1 (sg.extBut _ _ D.TOz hTO)
 refine wpAny_bind (wpAny_seqItems o2 rfl (wpAny_bind (wpAny_updateSeq_pair o2 fun g3 _ t3=>wpAny_bind (wpAny_letGo (wpAny_pure ?_)))))
 have t3:Heap.SameBut TO g2 g3:=t3
 have to3:∀ c o,c ≠ z -> c ≠ TO -> c ≠ i1 -> hp.get? c = some o -> g3.get? c = some o:=fun c o e1 e2 e3 q=>t3.extBut _ _ e2 (t2.extBut _ _ e3 (sg.extBut _ _ e1 q))
 refine wpAny_bind (wpAny_bind (wpAny_onRaise (wpAny_bind (m:=Builtin.SmallTypes.nextOf (.ref i2)) (n2.step _ _ _ (n2.fra hp g3 h2 fun c hc o=>to3 c o (hf2 c hc).1 (hf2 c hc).2.1 (hf2 c hc).2.2) fun g4 e t4 ⟨oe,qe,ce⟩=>?_))))
 have t4:Heap.ExtBut i2 g3 g4:=t4
 have z4:IsZip g4 z TI TO .ellipsis:=t4 _ _ D.i2z.symm (t3.extBut _ _ D.TOz.symm (t2.extBut _ _ D.i1z.symm zg))
 have ne:e ≠ z:=fun q=>by subst q; rw [z4] at qe; cases qe; simp at ce
 refine wpAny_setField_rec z4 (by simp) fun g5 _ t5=>?_
 have t5:Heap.SameBut z g4 g5:=t5
 exact hE g5 e k1 (fun c o e1 e2 e3 e4 q=>t5.extBut _ _ e1 (t4 _ _ e4 (to3 c o e1 e2 e3 q))) ⟨oe,t5.extBut _ _ ne qe,ce⟩
theorem pyNext_zip_item {z:Addr} {o:Obj} {Q:Option Value -> Shared -> Prop} (hz:s.heap.get? z = some o) (hc:o.cls = .type "zip")
  (h:wpAny (model prog w) A.in1 (Builtin.«zip.__next__» ⟨[.ref z],[]⟩) (fun fin s'=>∃ v,fin = .done (.ret v) /\ Q (some v) s') (fun _ _=>False) s):wpAny (model prog w) A (pyNext (.ref z)) Q E s:=by
 have hT:s.TypeIs (.ref z) "zip" := ⟨_,hz,hc⟩
 unfold pyNext
 exact wpAny_bind (wpAny_attempt (wpAny_callSpecial?_slot (name:=Str.ofString "__next__") hT F.slot_zip_next
  (wpAny_call_entry F.slot_zip_next hT F.entry_zip_next (wpAny_mono h (fun fin s' ⟨v,e,q⟩=>⟨v,e,wpAny_pure q⟩) fun _ _ f=>f.elim) (F.args_zip_next_1 _))))
theorem pyNext_zip_end {z:Addr} {o:Obj} {Q:Option Value -> Shared -> Prop} (hz:s.heap.get? z = some o) (hc:o.cls = .type "zip")
  (h:wpAny (model prog w) A.in1 (Builtin.«zip.__next__» ⟨[.ref z],[]⟩) (fun _ _=>False) (fun e s'=>∃ a,e = .ref a /\ (∃ o,s'.heap.get? a = some o /\ o.cls = .type "StopIteration") /\ Q none s') s):wpAny (model prog w) A (pyNext (.ref z)) Q E s:=by
 have hT:s.TypeIs (.ref z) "zip" := ⟨_,hz,hc⟩
 unfold pyNext
 refine wpAny_bind (wpAny_attempt (wpAny_callSpecial?_slot (name:=Str.ofString "__next__") hT F.slot_zip_next
  (wpAny_call_entry F.slot_zip_next hT F.entry_zip_next (wpAny_mono h (fun _ _ f=>f.elim) fun e s' he=>?_) (F.args_zip_next_1 _))))
 obtain ⟨a,rfl,⟨o,ho,hc⟩,q⟩:=he
 refine wpAny_bind (wpAny_isInstance (T := "StopIteration") (b:=true) ⟨o,ho,hc⟩ isSubtype_stop ?_)
 exact wpAny_pure q
end
inductive Src where
 | str (x:Str) | lst (a:Addr)
noncomputable def SrcGo (K:Frag) (H:Hp):Src -> Nat -> Prop
 | .str x,i=>i < x.cps.size
 | .lst a,i=>∃ xs v,SqL K H a xs /\ xs[i]? = some v
noncomputable def SrcAt (K:Frag) (H:Hp):Src -> Nat -> V -> Prop
 | .str x,i,v=>∃ c,x.cps[i]? = some c /\ v = .str ⟨#[c]⟩
 | .lst a,i,v=>∀ xs,SqL K H a xs -> xs[i]? = some v
noncomputable def SrcEnd (K:Frag) (H:Hp):Src -> Nat -> Prop
 | .str x,i=>x.cps.size <= i
 | .lst a,i=>∃ xs,SqL K H a xs /\ xs.length <= i
noncomputable def SrcIt (h:Heap):Src -> Addr -> Nat -> Prop
 | .str x,it,i=>∃ t,h.IsStrIter it (strIterType x) x t i
 | .lst a,it,i=>h.IsListIter it a i
noncomputable def SrcOf (K:Frag) (H:Hp):Src -> V -> Prop
 | .str x,v=>v = .str x
 | .lst a,v=>v = .ref a /\ ∃ xs,SqL K H a xs
theorem SrcIt.obj {h:Heap} {S:Src} {it:Addr} {i:Nat} (st:SrcIt h S it i):∃ o,h.get? it = some o /\ (∀ v,o.data ≠ .cell v) /\ o.cls ≠ .type "list" /\ o.cls ≠ .type "zip" /\ o.cls ≠ .type "tuple" := by
 cases S with
 | str x=>
  obtain ⟨t,o,e,c,d⟩:=st
  refine ⟨o,e,(fun v z=>by rw [d] at z; cases z),?_⟩
  rw [c]
  rcases strIterType_cases x with q | q <;> rw [q] <;> decide
 | lst a=>
  obtain ⟨o,e,c,d⟩:=(show h.IsListIter it a i from st)
  refine ⟨o,e,(fun v z=>by rw [d] at z; cases z),?_⟩
  rw [c]
  decide
theorem SrcIt.keep {h h':Heap} {S:Src} {it:Addr} {i:Nat} (st:SrcIt h S it i) (k:∀ o,h.get? it = some o -> h'.get? it = some o):SrcIt h' S it i:=by
 cases S with
 | str x=>
  obtain ⟨t,o,e,r⟩:=st
  exact ⟨t,o,k o e,r⟩
 | lst a=>exact Heap.IsListIter.at (show h.IsListIter it a i from st) k
section
variable {X:Cx} {pins:List (Addr × Obj)} {σ:St} {H:Hp} {s:Shared} {A:Around}
theorem src_nx (I:Inv X pins σ H s) (S:Src) {it:Addr} {i:Nat} (st:SrcIt s.heap S it i) (go:SrcGo X.K H S i):
  ∃ (f:List Addr) (Sa Sb:Heap -> Prop) (P:Value -> Prop),Nx X.prog X.w A it f Sa Sb P /\ Sa s.heap /\ (∀ c ∈ f,c = it \/ ∃ o,s.heap.get? c = some o /\ o.cls = .type "list") /\ (∀ h,Sb h -> SrcIt h S it (i + 1)) /\ ∀ v,P v -> ∃ x,RelV x v /\ SrcAt X.K H S i x:=by
 cases S with
 | str x=>
  obtain ⟨t,st⟩:=st
  have hi:i < x.cps.size:=go
  refine ⟨[it],fun h=>h.IsStrIter it (strIterType x) x t i,fun h=>h.IsStrIter it (strIterType x) x t (i + 1),fun v=>∃ u,v = .str ⟨#[x.cps[i]]⟩ u,⟨?_,?_,?_⟩,st,fun c hc=>.inl (by simpa using hc),fun h q=>⟨t,q⟩,?_⟩
  ·rintro h h' ⟨o,e,r⟩ k
   exact ⟨o,k it (by simp) o e,r⟩
  ·rintro h h' ⟨o,e,r⟩ k
   exact ⟨o,k it (by simp) o e,r⟩
  ·intro s Q E st hQ
   exact nextOf_str_item st (c:=x.cps[i]) (by simp [hi]) fun h' st' sb=>hQ _ h' _ ⟨_,rfl⟩ st' sb
  ·rintro v ⟨u,rfl⟩
   exact ⟨.str ⟨#[x.cps[i]]⟩,⟨u,rfl⟩,_,by simp [hi],rfl⟩
 | lst a=>
  obtain ⟨xs,v,hq,hv⟩:=go
  obtain ⟨its,rv,pl,hz⟩:=I.list hq
  obtain ⟨u,hu,ru⟩:=rv.get hv
  have st':s.heap.IsListIter it a i:=st
  obtain ⟨o,e,c,n,hd⟩:=id pl.isList
  have hne:a ≠ it:=by
   rintro rfl
   obtain ⟨o',e',c',_⟩:=st'
   rw [e] at e'
   cases e'
   rw [c] at c'
   exact absurd c' (by decide)
  refine ⟨[it,a],fun h=>h.IsListIter it a i /\ h.IsList a its.toArray,fun h=>h.IsListIter it a (i + 1) /\ h.IsList a its.toArray,fun z=>z = u,⟨?_,?_,?_⟩,⟨st',pl.isList⟩,?_,fun h q=>q.1,?_⟩
  ·rintro h h' ⟨s1,s2⟩ k
   exact ⟨s1.at fun o e=>k it (by simp) o e,s2.at fun o e=>k a (by simp) o e⟩
  ·rintro h h' ⟨s1,s2⟩ k
   exact ⟨s1.at fun o e=>k it (by simp) o e,s2.at fun o e=>k a (by simp) o e⟩
  ·intro s Q E st hQ
   exact wpAny_nextOf_list_item st.1 st.2 (x:=u) (by simpa using hu) fun h' st' sb=>hQ _ h' s.toks rfl ⟨st',st.2.extBut sb.extBut hne⟩ sb
  ·intro c' hc
   rcases (by simpa using hc:c' = it \/ c' = a) with z | z
   ·exact .inl z
   ·subst z
    exact .inr ⟨o,e,c⟩
  ·rintro z rfl
   exact ⟨v,ru,fun ys hy=>by rw [I.list_inj hy hq]; exact hv⟩
theorem src_nd (I:Inv X pins σ H s) (hh:A.handled = none) (S:Src) {it:Addr} {i:Nat} (st:SrcIt s.heap S it i) (en:SrcEnd X.K H S i):
  ∃ (f:List Addr) (Sa:Heap -> Prop),Nd X.prog X.w A it f Sa /\ Sa s.heap /\ (∀ c ∈ f,c = it \/ ∃ o,s.heap.get? c = some o /\ o.cls = .type "list"):=by
 cases S with
 | str x=>
  obtain ⟨t,st⟩:=st
  have hi:x.cps.size <= i:=en
  refine ⟨[it],fun h=>h.IsStrIter it (strIterType x) x t i,⟨?_,?_⟩,st,fun c hc=>.inl (by simpa using hc)⟩
  ·rintro h h' ⟨o,e,r⟩ k
   exact ⟨o,k it (by simp) o e,r⟩
  ·intro s Q E st hE
   exact nextOf_str_end hh st (by simp [hi]) hE
 | lst a=>
  obtain ⟨xs,hq,hv⟩:=en
  obtain ⟨its,rv,pl,hz⟩:=I.list hq
  have st':s.heap.IsListIter it a i:=st
  obtain ⟨o,e,c,n,hd⟩:=id pl.isList
  have hl:=rv.length
  refine ⟨[it,a],fun h=>h.IsListIter it a i /\ h.IsList a its.toArray,⟨?_,?_⟩,⟨st',pl.isList⟩,?_⟩
  ·rintro h h' ⟨s1,s2⟩ k
   exact ⟨s1.at fun o e=>k it (by simp) o e,s2.at fun o e=>k a (by simp) o e⟩
  ·intro s Q E st hE
   exact wpAny_nextOf_list_end hh st.1 st.2 (by simp; omega) hE
  ·intro c' hc
   rcases (by simpa using hc:c' = it \/ c' = a) with z | z
   ·exact .inl z
   ·subst z
    exact .inr ⟨o,e,c⟩
theorem Inv.turnedLaid {t':Nat} {its:List Addr} {h':Heap} {a:Addr} {o:HO} (I:Inv X pins σ H s) (k:∀ b ob,b ∉ its -> s.heap.get? b = some ob -> h'.get? b = some ob) (hf:∀ b ∈ its,FpOk X pins H b) (hp:s.heap.objs.size <= a)
  (new:ObjOk X.prog X.w (upd H a o) h' a o) (ht:0 < t':=by first | assumption | exact Nat.succ_pos _ | (apply Inv.tk; assumption) | omega):Inv X pins σ (upd H a o) { s with heap:=h',toks:=t' }:=by
 have hn:H a = none:=I.hok.fresh hp
 have nit:∀ b u,H b = some u -> b ∉ its:=fun b u e z=>by
  have q:=(hf b z).1
  rw [q] at e
  cases e
 have nea:∀ b ob,s.heap.get? b = some ob -> b ≠ a:=fun b ob e=>Nat.ne_of_lt (Nat.lt_of_lt_of_le (Heap.lt_size e) hp)
 refine I.step (g':=s.gens) (d':=s.drawn) (ch:=its) (fun b hb=>?_) (fun b o _ _ hc e _=>k b o hc e) (fun b o _ _ hc e _=>⟨o.slots,k b o hc e⟩) (fun b ob _ e n=>by rw [upd_ne (nea b ob e)]; exact n)
  (fun b o hc e=>⟨o,k b o hc e⟩) (fun _ _ e=>by rw [upd_ne (ne_of_none e hn)]; exact e) (fun _ _ _ e=>by rw [upd_ne (ne_of_none e hn)]; exact e) (fun b ps e=>⟨#[],by rw [upd_ne (ne_of_none e hn),e]; simp⟩) (fun m hm=>?_) (fun b u e=>?_) I.bare
 ·obtain ⟨f0,f1,f2,f3,f4,f5⟩:=hf b hb
  exact ⟨f3,f1,f4,f5⟩
 ·obtain ⟨o,es,ep,ho,r⟩:=hm
  exact ⟨o,es,ep,k _ o (fun z=>(hf _ z).2.1 rfl) ho,r⟩
 ·by_cases hb:b = a
  ·subst hb
   rw [upd_same] at e
   cases e
   exact new
  ·rw [upd_ne hb] at e
   refine (I.hok b u e).stay (fun c v hc q=>k c v ?_ q) (fun c q=>by rw [upd_ne (ne_of_none q hn)]; exact q) fun c xs q=>by rw [upd_ne (ne_of_none q hn)]; exact q
   rcases hc with z | z
   ·rw [z]; exact nit b u e
   ·exact nit c _ z
end
noncomputable def Itz (K:Frag) (S1 S2:Src):It:=⟨fun i H=>SrcGo K H S1 i /\ SrcGo K H S2 i,fun i H v H'=>∃ T x y,v = .ref T /\ H T = none /\ H' = upd H T (.tup [x,y]) /\ SrcAt K H S1 i x /\ SrcAt K H S2 i y,
 fun i H=>SrcEnd K H S1 i \/ (SrcGo K H S1 i /\ SrcEnd K H S2 i)⟩
def ZipSt (z TI TO i1 i2:Addr) (S1 S2:Src) (i:Nat) (h:Heap):Prop:=∃ a b,IsZip h z TI TO .none /\ IsPair h TI (.ref i1) (.ref i2) /\ IsPair h TO a b /\ SrcIt h S1 i1 i /\ SrcIt h S2 i2 i
theorem off_of {h:Heap} {f:List Addr} {z TI TO i1 i2:Addr} {a b:Value} {S2:Src} {k:Nat} (hz:IsZip h z TI TO .none) (hTO:IsPair h TO a b) (h2:SrcIt h S2 i2 k) (n1:i1 ≠ z) (n2:i1 ≠ TO) (n3:i1 ≠ i2)
  (m:∀ c ∈ f,c = i1 \/ ∃ o,h.get? c = some o /\ o.cls = .type "list"):∀ c ∈ f,c ≠ z /\ c ≠ TO /\ c ≠ i2:=fun c hc=>by
 rcases m c hc with e | ⟨o,e,c1⟩
 ·subst e
  exact ⟨n1,n2,n3⟩
 ·refine ⟨?_,?_,?_⟩
  ·rintro rfl
   rw [hz] at e
   cases e
   exact absurd (show Value.type "zip" = Value.type "list" from c1) (by decide)
  ·rintro rfl
   rw [hTO] at e
   cases e
   exact absurd (show Value.type "tuple" = Value.type "list" from c1) (by decide)
  ·rintro rfl
   obtain ⟨o',e',_,q,_⟩:=h2.obj
   rw [e] at e'
   cases e'
   exact q c1
theorem turn_zip {P:Program} {w:World} {K:Frag} {elts:List Expr} {kk:Nat} {pos:Pos} {z TI TO i1 i2:Addr} (D:ZAp z TI TO i1 i2) (S1 S2:Src):
  Turn P w K (.Tuple elts kk pos) (Itz K S1 S2) [z,TI,TO,i1,i2] z (ZipSt z TI TO i1 i2 S1 S2) where
 mem:=by simp
 obj:=fun i h st b hb=>by
  obtain ⟨a,c,hz,hTI,hTO,h1,h2⟩:=st
  simp only [List.mem_cons,List.not_mem_nil,or_false] at hb
  rcases hb with rfl | rfl | rfl | rfl | rfl
  ·exact ⟨_,hz,fun v q=>by have q':Data.fields _ = Data.cell v:=q; cases q'⟩
  ·exact ⟨_,hTI,fun v q=>by have q':Data.seq _ _ = Data.cell v:=q; cases q'⟩
  ·exact ⟨_,hTO,fun v q=>by have q':Data.seq _ _ = Data.cell v:=q; cases q'⟩
  ·obtain ⟨o,e,q,_⟩:=h1.obj
   exact ⟨o,e,q⟩
  ·obtain ⟨o,e,q,_⟩:=h2.obj
   exact ⟨o,e,q⟩
 keep:=fun i h h' st k=>by
  obtain ⟨a,c,hz,hTI,hTO,h1,h2⟩:=st
  exact ⟨a,c,k z (by simp) _ hz,k TI (by simp) _ hTI,k TO (by simp) _ hTO,h1.keep fun o e=>k i1 (by simp) o e,h2.keep fun o e=>k i2 (by simp) o e⟩
 item:=by
  intro X hP hw hK hc i pins s σ H E I hf st hg
  subst hP hw hK
  obtain ⟨a,b,hz,hTI,hTO,h1,h2⟩:=st
  obtain ⟨g1,g2⟩:=hg
  obtain ⟨f1,Sa,Sb,P1,n1,a1,m1,b1,r1⟩:=src_nx (A:=X.A.in1) I S1 h1 g1
  obtain ⟨f2,Sc,Sd,P2,n2,a2,m2,b2,r2⟩:=src_nx (A:=X.A.in1) I S2 h2 g2
  refine tokQ I.tk (pyNext_zip_item hz rfl (zip_next_itemN D n1 n2 (off_of hz hTO h2 D.i1z D.TOi1.symm D.i12 m1) (off_of hz hTO h1 D.i2z D.TOi2.symm D.i12.symm m2) hz hTI hTO a1 a2 fun x y h' tk p1 p2 z1 z2 q1 q2 z3 z4 kp (htk:0 < tk)=>?_))
  obtain ⟨vx,rx,ax⟩:=r1 x p1
  obtain ⟨vy,ry,ay⟩:=r2 y p2
  have fresh:H s.heap.objs.size = none:=I.hok.fresh (Nat.le_refl _)
  have off:∀ {c o},s.heap.get? c = some o -> c ≠ s.heap.objs.size:=fun e=>Nat.ne_of_lt (Heap.lt_size e)
  refine ⟨_,rfl,wpAny_letOwnedTupleGo_zip z1 fun h'' z1' sb=>?_⟩
  replace sb:Heap.SameBut z h' h'':=sb
  have hT:IsPair h'' s.heap.objs.size x y:=sb.extBut _ _ (Ne.symm (off hz)) z3
  have I1:Inv X pins σ (upd H s.heap.objs.size (.tup [vx,vy])) { s with heap:=h'',toks:=tk }:=by
   refine I.turnedLaid (its:=[z,TO,i1,i2]) (fun c o hc' e=>?_) (fun c hc'=>hf c ?_) (Nat.le_refl _) ?_
   ·simp only [List.mem_cons,List.not_mem_nil,or_false,not_or] at hc'
    exact sb.extBut _ _ hc'.1 (kp c o hc'.1 hc'.2.1 hc'.2.2.1 hc'.2.2.2 e)
   ·simp only [List.mem_cons,List.not_mem_nil,or_false] at hc' ⊢
    rcases hc' with q | q | q | q
    ·exact .inl q
    ·exact .inr (.inr (.inl q))
    ·exact .inr (.inr (.inr (.inl q)))
    ·exact .inr (.inr (.inr (.inr q)))
   ·exact ⟨by show 2 <= sizeLine; decide,[x,y],.cons rx (.cons ry .nil),_,hT,rfl,_,rfl⟩
  refine ⟨.ref s.heap.objs.size,_,I1,rfl,⟨_,vx,vy,rfl,fresh,rfl,ax,ay⟩,⟨x,y,z1',?_,?_,?_,?_⟩,fun c hc'=>?_⟩
  ·exact sb.extBut _ _ D.TIz (kp _ _ D.TIz D.TITO D.TIi1 D.TIi2 hTI)
  ·exact sb.extBut _ _ D.TOz z2
  ·exact (b1 h' q1).keep fun o e=>sb.extBut _ _ D.i1z e
  ·exact (b2 h' q2).keep fun o e=>sb.extBut _ _ D.i2z e
  ·have ne:c ≠ s.heap.objs.size:=by
    simp only [List.mem_cons,List.not_mem_nil,or_false] at hc'
    rcases hc' with rfl | rfl | rfl | rfl | rfl
    ·exact off hz
    ·exact off hTI
    ·exact off hTO
    ·obtain ⟨o,e,_⟩:=h1.obj
     exact off e
    ·obtain ⟨o,e,_⟩:=h2.obj
     exact off e
   rw [upd_ne ne]
   exact (hf c hc').1
 done:=by
  intro X hP hw hK hc i pins s σ H E I hf st hg
  subst hP hw hK
  obtain ⟨a,b,hz,hTI,hTO,h1,h2⟩:=st
  have hh:X.A.in1.handled = none:=I.ok.hd hc
  have fin:∀ (h':Heap) (tk:Nat),0 < tk -> (∀ c o,c ≠ z -> c ≠ TO -> c ≠ i1 -> c ≠ i2 -> s.heap.get? c = some o -> h'.get? c = some o) -> Inv X pins σ H { s with heap:=h',toks:=tk }:=fun h' tk htk kp=>
   I.turnedL (its:=[z,TO,i1,i2]) (fun c o hc' e=>by
    simp only [List.mem_cons,List.not_mem_nil,or_false,not_or] at hc'
    exact kp c o hc'.1 hc'.2.1 hc'.2.2.1 hc'.2.2.2 e) (fun c hc'=>hf c (by
    simp only [List.mem_cons,List.not_mem_nil,or_false] at hc' ⊢
    rcases hc' with q | q | q | q
    ·exact .inl q
    ·exact .inr (.inr (.inl q))
    ·exact .inr (.inr (.inr (.inl q)))
    ·exact .inr (.inr (.inr (.inr q)))))
  rcases hg with e1 | ⟨g1,e2⟩
  ·obtain ⟨f1,Sa,n1,a1,m1⟩:=src_nd I hh S1 h1 e1
   exact tokQ I.tk (pyNext_zip_end hz rfl (zip_next_end1 D n1 (off_of hz hTO h2 D.i1z D.TOi1.symm D.i12 m1) hz hTI a1 fun h' e tk kp he=>⟨e,rfl,he,fun htk=>⟨rfl,fin h' tk htk kp⟩⟩))
  ·obtain ⟨f1,Sa,Sb,P1,n1,a1,m1,b1,r1⟩:=src_nx (A:=X.A.in1) I S1 h1 g1
   obtain ⟨f2,Sc,n2,a2,m2⟩:=src_nd I hh S2 h2 e2
   exact tokQ I.tk (pyNext_zip_end hz rfl (zip_next_end2 D n1 n2 (off_of hz hTO h2 D.i1z D.TOi1.symm D.i12 m1) (off_of hz hTO h1 D.i2z D.TOi2.symm D.i12.symm m2) hz hTI hTO a1 a2 fun h' e tk kp he=>⟨e,rfl,he,fun htk=>⟨rfl,fin h' tk htk kp⟩⟩))
 self:=fun _ _ _ _ _ st h=>by
  obtain ⟨a,b,hz,_⟩:=st
  exact wpAny_pyIter_zip hz h
noncomputable def srcVal:Src -> Tok -> Value
 | .str x,t=>.str x t
 | .lst a,_=>.ref a
noncomputable def srcObj:Src -> Tok -> Obj
 | .str x,t=>{ cls:=.type (strIterType x),data:=.fields #[.str x t,.int 0 0] }
 | .lst a,_=>{ cls:=.type "list_iterator",data:=.fields #[.ref a,.int 0 0] }
noncomputable def srcOk (h:Heap):Src -> Prop
 | .str _=>True
 | .lst a=>∃ its,h.IsList a its
theorem srcOk.push {h:Heap} {S:Src} (ok:srcOk h S) (o:Obj):srcOk (h.push o) S:=by
 cases S with
 | str x=>trivial
 | lst a=>
  obtain ⟨its,q⟩:=ok
  exact ⟨its,Heap.IsList.push q _⟩
theorem srcObj_freed (S:Src) (t:Tok):(srcObj S t).isFreed = false:=by cases S <;> rfl
theorem srcObj_it {h:Heap} {S:Src} {t:Tok} {it:Addr} (e:h.get? it = some (srcObj S t)):SrcIt h S it 0:=by
 cases S with
 | str x=>exact ⟨t,_,e,rfl,rfl⟩
 | lst a=>exact ⟨_,e,rfl,rfl⟩
section
variable {prog:Program} {w:World} {A:Around} {E:Value -> Shared -> Prop} {s:Shared}
theorem pyIter_src {S:Src} {t:Tok} {Q:Value -> Shared -> Prop} (ok:srcOk s.heap S) (hQ:Q (.ref s.heap.objs.size) { s with heap:=s.heap.push (srcObj S t) }):wpAny (model prog w) A (pyIter (srcVal S t)) Q E s:=by
 cases S with
 | str x=>exact wpAny_pyIter_strU hQ
 | lst a=>
  obtain ⟨its,q⟩:=ok
  exact wpAny_pyIter_list q hQ
end
noncomputable abbrev zH1 (h:Heap) (S1:Src) (t1:Tok):Heap:=h.push (srcObj S1 t1)
noncomputable abbrev zH2 (h:Heap) (S1 S2:Src) (t1 t2:Tok):Heap:=(zH1 h S1 t1).push (srcObj S2 t2)
noncomputable abbrev zH3 (h:Heap) (S1 S2:Src) (t1 t2:Tok):Heap:=(zH2 h S1 S2 t1 t2).push { cls:=.type "tuple",data:=.seq #[.ref h.objs.size,.ref (zH1 h S1 t1).objs.size] }
noncomputable abbrev zH4 (h:Heap) (S1 S2:Src) (t1 t2:Tok):Heap:=(zH3 h S1 S2 t1 t2).push { cls:=.type "tuple",data:=.seq #[.none,.none] }
noncomputable abbrev zH5 (h:Heap) (S1 S2:Src) (t1 t2:Tok):Heap:=(zH4 h S1 S2 t1 t2).push { cls:=.type "zip",data:=.fields #[.none,.bool false,.bool false,.ref (zH2 h S1 S2 t1 t2).objs.size,.ref (zH3 h S1 S2 t1 t2).objs.size] }
theorem meets_zip_newS (S1 S2:Src) (t1 t2:Tok):
  Meets (Builtin.«zip.__new__» ⟨[.type "zip",srcVal S1 t1,srcVal S2 t2],[]⟩) (fun _ R s=>srcOk s.heap S1 /\ srcOk s.heap S2 /\
   R (.ok (.ret (.ref (zH4 s.heap S1 S2 t1 t2).objs.size))) { s with heap:=zH5 s.heap S1 S2 t1 t2 }):=
 .of_wp fun prog w A R s h=>by
  obtain ⟨hp,g,d,tk,os⟩:=s; obtain ⟨hl1,hl2,h⟩:=h
  have hsub:=sub_zip
  have hL1:srcOk (Shared.heap ⟨hp,g,d,tk,os⟩) S1:=hl1
  have hL2:srcOk (Shared.heap ⟨hp.push (srcObj S1 t1),g,d,tk,os⟩) S2:=hl2.push _
  wp_walk using pyIter_src hL1,pyIter_src hL2
  exact ⟨_,rfl,h⟩
section
variable {prog:Program} {w:World} {A:Around} {E:Value -> Shared -> Prop} {s:Shared}
theorem call_zipS {S1 S2:Src} {t1 t2:Tok} {Q:Value -> Shared -> Prop} (hl1:srcOk s.heap S1) (hl2:srcOk s.heap S2)
  (h:∀ h',ZipSt (s.heap.objs.size + 4) (s.heap.objs.size + 2) (s.heap.objs.size + 3) s.heap.objs.size (s.heap.objs.size + 1) S1 S2 0 h' -> (∀ c o,s.heap.get? c = some o -> h'.get? c = some o) -> Q (.ref (s.heap.objs.size + 4)) { s with heap:=h' }):
  wpAny (model prog w) A (call (.type "zip") [srcVal S1 t1,srcVal S2 t2]) Q E s:=by
 refine callType_new F.called_zip (by decide) (F.typeCall_zip_2 _ _) (F.newCall_zip_2 _ _) (fun obj=>F.args_object_init_3 obj _ _) F.entry_zip_new
  (meets_zip_newS S1 S2 t1 t2) ⟨hl1,hl2,?_⟩
 have z1:(zH1 s.heap S1 t1).objs.size = s.heap.objs.size + 1:=Heap.size_push ..
 have z2:(zH2 s.heap S1 S2 t1 t2).objs.size = s.heap.objs.size + 2:=by rw [Heap.size_push,z1]
 have z3:(zH3 s.heap S1 S2 t1 t2).objs.size = s.heap.objs.size + 3:=by rw [Heap.size_push,z2]
 have z4:(zH4 s.heap S1 S2 t1 t2).objs.size = s.heap.objs.size + 4:=by rw [Heap.size_push,z3]
 have g5:(zH5 s.heap S1 S2 t1 t2).get? (zH4 s.heap S1 S2 t1 t2).objs.size = some _:=Heap.get?_push_size _ rfl
 have g4:(zH5 s.heap S1 S2 t1 t2).get? (zH3 s.heap S1 S2 t1 t2).objs.size = some _:=Heap.get?_push_of_some _ (Heap.get?_push_size _ rfl)
 have g3:(zH5 s.heap S1 S2 t1 t2).get? (zH2 s.heap S1 S2 t1 t2).objs.size = some _:=Heap.get?_push_of_some _ (Heap.get?_push_of_some _ (Heap.get?_push_size _ rfl))
 have g2:(zH5 s.heap S1 S2 t1 t2).get? (zH1 s.heap S1 t1).objs.size = some (srcObj S2 t2):=Heap.get?_push_of_some _ (Heap.get?_push_of_some _ (Heap.get?_push_of_some _ (Heap.get?_push_size _ (srcObj_freed _ _))))
 have g1:(zH5 s.heap S1 S2 t1 t2).get? s.heap.objs.size = some (srcObj S1 t1):=Heap.get?_push_of_some _ (Heap.get?_push_of_some _ (Heap.get?_push_of_some _ (Heap.get?_push_of_some _ (Heap.get?_push_size _ (srcObj_freed _ _)))))
 show _ /\ _
 rw [z2,z3,z4] at g5
 rw [z1,z2] at g3
 rw [z3] at g4
 rw [z1] at g2
 rw [z4]
 exact ⟨⟨_,g5,rfl⟩,h _ ⟨_,_,g5,g3,g4,srcObj_it g1,srcObj_it g2⟩ fun c o x=>
  Heap.get?_push_of_some _ (Heap.get?_push_of_some _ (Heap.get?_push_of_some _ (Heap.get?_push_of_some _ (Heap.get?_push_of_some _ x))))⟩
theorem zap_new (n:Nat):ZAp (n + 4) (n + 2) (n + 3) n (n + 1):=by
 constructor <;> exact fun h=>absurd (show (_:Nat) = _ from h) (by omega)
end
noncomputable def iZip (K:Frag) (ta:TA):TI:=fun σ H R=>ta σ H fun vs H1=>∃ S1 S2 v1 v2,vs = [v1,v2] /\ SrcOf K H1 S1 v1 /\ SrcOf K H1 S2 v2 /\ R (Itz K S1 S2) H1
section
variable {X:Cx}
theorem srcOf_val {pins:List (Addr × Obj)} {σ:St} {H:Hp} {s:Shared} {S:Src} {v:V} {u:Value} (I:Inv X pins σ H s) (h:SrcOf X.K H S v) (r:RelV v u):∃ t,u = srcVal S t /\ srcOk s.heap S:=by
 cases S with
 | str x=>
  have e:v = .str x:=h
  subst e
  obtain ⟨t,rfl⟩:=r
  exact ⟨t,rfl,trivial⟩
 | lst a=>
  obtain ⟨e,xs,hq⟩:=h
  subst e
  cases r
  obtain ⟨its,rv,pl,hz⟩:=I.list hq
  exact ⟨0,rfl,_,pl.isList⟩
theorem boot_zip:bootBuiltins "zip" = some (.type "zip"):=by decide +kernel
theorem pi_zip {a b:Expr} {ta:TA} {elts:List Expr} {kk:Nat} {tpos p pos:Pos} (hg:Gl X "zip") (hm:X.mg "zip" = none) (ha:PA X [a,b] ta) (hs:starEach [a,b] X.env = [(false,eval a X.env),(false,eval b X.env)]:=by rfl) (hs2:starEach [b] X.env = [(false,eval b X.env)]:=by rfl):
  PI X (.Tuple elts kk tpos) (.Call (.Name "zip" p) [a,b] [] pos) (iZip X.K ta):=by
 intro pins s σ H R I h
 refine Call_ (ld_blt I hg hm boot_zip (PyProof.Rows.callWith_type1 (thn (ha pos pins s σ H _ I h) fun us s1 ⟨vs,H1,I1,r1,q1⟩=>?_) (by rw [hs,hs2]) (by rw [hs2]; rfl)))
 obtain ⟨S1,S2,v1,v2,e,o1,o2,q⟩:=q1
 subst e
 cases r1 with
 | cons r rr=>
  cases rr with
  | cons r' rr=>
   cases rr
   obtain ⟨t1,rfl,k1⟩:=srcOf_val I1 o1 r
   obtain ⟨t2,rfl,k2⟩:=srcOf_val I1 o2 r'
   refine call_zipS k1 k2 fun h' st kp=>?_
   have I2:Inv X pins σ H1 { s1 with heap:=h' }:=I1.kept (t':=s1.toks) kp
   have st':=st
   obtain ⟨_,_,hz,_⟩:=st'
   refine wpAny_pyIter_zip hz ?_
   refine ⟨_,_,_,Itz X.K S1 S2,H1,rfl,I2,turn_zip (zap_new _) S1 S2,st,fun c hc=>?_,q⟩
   have hc':s1.heap.objs.size <= c:=by
    simp only [List.mem_cons,List.not_mem_nil,or_false] at hc
    rcases hc with rfl | rfl | rfl | rfl | rfl <;> omega
   exact I1.fpOk hc' (I1.hok.fresh hc')
end
noncomputable def clOf (cells:List (Str × Addr)):List (Str × NameKind) -> List (Str × Addr) -> List (Str × Addr)
 | [],cs=>cs
 | (n,k) :: r,cs=>clOf cells r (if (k == NameKind.free) = true then (n,(cells.lookup n).getD 0) :: cs else cs)
theorem closureFor_some {scope:Scope} {env:Env} (h:∀ y ∈ scope.names,y.2 = .free -> ∃ c,env.cells.lookup y.1 = some c):closureFor scope env = pure (clOf env.cells scope.names []):=by
 unfold closureFor
 have key:∀ (names:List (Str × NameKind)) (cs:List (Str × Addr)),(∀ y ∈ names,y.2 = .free -> ∃ c,env.cells.lookup y.1 = some c) ->
   (forIn names cs (fun x r=>match x with
    | (name,kind)=>if (kind == NameKind.free) = true then (do let __do_lift <- cellOf env name; pure (ForInStep.yield ((name,__do_lift) :: r))) else pure (ForInStep.yield r)):Sem (List (Str × Addr))) = pure (clOf env.cells names cs):=by
  intro names
  induction names with
  | nil=>intro cs _; rfl
  | cons y r ih=>
   intro cs hy
   obtain ⟨n,k⟩:=y
   rw [List.forIn_cons]
   have hr:∀ y ∈ r,y.2 = .free -> ∃ c,env.cells.lookup y.1 = some c:=fun y hm=>hy y (List.mem_cons_of_mem _ hm)
   cases hk:(k == NameKind.free) with
   | true=>
    have hk':k = .free:=by simpa using hk
    obtain ⟨c,hc⟩:=hy (n,k) List.mem_cons_self hk'
    have ec:cellOf env n = pure c:=by unfold cellOf; rw [hc]
    have e1:(clOf env.cells ((n,k) :: r) cs) = clOf env.cells r ((n,c) :: cs):=by
     show clOf env.cells r (if (k == NameKind.free) = true then (n,(env.cells.lookup n).getD 0) :: cs else cs) = _
     rw [hk,if_pos rfl,show env.cells.lookup n = some c from hc]
     rfl
    rw [e1,<- ih _ hr]
    simp only [ec,hk,if_true,pure_bind]
   | false=>
    have e1:(clOf env.cells ((n,k) :: r) cs) = clOf env.cells r cs:=by
     show clOf env.cells r (if (k == NameKind.free) = true then (n,(env.cells.lookup n).getD 0) :: cs else cs) = _
     rw [hk,if_neg Bool.false_ne_true]
    rw [e1,<- ih _ hr]
    simp only [hk,Bool.false_eq_true,if_false,pure_bind]
 have q:=key scope.names [] h
 first
  | exact q
  | (simp only [bind_pure]; exact q)
  | (rw [q]; rfl)
theorem clOf_sound {cells:List (Str × Addr)} {x:Str} {c:Addr}:∀ (names:List (Str × NameKind)) (cs:List (Str × Addr)),(∀ y ∈ names,y.2 = .free -> ∃ c,cells.lookup y.1 = some c) -> (∀ x c,cs.lookup x = some c -> cells.lookup x = some c) ->
  (clOf cells names cs).lookup x = some c -> cells.lookup x = some c
 | [],cs,_,h,e=>h x c e
 | (n,k) :: r,cs,hn,h,e=>by
  unfold clOf at e
  refine clOf_sound r _ (fun y hm=>hn y (List.mem_cons_of_mem _ hm)) (fun x c q=>?_) e
  split at q
  ·rename_i hk
   have hk':k = .free:=by simpa using hk
   obtain ⟨c',hc⟩:=hn (n,k) List.mem_cons_self hk'
   rw [List.lookup_cons] at q
   cases hx:(x == n) with
   | true=>
    rw [hx] at q
    have hx':x = n:=by simpa using hx
    subst hx'
    rw [hc] at q
    simp at q
    rw [hc,q]
   | false=>
    rw [hx] at q
    exact h x c q
  ·exact h x c q
theorem clOf_keeps {cells:List (Str × Addr)} {x:Str}:∀ (names:List (Str × NameKind)) (cs:List (Str × Addr)),(cs.lookup x).isSome = true -> ((clOf cells names cs).lookup x).isSome = true
 | [],cs,h=>h
 | (n,k) :: r,cs,h=>by
  unfold clOf
  refine clOf_keeps r _ ?_
  split
  ·rw [List.lookup_cons]
   split
   ·rfl
   ·exact h
  ·exact h
theorem clOf_has {cells:List (Str × Addr)} {x:Str}:∀ (names:List (Str × NameKind)) (cs:List (Str × Addr)),(x,NameKind.free) ∈ names -> ((clOf cells names cs).lookup x).isSome = true
 | [],_,h=>by cases h
 | (n,k) :: r,cs,h=>by
  unfold clOf
  rcases List.mem_cons.mp h with e | e
  ·cases e
   refine clOf_keeps r _ ?_
   simp
  ·exact clOf_has r _ e
theorem lookup_relabel (env:Env) (x:Str):∀ names:List (Str × NameKind),
  (names.map fun (n,k)=>if (k == NameKind.free && env.scope.kind == .function && env.kindOf n == some .cell) then (n,NameKind.cell) else (n,k)).lookup x =
   (names.lookup x).map fun k=>if (k == NameKind.free && env.scope.kind == .function && env.kindOf x == some .cell) = true then .cell else k
 | []=>rfl
 | (n,k) :: r=>by
  have ih:=lookup_relabel env x r
  simp only [List.map_cons]
  cases hx:(x == n) with
  | true=>
   have hx':x = n:=by simpa using hx
   subst hx'
   by_cases hc:(k == NameKind.free && env.scope.kind == .function && env.kindOf x == some .cell) = true
   ·rw [if_pos hc,List.lookup_cons,List.lookup_cons,hx]
    show some NameKind.cell = some (if (k == NameKind.free && env.scope.kind == .function && env.kindOf x == some .cell) = true then NameKind.cell else k)
    rw [if_pos hc]
   ·rw [if_neg hc,List.lookup_cons,List.lookup_cons,hx]
    show some k = some (if (k == NameKind.free && env.scope.kind == .function && env.kindOf x == some .cell) = true then NameKind.cell else k)
    rw [if_neg hc]
  | false=>
   by_cases hc:(k == NameKind.free && env.scope.kind == .function && env.kindOf n == some .cell) = true
   ·rw [if_pos hc]
    simp only [List.lookup_cons,hx]
    exact ih
   ·rw [if_neg hc]
    simp only [List.lookup_cons,hx]
    exact ih
structure CScope (scope:Scope):Prop where
 kind:scope.kind = .function
 nocell:∀ y ∈ scope.names,y.2 ≠ .cell
 loc:∀ y ∈ scope.names,y.2 = .local -> scope.names.lookup y.1 = some .local
noncomputable def cxC (X:Cx) (scope:Scope) (cl:List (Str × Addr)) (N':List Str) (C:Addr) (s:Shared) (H:Hp) (ex:List Addr):Cx:=
 { X with N:=N',s₀:=s,H₀:=H,env:=compEnvC scope cl C X.env,outer:=X.stack,ex:=ex,fn:=fun _=>false,pn:=[],xe:=fun _ _=>False }
noncomputable def compσ (nt:Nat) (fi:List Nat) (σ:St):St:=List.replicate nt none ++ fi.map fun j=>(σ[j]?).getD none
structure CNames (X:Cx) (scope:Scope) (nt:Nat) (fi:List Nat) (N':List Str):Prop where
 len:N'.length = nt + fi.length
 cap:∀ k j:Nat,fi[k]? = some j -> ∃ x,N'[nt + k]? = some x /\ X.N[j]? = some x /\ scope.names.lookup x = some .free
 fre:∀ y ∈ scope.names,y.2 = .free -> X.env.scope.names.lookup y.1 = some .cell \/ X.env.scope.names.lookup y.1 = some .free
def GK (nt:Nat) (g:TG):Prop:=∀ x σ H Q,g x σ H Q -> g x σ H fun σ' H'=>Q σ' H' /\ σ'.length = σ.length /\ σ'.drop nt = σ.drop nt
def PIf (X:Cx) (ifs:List Expr) (t:TT):Prop:=
 ∀ (pins:List (Addr × Obj)) (s:Shared) (σ:St) (H:Hp) (Q:Bool -> Hp -> Prop),Inv X pins σ H s -> t σ H Q ->
  wpAny (model X.prog X.w) X.A (forIn ifs true fun c r=>if r = true then do let ok <- isTrue c X.env (eval c X.env); pure (ForInStep.yield ok) else pure (ForInStep.yield r)) (TP X pins σ Q) X.xe s
noncomputable def tYes:TT:=fun _ H Q=>Q true H
theorem pif_nil {X:Cx}:PIf X [] tYes:=fun pins s σ H Q I h=>wpAny_tests_nil ⟨H,I,h⟩
theorem pif_one {X:Cx} {c:Expr} {t:TT} (h:PT X c t):PIf X [c] t:=fun pins s σ H Q I q=>wpAny_tests_one (h pins s σ H Q I q)
theorem gk_name {nt i:Nat} (hi:i < nt):GK nt (gName i):=fun x σ H Q h=>by
 refine ⟨h,?_,?_⟩
 ·rw [List.length_set]
 ·rw [List.drop_set_of_lt hi]
section
variable {prog:Program} {w:World} {A:Around} {R:Result -> Shared -> Prop} {s:Shared}
theorem thnF {α:Type} {t:Sem α} {Q Q':α -> Shared -> Prop} {M:Model} {E:Value -> Shared -> Prop} (h:wpAny M A t Q (fun _ _=>False) s) (hQ:∀ a s,Q a s -> Q' a s):wpAny M A t Q' E s:=wpAny_mono h hQ fun _ _ f=>f.elim
theorem compLoop_any {elt target iter:Expr} {ifs:List Expr} {scope:Scope} {pos:Pos} {it acc:Value} {env:Env} (I:Nat -> Shared -> Prop)
  (turn:∀ n s,I n s -> wpAny (model prog w) A (pyNext it) (fun r s₁=>match r with
   | none=>R (.ok .next) s₁
   | some v=>wpAny (model prog w) A (letOwnedTupleGo target it v) (fun _ s₂=>wpAny (model prog w) A (assign target env v) (fun _ s₃=>
     wpAny (model prog w) A (forIn ifs true fun c r=>if r = true then do let ok <- isTrue c env (eval c env); pure (ForInStep.yield ok) else pure (ForInStep.yield r)) (fun ok s₄=>
      if ok = true then wpAny (model prog w) A (eval elt env) (fun x s₅=>wpAny (model prog w) A (call (.builtin "list.append") [acc,x]) (fun _ s₆=>∃ m,m < n /\ I m s₆) (fun _ _=>False) s₅) (fun _ _=>False) s₄
      else ∃ m,m < n /\ I m s₄) (fun _ _=>False) s₃) (fun _ _=>False) s₂) (fun _ _=>False) s₁) (fun _ _=>False) s)
  (n:Nat) (h:I n s):codeAny (model prog w) A (.compLoop (.ListComp elt [⟨target,iter,ifs,0⟩] scope pos) 0 it acc env) R s:=by
 refine codeAny_loop rfl I (fun n s hI=>?_) n h
 show wpAny _ A ((compTurn (.ListComp elt [⟨target,iter,ifs,0⟩] scope pos) 0 it acc env).onRaise (fun x=>do noteFrame x env; theTreesLotGoes x)) _ _ s
 refine wpAny_noted ?_
 rw [compTurn_list]
 refine wpAny_bind (wpAny_standAt (wpAny_bind (thnF (turn n s hI) fun r s₁ h₁=>?_)))
 cases r with
 | none=>exact wpAny_pure h₁
 | some v=>
  refine wpAny_bind (thnF h₁ fun _ s₂ h₂=>wpAny_bind (thnF h₂ fun _ s₃ h₃=>wpAny_bind (thnF h₃ fun ok s₄ h₄=>?_)))
  cases ok with
  | false=>exact wpAny_pure ⟨rfl,h₄⟩
  | true=>exact wpAny_bind (wpAny_bind (thnF h₄ fun x s₅ h₅=>wpAny_bind (thnF h₅ fun _ s₆ h₆=>wpAny_pure (wpAny_pure ⟨rfl,h₆⟩))))
end
noncomputable def tComp (nt:Nat) (fi:List Nat) (wi:TI) (g:TG) (tc:TT) (te:TE):TE:=fun σ H Q=>wi σ H fun J H1=>∀ D,H1 D = none ->
 ∃ W:Nat -> Nat -> List V -> Hp -> Prop,(∃ m,W 0 m [] (upd H1 D (.lst []))) /\ ∀ i m acc H2,W i m acc H2 ->
  (J.stop i H2 /\ Q (.ref D) H2) \/ (J.go i H2 /\ ∀ x H3,J.yld i H2 x H3 -> g x (compσ nt fi σ) H3 fun σ4 H4=>tc σ4 H4 fun b H5=>if b = true then
   te σ4 H5 fun v H6=>H6 D = some (.lst acc) /\ acc.length < sizeLine /\ ∃ m',m' < m /\ W (i + 1) m' (acc ++ [v]) (upd H6 D (.lst (acc ++ [v]))) else ∃ m',m' < m /\ W (i + 1) m' acc H5)
theorem compσ_weak {nt:Nat} {fi:List Nat} {σ σ':St} (hl:σ'.length = (compσ nt fi σ).length) (hd:σ'.drop nt = (compσ nt fi σ).drop nt):∀ (i:Nat) v,(compσ nt fi σ)[i]? = some (some v) -> σ'[i]? = some (some v):=fun i v e=>by
 by_cases hi:i < nt
 ·unfold compσ at e
  rw [List.getElem?_append_left (by simpa using hi),List.getElem?_replicate] at e
  split at e <;> cases e
 ·have ei:i = nt + (i - nt):=by omega
  have q:=congrArg (fun l=>l[i - nt]?) hd
  simp only [List.getElem?_drop] at q
  rw [<- ei] at q
  rw [q]
  exact e
section
variable {X:Cx}
theorem inv_comp {pins:List (Addr × Obj)} {σ:St} {H:Hp} {s:Shared} {scope:Scope} {nt:Nat} {fi:List Nat} {N':List Str} {fp:List Addr} {h₁:Heap} {m:Str -> Option Value} {tk:Nat}
  (I:Inv X pins σ H s) (S:CScope scope) (cn:CNames X scope nt fi N') (hf:∀ b ∈ fp,FpOk X pins H b) (ho:∀ b ∈ fp,∃ o,s.heap.get? b = some o)
  (hns:h₁.Ns s.heap.objs.size m) (kp:∀ b o,s.heap.get? b = some o -> h₁.get? b = some o) (htk:0 < tk):
  Inv (cxC X scope (clOf X.env.cells scope.names []) N' s.heap.objs.size s H fp) (X.pn ++ pins) (compσ nt fi σ) H { s with heap:=h₁,toks:=tk }:=by
 have hfr:∀ y ∈ scope.names,y.2 = .free -> ∃ c,X.env.cells.lookup y.1 = some c:=fun y hy e=>I.ok.has y.1 (cn.fre y hy e)
 have snd:∀ x c,(clOf X.env.cells scope.names []).lookup x = some c -> X.env.cells.lookup x = some c:=fun x c e=>clOf_sound scope.names [] hfr (fun _ _ q=>by simp at q) e
 have offstk:∀ b,b ≠ X.env.locals -> b ∉ X.fs -> b ∉ frs X.stack:=fun b h1 h2 h3=>by
  rcases List.mem_cons.mp (I.stkSub b h3) with e | e
  ·exact h1 e
  ·exact h2 e
 have lt:∀ {b o},s.heap.get? b = some o -> b ≠ s.heap.objs.size:=fun e=>Nat.ne_of_lt (Heap.lt_size e)
 have kinds:∀ x k,(relabel scope X.env).names.lookup x = some k -> (k = .cell \/ k = .free) -> (x,NameKind.free) ∈ scope.names:=fun x k e hk=>by
  have e':(scope.names.map fun (n,k)=>if (k == NameKind.free && X.env.scope.kind == .function && X.env.kindOf n == some .cell) then (n,NameKind.cell) else (n,k)).lookup x = some k:=e
  rw [lookup_relabel] at e'
  cases q:scope.names.lookup x with
  | none=>rw [q] at e'; cases e'
  | some k'=>
   have mem:(x,k') ∈ scope.names:=PySem.mem_of_lookup q
   rw [q] at e'
   simp only [Option.map_some,Option.some.injEq] at e'
   split at e'
   ·rename_i hc
    simp only [Bool.and_eq_true,beq_iff_eq] at hc
    rw [hc.1.1] at mem
    exact mem
   ·subst e'
    rcases hk with z | z
    ·subst z
     exact absurd rfl (S.nocell _ mem)
    ·subst z
     exact mem
 refine ⟨⟨I.ok.mod,S.kind,I.ok.glob,I.ok.blt,Nat.le_refl _,fun x y c e1 e2=>I.ok.inj x y c (snd x c e1) (snd y c e2),fun x hx=>?_,fun x c e=>(nomatch e),I.ok.hd,I.ok.frames,.inl rfl,fun b hb=>⟨?_,fun x c e=>(hf b hb).2.2.2.2.1 x c (snd x c e)⟩,I.bs,?_,fun b o e hb=>?_,fun b hb=>offstk b (hf b hb).2.1 (hf b hb).2.2.1,I.stack,I.stkFree⟩,
  rfl,I.bare,Un.kept kp,⟨m,hns,fun i x v e1 e2 e3=>?_⟩,fun x c e=>?_,I.hok.fresh (Nat.le_refl _),fun x c e=>I.freeC x c (snd x c e),fun p hp=>?_,I.hok.kept kp,?_,htk⟩
 ·have hx':(relabel scope X.env).names.lookup x = some .cell \/ (relabel scope X.env).names.lookup x = some .free:=hx
  have mem:(x,NameKind.free) ∈ scope.names:=by
   rcases hx' with q | q
   ·exact kinds x _ q (.inl rfl)
   ·exact kinds x _ q (.inr rfl)
  exact Option.isSome_iff_exists.mp (clOf_has scope.names [] mem)
 ·obtain ⟨o,e⟩:=ho b hb
  exact lt e
 ·exact Nat.le_trans I.ok.bsz I.sz
 ·rcases (hf b hb).2.2.2.1 with q | q
  ·exact I.ok.noex b o e q
  ·exact absurd (Nat.lt_of_lt_of_le (Heap.lt_size e) (Nat.le_trans I.ok.bsz q)) (Nat.lt_irrefl _)
 ·have hi:¬ i < nt:=fun hi=>by
   unfold compσ at e2
   rw [List.getElem?_append_left (by simpa using hi),List.getElem?_replicate] at e2
   split at e2 <;> cases e2
  have ei:i = nt + (i - nt):=by omega
  have e2':(fi.map fun j=>(σ[j]?).getD none)[i - nt]? = some (some v):=by
   unfold compσ at e2
   rw [List.getElem?_append_right (by simpa using Nat.le_of_not_lt hi)] at e2
   simpa using e2
  rw [List.getElem?_map] at e2'
  cases ej:fi[i - nt]? with
  | none=>rw [ej] at e2'; cases e2'
  | some j=>
   rw [ej] at e2'
   obtain ⟨x',n1,n2,n3⟩:=cn.cap (i - nt) j ej
   rw [<- ei] at n1
   have e1':N'[i]? = some x:=e1
   rw [n1] at e1'
   cases e1'
   have ev:σ[j]? = some (some v):=by
    have e2':some ((σ[j]?).getD none) = some (some v):=e2'
    cases q:σ[j]? with
    | none=>rw [q] at e2'; simp at e2'
    | some w=>rw [q] at e2'; simp at e2'; rw [e2']
   have mem:(x,NameKind.free) ∈ scope.names:=PySem.mem_of_lookup n3
   have vis:=cn.fre _ mem rfl
   obtain ⟨m0,hn0,hl0⟩:=I.loc
   obtain ⟨u,ru,lk⟩:=hl0 j x v n2 ev (.inr vis)
   refine ⟨u,ru,?_⟩
   rcases lk with ⟨q,_⟩ | ⟨q,c,ec,o,hoc,hod⟩
   ·have q':X.env.scope.names.lookup x = some .local:=q
    rcases vis with z | z
    ·have z':X.env.scope.names.lookup x = some .cell:=z
     rw [q'] at z'; cases z'
    ·have z':X.env.scope.names.lookup x = some .free:=z
     rw [q'] at z'; cases z'
   ·obtain ⟨c',ec'⟩:=Option.isSome_iff_exists.mp (clOf_has (cells:=X.env.cells) scope.names [] mem)
    have ecc:=snd x c' ec'
    rw [ec] at ecc
    cases ecc
    refine .inr ⟨?_,c,ec',o,kp c o hoc,hod⟩
    show (relabel scope X.env).names.lookup x = some .cell \/ (relabel scope X.env).names.lookup x = some .free
    have e4:(relabel scope X.env).names.lookup x = (scope.names.lookup x).map fun k=>if (k == NameKind.free && X.env.scope.kind == .function && X.env.kindOf x == some .cell) = true then .cell else k:=lookup_relabel X.env x scope.names
    rw [e4,n3]
    simp only [Option.map_some]
    split
    ·exact .inl rfl
    ·exact .inr rfl
 ·obtain ⟨v,o,hoc,hod⟩:=I.cell x c (snd x c e)
  exact ⟨v,o,kp c o hoc,hod⟩
 ·have hp':p ∈ X.pn ++ pins:=by
   have hp'':p ∈ ([]:List (Addr × Obj)) ++ (X.pn ++ pins):=hp
   simpa using hp''
  obtain ⟨e,n,ne,nf,d⟩:=I.pin p hp'
  exact ⟨kp _ _ e,n,lt e,offstk _ ne nf,d⟩
 ·show (compσ nt fi σ).length = N'.length
  unfold compσ
  rw [cn.len,List.length_append,List.length_replicate,List.length_map]
theorem inv_back {pins:List (Addr × Obj)} {σ σ':St} {H H':Hp} {s s':Shared} {scope:Scope} {cl:List (Str × Addr)} {N':List Str} {fp:List Addr} {C:Addr} {P:List (Addr × Obj)} {h'':Heap}
  (I:Inv X pins σ H s) (hf:∀ b ∈ fp,FpOk X pins H b) (hC:s.heap.objs.size <= C) (J:Inv (cxC X scope cl N' C s H fp) P σ' H' s') (sb:Heap.SameBut C s'.heap h''):Inv X pins σ H' { s' with heap:=h'' }:=by
 have ne:∀ {b o},s.heap.get? b = some o -> b ≠ C:=fun e=>Nat.ne_of_lt (Nat.lt_of_lt_of_le (Heap.lt_size e) hC)
 have u:Un (frs X.stack) fp H H' s.heap s'.heap:=J.base
 refine I.call' (s':={ s' with heap:=h'' }) (ch:=fp) J.os ⟨fun b o e n hb hx=>?_,fun b o e n hb hx=>?_,u.free,fun b o e hx=>?_,u.tups,u.frzs,u.tbls⟩ (fun b o e=>?_) J.bare (fun b hb=>?_) J.tk
 ·exact (sb.2 b (ne e)).trans (u.keep b o e n hb hx)
 ·obtain ⟨sl,q⟩:=u.slot b o e n hb hx
  exact ⟨sl,(sb.2 b (ne e)).trans q⟩
 ·obtain ⟨o',q⟩:=u.there b o e hx
  exact ⟨o',(sb.2 b (ne e)).trans q⟩
 ·have fr:H' C = none:=J.free
  refine (J.hok b o e).stay (fun c v hc q=>(sb.2 c ?_).trans q) (fun _ q=>q) fun _ _ q=>q
  rintro rfl
  rcases hc with z | z
  ·subst z
   rw [fr] at e
   cases e
  ·rw [fr] at z
   cases z
 ·obtain ⟨f0,f1,f2,f3,f4,f5⟩:=hf b hb
  exact ⟨f3,f1,f4,f5⟩
theorem pe_comp {elt tg iter:Expr} {ifs:List Expr} {scope:Scope} {pos:Pos} {wi:TI} {g:TG} {tc:TT} {te:TE} {nt:Nat} {fi:List Nat} {N':List Str} (hcalm:X.calm = true)
  (S:CScope scope) (cn:CNames X scope nt fi N') (gk:GK nt g) (hi:PI X tg iter wi)
  (hg:∀ cl C s H ex,PG (cxC X scope cl N' C s H ex) tg g) (hc:∀ cl C s H ex,PIf (cxC X scope cl N' C s H ex) ifs tc) (he:∀ cl C s H ex,PE (cxC X scope cl N' C s H ex) elt te)
  (hs:∀ x,foldedSetIterable iter X.env x = pure x:=by intro _; rfl):PE X (.ListComp elt [⟨tg,iter,ifs,0⟩] scope pos) (tComp nt fi wi g tc te):=by
 intro pins s σ H Q I h
 have hfr:∀ y ∈ scope.names,y.2 = .free -> ∃ c,X.env.cells.lookup y.1 = some c:=fun y hy e=>I.ok.has y.1 (cn.fre y hy e)
 rw [eval_ListComp]
 refine wpAny_comprehension_free (use:=none) rfl hs (closureFor_some hfr) S.kind S.loc (thn (hi pins s σ H _ I h) fun v s1 h1=>thn h1 fun itv s2 h2=>?_)
 obtain ⟨it,fp,tn,J,H2,e,I2,T,st2,f2,hW⟩:=h2
 subst e
 have fD:H2 s2.heap.objs.size = none:=I2.hok.fresh (Nat.le_refl _)
 obtain ⟨W,⟨m0,w0⟩,turn⟩:=hW s2.heap.objs.size fD
 refine wpAny_newObj_type (wpAny_newFunctionEnv S.nocell (by intro y hy; simp at hy) (fun h₁ hns₁ hsb₁=>?_) S.kind)
 have I3:Inv X pins σ (upd H2 s2.heap.objs.size (.lst [])) { s2 with heap:=s2.heap.push { cls:=.type "list",dict:=none,data:=.seq ([]:List Value).toArray } }:=I2.lnew (its:=[]) (t':=s2.toks) .nil (Nat.zero_le _)
 generalize hs3:({ s2 with heap:=s2.heap.push { cls:=.type "list",dict:=none,data:=.seq ([]:List Value).toArray } }:Shared) = s3 at I3 hns₁ hsb₁ ⊢
 have hsz:s3.heap.objs.size = s2.heap.objs.size + 1:=by rw [<- hs3]; exact Heap.size_push ..
 have ob2:∀ b ∈ fp,∃ o,s3.heap.get? b = some o:=fun b hb=>by
  obtain ⟨o,e,_⟩:=T.obj _ _ st2 b hb
  rw [<- hs3]
  exact ⟨o,Heap.get?_push_of_some _ e⟩
 have f3:∀ b ∈ fp,FpOk X pins (upd H2 s2.heap.objs.size (.lst [])) b:=fun b hb=>by
  obtain ⟨o,e,_⟩:=T.obj _ _ st2 b hb
  refine ⟨?_,(f2 b hb).2⟩
  rw [upd_ne (Nat.ne_of_lt (Heap.lt_size e))]
  exact (f2 b hb).1
 have kp:∀ b o,s3.heap.get? b = some o -> h₁.get? b = some o:=fun b o e=>hsb₁.extBut b o (Nat.ne_of_lt (Heap.lt_size e)) (Heap.get?_push_of_some _ e)
 have st3:tn 0 h₁:=T.keep _ _ _ st2 fun b _ o e=>kp b o (by rw [<- hs3]; exact Heap.get?_push_of_some _ e)
 have J4:Inv (cxC X scope (clOf X.env.cells scope.names []) N' s3.heap.objs.size s3 (upd H2 s2.heap.objs.size (.lst [])) fp) (X.pn ++ pins) (compσ nt fi σ) (upd H2 s2.heap.objs.size (.lst [])) { s3 with heap:=h₁,toks:=s3.toks + ([]:List (Str × Value)).length }:=
  inv_comp I3 S cn f3 ob2 hns₁ kp I3.tk
 generalize hcl:clOf X.env.cells scope.names [] = cl at J4 ⊢
 generalize hH3:upd H2 s2.heap.objs.size (.lst []) = H3 at J4 I3 f3 w0
 have stat:∀ {H':Hp},(∀ b ∈ fp,H' b = none) -> ∀ b ∈ fp,FpOk (cxC X scope cl N' s3.heap.objs.size s3 H3 fp) (X.pn ++ pins) H' b:=fun {H'} hn b hb=>by
  obtain ⟨g0,g1,g2,g3,g4,g5⟩:=f3 b hb
  have ok:=J4.ok
  refine ⟨hn b hb,(ok.exf b hb).1,ok.exfs b hb,.inl hb,(ok.exf b hb).2,fun p hp=>g5 p ?_⟩
  have hp':p ∈ ([]:List (Addr × Obj)) ++ (X.pn ++ pins):=hp
  simpa using hp'
 have loop:∀ s₃:Shared,s₃ = { s3 with heap:=h₁,toks:=s3.toks + ([]:List (Str × Value)).length } ->
   codeAny (model X.prog X.w) X.A (.compLoop (.ListComp elt [⟨tg,iter,ifs,0⟩] scope pos) 0 (.ref it) (.ref s2.heap.objs.size) (compEnvC scope cl s3.heap.objs.size X.env))
    (compPost (model X.prog X.w) X.A X.xe none (EP X pins σ Q) (.ref s2.heap.objs.size) s3.heap.objs.size) s₃:=by
  rintro s₃ rfl
  refine compLoop_any (fun n s'=>∃ i acc H',Inv (cxC X scope cl N' s3.heap.objs.size s3 H3 fp) (X.pn ++ pins) (compσ nt fi σ) H' s' /\ tn i s'.heap /\ (∀ b ∈ fp,H' b = none) /\ W i n acc H') ?_ m0
   ⟨0,[],H3,J4,st3,fun b hb=>(f3 b hb).1,w0⟩
  rintro n s5 ⟨i,acc,H5,I5,st5,fr5,w5⟩
  rcases turn i n acc H5 w5 with ⟨stop,qn⟩ | ⟨go,step⟩
  ·refine thn (T.done (cxC X scope cl N' s3.heap.objs.size s3 H3 fp) rfl rfl rfl hcalm i (X.pn ++ pins) s5 (compσ nt fi σ) H5 (fun _ _=>False) I5 (stat fr5) st5 stop) fun r s6 ⟨hr,I6⟩=>?_
   subst hr
   obtain ⟨m6,hn6,_⟩:=I6.loc
   exact ⟨m6,hn6,fun h' sb=>⟨.ref s2.heap.objs.size,H5,inv_back I3 f3 (Nat.le_refl _) I6 sb,rfl,qn⟩⟩
  ·refine thn (T.item (cxC X scope cl N' s3.heap.objs.size s3 H3 fp) rfl rfl rfl hcalm i (X.pn ++ pins) s5 (compσ nt fi σ) H5 (fun _ _=>False) I5 (stat fr5) st5 go) fun r s6 ⟨u,hr,h6⟩=>?_
   subst hr
   refine thn h6 fun _ s7 ⟨x,H7,I7,r7,y7,st7,fr7⟩=>?_
   have I7':=I7.pinned (stat fr7) (T.obj _ _ st7)
   refine thn (hg _ _ _ _ _ _ s7 (compσ nt fi σ) H7 x u _ I7' r7 (gk _ _ _ _ (step x H7 y7))) fun _ s8 ⟨σ8,H8,I8,q8,l8,d8⟩=>?_
   refine thn (hc _ _ _ _ _ _ s8 σ8 H8 _ I8 q8) fun b s9 ⟨H9,I9,q9⟩=>?_
   have again:∀ {s':Shared} {H':Hp} {m':Nat} {acc':List V},Inv (cxC X scope cl N' s3.heap.objs.size s3 H3 fp) ((X.pn ++ pins) ++ pinsAt fp s7.heap) σ8 H' s' -> m' < n -> W (i + 1) m' acc' H' ->
     ∃ m,m < n /\ ∃ i acc H',Inv (cxC X scope cl N' s3.heap.objs.size s3 H3 fp) (X.pn ++ pins) (compσ nt fi σ) H' s' /\ tn i s'.heap /\ (∀ b ∈ fp,H' b = none) /\ W i m acc H':=fun {s' H' m' acc'} I' hm w'=>by
    refine ⟨m',hm,i + 1,acc',H',I'.unpinned.weak l8.symm (compσ_weak l8 d8),T.keep _ _ _ st7 fun b hb o e=>(I'.pin (b,o) (List.mem_append_right _ (List.mem_append_right _ (mem_pinsAt hb e)))).1,fun b hb=>?_,w'⟩
    obtain ⟨o,e,d⟩:=T.obj _ _ st7 b hb
    exact (I'.pin (b,o) (List.mem_append_right _ (List.mem_append_right _ (mem_pinsAt hb e)))).2.1
   cases b with
   | false=>
    rw [if_neg Bool.false_ne_true] at q9 ⊢
    obtain ⟨m',hm,w'⟩:=q9
    exact again I9 hm w'
   | true=>
    rw [if_pos rfl] at q9 ⊢
    refine thn (he _ _ _ _ _ _ s9 σ8 H9 _ I9 q9) fun uv s10 ⟨v10,H10,I10,r10,hD,hlt,m',hm,w'⟩=>?_
    refine thn (mt_append (X:=cxC X scope cl N' s3.heap.objs.size s3 H3 fp) _ s10 σ8 H10 (.ref s2.heap.objs.size) [v10] (.ref s2.heap.objs.size) [uv] (fun _ H'=>H' = upd H10 s2.heap.objs.size (.lst (acc ++ [v10]))) I10 rfl (.cons r10 .nil) ⟨_,acc,v10,rfl,rfl,hD,hlt,rfl⟩) fun _ s11 ⟨_,H11,I11,_,e11⟩=>?_
    subst e11
    exact again I11 hm w'
 exact codeAny_compStart_list (loop _ rfl) (T.self _ 0 _ _ _ st3 (loop _ rfl))
end
noncomputable abbrev st (l:List Nat):Str:=⟨l.toArray⟩
theorem st_cps (l:List Nat):(st l).cps.toList = l:=rfl
theorem st_app (l m:List Nat):st l ++ st m = st (l ++ m):=by
 show Str.append (st l) (st m) = _
 simp [Str.append]
theorem st_inj {l m:List Nat}:st l = st m ↔ l = m:=by simp
theorem strsAre_of {ys:List Str}:∀ {us:List Value},Vals (ys.map V.str) us -> StrsAre us ys:=by
 induction ys with
 | nil=>intro us r; cases r; exact .nil
 | cons y r ih=>
  intro us h
  cases h with
  | cons r1 r2=>
   obtain ⟨t,rfl⟩:=r1
   exact .cons y t (ih r2)
theorem txt_join_ones (l:List Nat):Txt.join ⟨#[]⟩ (l.map fun k=>(⟨#[k]⟩:Str)) = st l:=by
 have h:=join_plain_closes ⟨#[]⟩ (l.map fun k=>(⟨#[k]⟩:Str))
 rw [eq_of_beq h]
 exact join_ones l
section
variable {X:Cx}
noncomputable def rJoin (K:Frag):V -> List V -> Hp -> VK -> Prop:=fun x vs H Q=>∃ sep l ys,x = .str sep /\ vs = [.ref l] /\ SqL K H l (ys.map V.str) /\ (ys.map (·.length)).sum + ys.length * sep.length <= 16777216 /\ Q (.str (Txt.join sep ys)) H
theorem mt_join:MtR X "str.join" (rJoin X.K):=by
 intro pins s σ H x vs v us Q I rx rv h
 obtain ⟨sep,l,ys,rfl,rfl,hq,hz,q⟩:=h
 obtain ⟨t,rfl⟩:=rx
 obtain ⟨u,rfl,ru⟩:=rv.one
 cases ru
 obtain ⟨its,r,pl,_⟩:=I.list hq
 exact tokQ I.tk (join_list pl.isList (strsAre_of r) hz fun t' k (htk:0 < k)=>⟨.str _,H,I.tok _,⟨_,rfl⟩,q⟩)
theorem sum_ones (l:List Nat):((l.map fun k=>(⟨#[k]⟩:Str)).map (·.length)).sum = l.length:=by
 induction l with
 | nil=>rfl
 | cons a r ih=>
  rw [List.map_cons,List.map_cons,List.sum_cons,ih,List.length_cons]
  show 1 + r.length = r.length + 1
  omega
noncomputable def rJoin1 (K:Frag):V -> List V -> Hp -> VK -> Prop:=fun x vs H Q=>∃ l cs,x = .str (Str.ofString "") /\ vs = [.ref l] /\ SqL K H l (cs.map fun k=>V.str ⟨#[k]⟩) /\ cs.length <= 10000 /\ Q (.str (st cs)) H
theorem ofString_nil:Str.ofString "" = ⟨#[]⟩:=by decide +kernel
theorem mt_join1:MtR X "str.join" (rJoin1 X.K):=by
 intro pins s σ H x vs v us Q I rx rv h
 obtain ⟨l,cs,rfl,rfl,hq,hz,q⟩:=h
 refine mt_join pins s σ H _ _ v us Q I rx rv ⟨_,l,cs.map fun k=>⟨#[k]⟩,rfl,rfl,?_,?_,?_⟩
 ·rw [List.map_map]
  exact hq
 ·rw [sum_ones,List.length_map,ofString_nil]
  show cs.length + cs.length * 0 <= 16777216
  omega
 ·rw [ofString_nil,txt_join_ones]
  exact q
noncomputable def rSlS:V -> Option Int -> Option Int -> Hp -> VK -> Prop:=fun x lo hi H Q=>∃ z,x = .str z /\ z.length <= sizeLine /\ Q (.str (Txt.slice z lo hi)) H
theorem sl_str:SlR X rSlS:=by
 intro pins s σ H x v vl vu lo hi sl Q I rx hs pl pu h
 obtain ⟨z,rfl,hz,q⟩:=h
 obtain ⟨t,rfl⟩:=rx
 have fin:∀ t' k,0 < k -> EP X pins σ Q (.str (Txt.slice z lo hi) t') { s with toks:=k }:=fun t' k htk=>⟨.str _,H,I.tok _,⟨_,rfl⟩,q⟩
 refine ⟨"str",_,F.slot_str_getitem.lookup,typeIs_str _ _ _,tokQ I.tk ?_⟩
 obtain ⟨o,e1,e2,e3⟩:=id hs
 cases pl with
 | none=>
  cases pu with
  | none=>exact wpAny_getItem_str_slice (l:=none) (u:=none) (st:=none) ⟨o,e1,e2,e3⟩ rfl (post_val_or_str ⟨Nat.le_trans (Txt.slice_le z _ _) hz,fin⟩)
  | int j tj=>exact wpAny_getItem_str_slice (l:=none) (u:=some (j,tj)) (st:=none) ⟨o,e1,e2,e3⟩ rfl (post_val_or_str ⟨Nat.le_trans (Txt.slice_le z _ _) hz,fin⟩)
 | int i ti=>
  cases pu with
  | none=>exact wpAny_getItem_str_slice (l:=some (i,ti)) (u:=none) (st:=none) ⟨o,e1,e2,e3⟩ rfl (post_val_or_str ⟨Nat.le_trans (Txt.slice_le z _ _) hz,fin⟩)
  | int j tj=>exact wpAny_getItem_str_slice (l:=some (i,ti)) (u:=some (j,tj)) (st:=none) ⟨o,e1,e2,e3⟩ rfl (post_val_or_str ⟨Nat.le_trans (Txt.slice_le z _ _) hz,fin⟩)
theorem slice_to (l:List Nat) (k:Nat) (h:k <= l.length):Txt.slice (st l) none (some (k:Int)) = st (l.take k):=by
 have q:=slice_closes_to (x:=st l) (j:=(k:Int)) ⟨by omega,by simpa using h⟩
 rw [eq_of_beq q]
 simp
theorem slice_from (l:List Nat) (k:Nat) (h:k <= l.length):Txt.slice (st l) (some (k:Int)) none = st (l.drop k):=by
 have q:=slice_from_eq (x:=st l) (i:=(k:Int)) (b:=(l.length:Int)) (by omega) (by simpa [Str.length] using h) (by simp [Str.length])
 rw [q]
 simp only [st_cps,Int.toNat_natCast]
 rw [List.take_of_length_le (by rw [List.length_drop]; omega)]
theorem op_mul_str:OpR X (binaryOp .Mult) (fun x y H Q=>∃ z n,x = .str z /\ y = .int n /\ MulOk z n /\ Q (.str (Txt.mul z n)) H):=by
 intro pins s σ H x y v u Q I rx ry h
 obtain ⟨z,n,rfl,rfl,hok,q⟩:=h
 obtain ⟨t,rfl⟩:=rx
 obtain ⟨t',rfl⟩:=ry
 exact tokQ I.tk (SB.mul hok fun t' k (htk:0 < k)=>⟨.str _,H,I.tok _,⟨_,rfl⟩,q⟩)
theorem mul1 (k n:Nat):Txt.mul ⟨#[k]⟩ (n:Int) = st (List.replicate n k):=by
 have q:=mul_one_list k (n:Int)
 rw [Int.toNat_natCast] at q
 have e:∀ x:Str,x = ⟨x.cps.toList.toArray⟩:=fun x=>by simp
 rw [e (Txt.mul ⟨#[k]⟩ (n:Int)),q]
theorem call_isinst:CallR X (.builtin "isinstance") (fun xs H Q=>∃ x n t b,xs = [x,.ty n] /\ TyOf X.K H x t /\ PySem.W.kitOne X.K t (.type n) = some b /\ Q (.bl b) H):=by
 intro pins s σ H xs us Q I r h
 obtain ⟨x,n,t,b,rfl,ty,e,q⟩:=h
 obtain ⟨u,w',rfl,r1,r2⟩:=vals2 r
 cases r2
 exact tokQ I.tk (isinst_ok I r1 ty e fun tk (htk:0 < tk)=>⟨.bl b,H,I.tok _,rfl,q⟩)
theorem op_eq_nil (hu:X.A.units < cLine):OpR X (compareOp .Eq) (fun x y H Q=>∃ a b xs,x = .ref a /\ y = .ref b /\ SqL X.K H a xs /\ SqL X.K H b [] /\ Q (.bl (decide (xs = []))) H):=by
 intro pins s σ H x y v u Q I rx ry h
 obtain ⟨a,b,xs,rfl,rfl,ha,hb,q⟩:=h
 cases rx
 cases ry
 obtain ⟨its,r1,p1,_⟩:=I.list ha
 obtain ⟨its2,r2,p2,_⟩:=I.list hb
 cases r2
 cases r1 with
 | nil=>exact SeqAt.eq_listAt (e:=fun _=>true) p1.isList p2.isList rfl hu (fun j h1 _=>absurd h1 (by simp)) ⟨.bl true,H,I,rfl,q⟩
 | cons rx rr=>exact SeqAt.eq_list_lengthsAt p1.isList p2.isList (by simp) hu ⟨.bl false,H,I,rfl,by simpa using q⟩
theorem call_int_txt:CallR X (.type "int") (fun xs H Q=>∃ z n,xs = [.str z] /\ PySem.intText? z = some n /\ z.length <= 640 /\ Q (.int n) H):=by
 intro pins s σ H xs us Q I r h
 obtain ⟨z,n,rfl,e,hz,q⟩:=h
 obtain ⟨u,rfl,t,rfl⟩:=vals1 r
 exact PySem.W.KIN.call_text e hz ⟨.int n,H,I.tok _,⟨_,rfl⟩,q⟩
end
def Fn (K:Frag) (mg:Str -> Option Value) (x:Str) (st:Stmt):Prop:=∃ f fd,Fun K x x st f fd /\ mg x = some (.ref f)
def Callee (P:Program) (w:World) (K:Frag) (mg:Str -> Option Value) (base:Heap) (k:Nat) (x:Str) (ps:List Str) (sp:Sp):Prop:=
 ∃ f fd,FnOk P w K mg base CX0 k f fd ps sp /\ Binds K fd ps [] /\ keepIn K (.ref f) = true /\ mg x = some (.ref f)
theorem Callee.mono {P:Program} {w:World} {K:Frag} {mg:Str -> Option Value} {base:Heap} {j k:Nat} {x:Str} {ps:List Str} {sp:Sp} (C:Callee P w K mg base j x ps sp) (h:j <= k):Callee P w K mg base k x ps sp:=by
 obtain ⟨f,fd,F,r⟩:=C
 exact ⟨f,fd,F.mono h,r⟩
theorem Fn.cal {P:Program} {w:World} {K:Frag} {mg:Str -> Option Value} {base:Heap} {x:Str} {st:Stmt} {N ps:List Str} {k:Nat} {sp:Sp} (F:Fn K mg x st) (S:FnScope N ps (defScope st)) (len:∀ vs H Q E,sp vs H Q E -> vs.length = ps.length)
  (hb:∀ (kV doc pm:Value) (an:Option Addr) (cdv ct:Value) (us:List Value),us.length = ps.length -> bindArgs (fnOf x x (defArgs st) (defBody st) (defScope st) .none kV doc pm an cdv ct) ⟨us,[]⟩ = pure (ps.zip us))
  (hbody:∀ (f:Addr) (cdv:Value) (A:Around) (outer:List Env) (s:Shared) (H:Hp) (vs:List V) (Q:VK) (E:XK),Room k (A.deeper (envOfC x (defScope st) s.heap.objs.size f cdv)) -> sp vs H Q E ->
   ∃ t,PSs (cxOf CX0 P w K mg base N x (defScope st) f cdv A outer s H E).nox (defBody st) t /\ t { nx:=fun _ H'=>Q .non H',rt:=Q } (start N vs) H):Callee P w K mg base (k + 1) x ps sp:=by
 obtain ⟨f,fd,F,m⟩:=F
 exact ⟨f,fd,F.ok S len (hbody f),F.binds hb,F.kp,m⟩
section
variable {X:Cx} {k:Nat} {x:Str} {ps:List Str} {sp:Sp} {p pos:Pos} {e:Expr} {es:List Expr} {t:TA}
theorem pe_fn (C:Callee X.prog X.w X.K X.mg X.base k x ps sp) (hr:Room k X.A) (hg:Gl X x) (ha:PA X (e :: es) t)
  (he:starEach (e :: es) X.env = (false,eval e X.env) :: starEach es X.env:=by rfl) (hpl:(backTo pos (starEach es X.env)).any (·.1) = false:=by rfl) (hd:(x == ("__debug__" : Str)) = false:=by decide):PE X (.Call (.Name x p) (e :: es) [] pos) (tCall sp [] E0 t):=by
 obtain ⟨f,fd,F,b,kp,m⟩:=C
 exact pe_call F hr hg m kp b .nil pass0 ha (hdb:=hd) (he:=he) (hpl:=hpl)
end
noncomputable def tJoin (t u:TS):TS:=fun D σ H=>∃ J:St -> Hp -> Prop,t { D with nx:=J } σ H /\ ∀ σ' H',J σ' H' -> u D σ' H'
theorem pss_join {X:Cx} {st:Stmt} {rest:List Stmt} {t u:TS} (h1:PS X st t) (h2:PSs X rest u):PSs X (st :: rest) (tJoin t u):=by
 intro pins s σ H D I h
 obtain ⟨J,hj,hr⟩:=h
 refine wpAny_execs_cons (thn (h1 pins s σ H { D with nx:=J } I hj) fun f s1 q=>?_)
 cases f with
 | next=>
  obtain ⟨σ',H',I',q⟩:=q
  exact h2 pins s1 σ' H' D I' (hr σ' H' q)
 | ret v=>exact q
 | brk=>exact q
 | cont=>exact q
theorem iteTd {c A B:Prop} [Decidable c] (hc:c) (h:A):if decide c = true then A else B:=by
 rw [decide_eq_true hc]
 exact iteT h
theorem iteFd {c A B:Prop} [Decidable c] (hc:¬ c) (h:B):if decide c = true then A else B:=by
 rw [decide_eq_false hc]
 exact iteF h
theorem ite2d {c A B:Prop} [Decidable c] (h1:c -> A) (h2:¬ c -> B):if decide c = true then A else B:=by
 by_cases h:c
 ·exact iteTd h (h1 h)
 ·exact iteFd h (h2 h)
theorem same_new {H:Hp} {p:Addr} (h:H p = none) (o:HO):Same H (upd H p o):=fun b u q=>by rw [upd_ne (ne_of_none q h)]; exact q
theorem same_upd {H H':Hp} {p:Addr} {o:HO} (s:Same H H') (h:H p = none):Same H (upd H' p o):=fun b u q=>by rw [upd_ne (ne_of_none q h)]; exact s b u q
theorem sizeBig {n:Nat} (h:n <= 100000):n < sizeLine:=Nat.lt_of_le_of_lt h (by decide)
def RowL (l:List Nat):Prop:=∀ c ∈ l,c = 48 \/ c = 49 \/ c = 45
theorem RowL.nil:RowL []:=fun _ h=>nomatch h
theorem RowL.snoc {l:List Nat} {c:Nat} (h:RowL l) (hc:c = 48 \/ c = 49 \/ c = 45):RowL (l ++ [c]):=fun d hd=>by
 rcases List.mem_append.mp hd with q | q
 ·exact h d q
 ·rw [List.mem_singleton.mp q]
  exact hc
section
variable {X:Cx}
theorem PE.imp {e:Expr} {t t':TE} (h:PE X e t) (k:∀ σ H Q,t' σ H Q -> t σ H Q):PE X e t':=fun pins s σ H Q I q=>h pins s σ H Q I (k σ H Q q)
theorem PT.imp {e:Expr} {t t':TT} (h:PT X e t) (k:∀ σ H Q,t' σ H Q -> t σ H Q):PT X e t':=fun pins s σ H Q I q=>h pins s σ H Q I (k σ H Q q)
theorem PI.imp {tg e:Expr} {t t':TI} (h:PI X tg e t) (k:∀ σ H Q,t' σ H Q -> t σ H Q):PI X tg e t':=fun pins s σ H Q I q=>h pins s σ H Q I (k σ H Q q)
theorem PG.imp {e:Expr} {t t':TG} (h:PG X e t) (k:∀ v σ H Q,t' v σ H Q -> t v σ H Q):PG X e t':=fun pins s σ H v u Q I r q=>h pins s σ H v u Q I r (k v σ H Q q)
theorem OpR.imp {f:Value -> Value -> Sem Value} {r r':R2} (h:OpR X f r) (k:∀ x y H Q,r' x y H Q -> r x y H Q):OpR X f r':=fun pins s σ H x y v u Q I rx ry q=>h pins s σ H x y v u Q I rx ry (k x y H Q q)
theorem CallR.imp {f:Value} {r r':List V -> Hp -> VK -> Prop} (h:CallR X f r) (k:∀ xs H Q,r' xs H Q -> r xs H Q):CallR X f r':=fun pins s σ H xs us Q I r q=>h pins s σ H xs us Q I r (k xs H Q q)
theorem IxR.imp {r r':R2} (h:IxR X r) (k:∀ x y H Q,r' x y H Q -> r x y H Q):IxR X r':=fun a b pins s σ H x y v u Q I rx ry q=>h a b pins s σ H x y v u Q I rx ry (k x y H Q q)
theorem MtR.imp {id:String} {r r':V -> List V -> Hp -> VK -> Prop} (h:MtR X id r) (k:∀ x xs H Q,r' x xs H Q -> r x xs H Q):MtR X id r':=fun pins s σ H x xs v us Q I rx r q=>h pins s σ H x xs v us Q I rx r (k x xs H Q q)
theorem SlR.imp {r r':V -> Option Int -> Option Int -> Hp -> VK -> Prop} (h:SlR X r) (k:∀ x a b H Q,r' x a b H Q -> r x a b H Q):SlR X r':=fun pins s σ H x v vl vu lo hi sl Q I rx hs pl pu q=>h pins s σ H x v vl vu lo hi sl Q I rx hs pl pu (k x lo hi H Q q)
noncomputable def cVar (i:Nat):TE:=fun σ H Q=>match σ[i]? with | some (some v)=>Q v H | _=>False
theorem qv (i:Nat) {x:Str} {pos:Pos} (hN:X.N[i]? = some x:=by rfl) (hv:Vis X.env.scope x:=by first | exact Or.inl rfl | exact Or.inr (Or.inl rfl) | exact Or.inr (Or.inr rfl)) (hd:(x == ("__debug__" : Str)) = false:=by decide)
  (hcd:(x == ("__classdict__" : Str)) = false:=by decide):PE X (.Name x pos) (cVar i):=(pe_var hN hv hd hcd).imp fun σ H Q q=>by
 unfold cVar at q
 split at q
 ·exact ⟨_,by assumption,q⟩
 ·exact q.elim
theorem qs (l:List Nat) {x:Str} {j pos} (h:x = st l:=by decide +kernel):PE X (.Constant (.str x) j pos) (tC (.str (st l))):=by
 rw [<- h]
 exact pe_str
theorem st_eta (a:Str):st a.cps.toList = a:=by simp
noncomputable def kAdd:R2:=fun x y H Q=>match x,y with
 | .int i,.int j=>Q (.int (i + j)) H
 | .str a,.str b=>a.cps.toList.length + b.cps.toList.length <= 100000 /\ Q (.str (st (a.cps.toList ++ b.cps.toList))) H
 | .ref l,.ref b=>∃ xs zs,H l = some (.lst xs) /\ H b = some (.lst zs) /\ xs.length + zs.length <= sizeLine /\ ∀ p,H p = none -> Q (.ref p) (upd H p (.lst (xs ++ zs)))
 | _,_=>False
theorem op_addK:OpR X (binaryOp .Add) kAdd:=by
 intro pins s σ H x y v u Q I rx ry q
 unfold kAdd at q
 split at q
 ·exact op_add pins s σ H _ _ v u Q I rx ry ⟨_,_,rfl,rfl,q⟩
 ·obtain ⟨h,q⟩:=q
  refine op_add_str pins s σ H _ _ v u Q I rx ry ⟨_,_,rfl,rfl,?_,?_⟩
  ·have:(100000:Nat) <= sizeLine:=by decide
   simp only [Array.length_toList] at h
   simp only [Str.length]
   omega
  ·rename_i a b
   have e:a ++ b = st (a.cps.toList ++ b.cps.toList):=by
    rw [<- st_app,st_eta,st_eta]
   rw [e]
   exact q
 ·obtain ⟨xs,zs,h1,h2,h3,q⟩:=q
  exact op_cat pins s σ H _ _ v u Q I rx ry ⟨_,_,_,_,rfl,rfl,h1,h2,h3,q⟩
 ·exact q.elim
noncomputable def kI (C:Int -> Int -> Prop) (g:Int -> Int -> V):R2:=fun x y H Q=>match x,y with
 | .int i,.int j=>C i j /\ Q (g i j) H
 | _,_=>False
noncomputable def kI0 (g:Int -> Int -> V):R2:=fun x y H Q=>match x,y with
 | .int i,.int j=>Q (g i j) H
 | _,_=>False
theorem kI_imp {C:Int -> Int -> Prop} {g:Int -> Int -> V}:∀ x y H Q,kI C g x y H Q -> rI C g x y H Q:=fun x y H Q q=>by
 unfold kI at q
 split at q
 ·exact ⟨_,_,rfl,rfl,q.1,q.2⟩
 ·exact q.elim
theorem kI0_imp {g:Int -> Int -> V}:∀ x y H Q,kI0 g x y H Q -> rI0 g x y H Q:=fun x y H Q q=>by
 unfold kI0 at q
 split at q
 ·exact ⟨_,_,rfl,rfl,q⟩
 ·exact q.elim
noncomputable abbrev kSub:R2:=kI0 fun i j=>.int (i - j)
noncomputable abbrev kMod:R2:=kI (fun _ j=>0 < j) fun i j=>.int (i % j)
noncomputable abbrev kFdiv:R2:=kI CDiv fun i j=>.int (i / j)
theorem op_subK:OpR X (binaryOp .Sub) kSub:=op_sub.imp kI0_imp
theorem op_modK:OpR X (binaryOp .Mod) kMod:=op_mod.imp kI_imp
theorem op_fdivK:OpR X (binaryOp .FloorDiv) kFdiv:=op_fdiv.imp kI_imp
noncomputable def kMul:R2:=fun x y H Q=>match x,y with
 | .int i,.int j=>CMul i j /\ Q (.int (i * j)) H
 | .str a,.int n=>∃ c,a.cps.toList = [c] /\ 0 <= n /\ n <= 10000 /\ Q (.str (st (List.replicate n.toNat c))) H
 | .ref l,.int k=>∃ xs,H l = some (.lst xs) /\ 0 <= k /\ k <= 10000 /\ xs.length = 1 /\ ∀ p,H p = none -> Q (.ref p) (upd H p (.lst (List.replicate k.toNat xs).flatten))
 | _,_=>False
theorem mulOk_one (k n:Nat) (hn:n <= 10000):MulOk ⟨#[k]⟩ (n:Int):=by
 have hl:(⟨#[k]⟩:Str).length = 1:=rfl
 refine ⟨?_,fun _ _=>?_,fun _ _=>?_⟩
 ·rw [decide_eq_false (by omega),decide_eq_false (by omega)]
  rfl
 ·rw [hl]
  intro z
  have:(2 ^ 63 - 1) / (n:Int) < 1:=by omega
  have h2:(n:Int) <= 10000:=by omega
  have h1:¬ (n:Int) < 1:=by assumption
  have h3:1 <= (2 ^ 63 - 1) / (n:Int):=by
   rw [Int.le_ediv_iff_mul_le (by omega)]
   omega
  omega
 ·rw [hl]
  unfold PySem.Builtin.Str.tooLong sizeLine
  exact decide_eq_false (by rw [Int.toNat_natCast]; have:(2:Nat) ^ 24 = 16777216:=(by decide); omega)
theorem op_mulK:OpR X (binaryOp .Mult) kMul:=by
 intro pins s σ H x y v u Q I rx ry q
 unfold kMul at q
 split at q
 ·exact op_mul pins s σ H _ _ v u Q I rx ry ⟨_,_,rfl,rfl,q.1,q.2⟩
 ·obtain ⟨c,e,h0,h1,q⟩:=q
  rename_i a n
  obtain ⟨k,rfl⟩:∃ k:Nat,n = k:=⟨n.toNat,by omega⟩
  have ea:a = ⟨#[c]⟩:=by rw [<- st_eta a,e]
  subst ea
  refine op_mul_str pins s σ H _ _ v u Q I rx ry ⟨_,_,rfl,rfl,mulOk_one c k (by omega),?_⟩
  rw [mul1]
  exact q
 ·obtain ⟨xs,h1,h2,h3,h4,q⟩:=q
  refine op_rep pins s σ H _ _ v u Q I rx ry ⟨_,_,_,rfl,rfl,h1,by omega,by omega,?_,q⟩
  have:(10000:Nat) <= sizeLine:=by decide
  rw [h4]
  omega
 ·exact q.elim
noncomputable def kEq (neg:Bool):R2:=fun x y H Q=>match x,y with
 | .int i,.int j=>Q (.bl (neg ^^ decide (i = j))) H
 | .str a,.str b=>Q (.bl (neg ^^ decide (a.cps.toList = b.cps.toList))) H
 | .bl a,.bl b=>Q (.bl (neg ^^ decide (a = b))) H
 | .non,.non=>Q (.bl (neg ^^ true)) H
 | .non,.int _=>Q (.bl (neg ^^ false)) H
 | .int _,.non=>Q (.bl (neg ^^ false)) H
 | .non,.str _=>Q (.bl (neg ^^ false)) H
 | .str _,.non=>Q (.bl (neg ^^ false)) H
 | _,_=>False
theorem V_str_eq (a b:Str):decide (V.str a = V.str b) = decide (a.cps.toList = b.cps.toList):=by
 by_cases h:a.cps.toList = b.cps.toList
 ·have:a = b:=by rw [<- st_eta a,h,st_eta]
  subst this
  simp
 ·rw [decide_eq_false h,decide_eq_false (fun z=>h (by cases z; rfl))]
theorem kEq_eq:∀ x y H Q,kEq false x y H Q -> rEq x y H Q:=fun x y H Q q=>by
 unfold kEq at q
 split at q <;> first
  | exact q.elim
  | (refine ⟨rfl,?_⟩; first | (rw [V_str_eq]; simpa using q) | simpa using q)
theorem kEq_ne:∀ x y H Q,kEq true x y H Q -> rNe x y H Q:=fun x y H Q q=>by
 unfold kEq at q
 split at q <;> first
  | exact q.elim
  | (refine ⟨rfl,?_⟩; first | (rw [V_str_eq]; simpa using q) | simpa using q)
theorem op_eqK:OpR X (compareOp .Eq) (kEq false):=op_eq.imp kEq_eq
theorem op_neK:OpR X (compareOp .NotEq) (kEq true):=op_ne.imp kEq_ne
noncomputable abbrev kLt:R2:=kI0 fun i j=>.bl (decide (i < j))
noncomputable abbrev kLe:R2:=kI0 fun i j=>.bl (decide (i <= j))
noncomputable abbrev kGt:R2:=kI0 fun i j=>.bl (decide (j < i))
theorem op_ltK:OpR X (compareOp .Lt) kLt:=op_lt.imp kI0_imp
theorem op_leK:OpR X (compareOp .LtE) kLe:=op_le.imp kI0_imp
theorem op_gtK:OpR X (compareOp .Gt) kGt:=op_gt.imp kI0_imp
noncomputable def kIn (K:Frag) (neg:Bool):R2:=fun x y H Q=>match x,y with
 | .str a,.str b=>∃ c,a.cps.toList = [c] /\ Q (.bl (neg ^^ decide (c ∈ b.cps.toList))) H
 | x,.ref p=>∃ xs,(SqL K H p xs \/ SqT K H p xs) /\ flatV x = true /\ xs.all flatV = true /\ Q (.bl (neg ^^ inV x xs)) H
 | _,_=>False
theorem op_inK:OpR X (compareOp .In) (kIn X.K false):=by
 intro pins s σ H x y v u Q I rx ry q
 unfold kIn at q
 split at q
 ·obtain ⟨c,e,q⟩:=q
  rename_i a b
  have ea:a = ⟨#[c]⟩:=by rw [<- st_eta a,e]
  subst ea
  refine op_in_str pins s σ H _ _ v u Q I rx ry ⟨_,_,rfl,rfl,?_⟩
  rw [StrLaws.found_one]
  simpa using q
 ·obtain ⟨xs,h1,h2,h3,q⟩:=q
  exact op_in_seq pins s σ H _ _ v u Q I rx ry ⟨_,_,rfl,h1,h2,h3,by simpa using q⟩
 ·exact q.elim
theorem op_notinK:OpR X (compareOp .NotIn) (kIn X.K true):=by
 intro pins s σ H x y v u Q I rx ry q
 unfold kIn at q
 split at q
 ·obtain ⟨c,e,q⟩:=q
  rename_i a b
  have ea:a = ⟨#[c]⟩:=by rw [<- st_eta a,e]
  subst ea
  refine op_notin_str pins s σ H _ _ v u Q I rx ry ⟨_,_,rfl,rfl,?_⟩
  rw [StrLaws.found_one]
  simpa using q
 ·obtain ⟨xs,h1,h2,h3,q⟩:=q
  exact op_notIn_seq pins s σ H _ _ v u Q I rx ry ⟨_,_,rfl,h1,h2,h3,by simpa using q⟩
 ·exact q.elim
noncomputable def kIx (K:Frag):R2:=fun x y H Q=>match x,y with
 | .str z,.int i=>z.cps.toList.length <= 100000 /\ ∃ c,atI z.cps.toList i = some c /\ Q (.str (st [c])) H
 | .ref p,.int i=>∃ xs v,(SqL K H p xs \/ SqT K H p xs) /\ atI xs i = some v /\ Q v H
 | _,_=>False
theorem big5:(100000:Nat) <= sizeLine:=by decide
theorem strlen (z:Str):z.length = z.cps.toList.length:=by simp [Str.length]
theorem ix_K:IxR X (kIx X.K):=ix_seq.imp fun x y H Q q=>by
 unfold kIx at q
 split at q
 ·obtain ⟨h,c,e,q⟩:=q
  exact .inr (.inr ⟨_,_,c,rfl,rfl,by rw [strlen]; exact Nat.le_trans h big5,e,q⟩)
 ·obtain ⟨xs,v,h | h,e,q⟩:=q
  ·exact .inl ⟨_,_,_,_,rfl,rfl,h,e,q⟩
  ·exact .inr (.inl ⟨_,_,_,_,rfl,rfl,h,e,q⟩)
 ·exact q.elim
noncomputable def kLen (K:Frag):List V -> Hp -> VK -> Prop:=fun xs H Q=>match xs with
 | [.str z]=>z.cps.toList.length <= 100000 /\ Q (.int z.cps.toList.length) H
 | [.ref p]=>∃ ys,(SqL K H p ys \/ SqT K H p ys) /\ Q (.int ys.length) H
 | _=>False
theorem call_lenK:CallR X (.builtin "len") (kLen X.K):=by
 intro pins s σ H xs us Q I r q
 unfold kLen at q
 split at q
 ·obtain ⟨h,q⟩:=q
  refine call_len_str pins s σ H _ us Q I r ⟨_,rfl,by rw [strlen]; exact Nat.le_trans h big5,?_⟩
  rw [strlen]
  exact q
 ·obtain ⟨ys,h,q⟩:=q
  exact call_len_seq pins s σ H _ us Q I r ⟨_,_,rfl,h,q⟩
 ·exact q.elim
noncomputable def up (t:TE):TE:=fun σ H Q=>∃ Q0:VK,t σ H Q0 /\ ∀ v H',Q0 v H' -> Q v H'
noncomputable def up2 (r:R2):R2:=fun x y H Q=>∃ Q0:VK,r x y H Q0 /\ ∀ v H',Q0 v H' -> Q v H'
theorem EP.imp {pins:List (Addr × Obj)} {σ:St} {Q Q':VK} {u:Value} {s:Shared} (h:EP X pins σ Q u s) (k:∀ v H',Q v H' -> Q' v H'):EP X pins σ Q' u s:=by
 obtain ⟨v,H',I,r,q⟩:=h
 exact ⟨v,H',I,r,k v H' q⟩
theorem PE.mono {e:Expr} {t:TE} (h:PE X e t):PE X e (up t):=fun pins s σ H Q I ⟨Q0,q,k⟩=>thn (h pins s σ H Q0 I q) fun u s' z=>z.imp k
theorem OpR.mono {f:Value -> Value -> Sem Value} {r:R2} (h:OpR X f r):OpR X f (up2 r):=fun pins s σ H x y v u Q I rx ry ⟨Q0,q,k⟩=>thn (h pins s σ H x y v u Q0 I rx ry q) fun u s' z=>z.imp k
noncomputable def blK (Q:Bool -> Hp -> Prop):VK:=fun x H'=>match x with | .bl k=>Q k H' | _=>False
theorem blK_ex {Q:Bool -> Hp -> Prop} {x:V} {H':Hp} (h:blK Q x H'):∃ k,x = .bl k /\ Q k H':=by
 unfold blK at h
 split at h
 ·exact ⟨_,rfl,h⟩
 ·exact h.elim
noncomputable def cTest (t:TE):TT:=fun σ H Q=>t σ H (blK Q)
theorem qt_val {e:Expr} {t:TE} (h:PE X e t) (he:∀ whole,isTrue e X.env whole = (do let v <- whole; standAt e.pos; holding [v] (truthy v)):=by intro _; rfl):PT X e (cTest t):=
 (pt_val h.mono he).imp fun σ H Q q=>⟨_,q,fun v H' z=>blK_ex z⟩
variable {a b c:Expr} {ta tb tc:TE} {pos:Pos} {rest:List Expr}
theorem qt_cmp {op:CmpOp} {r:R2} (ho:OpR X (compareOp op) r) (ha:PE X a ta) (hb:PE X b tb) (hm:behindInMarks op b = false:=by first | exact nomark _ | rfl):PT X (.Compare a [op] [b] pos) (cTest (tOp r ta tb)):=
 (pt_cmpR ho.mono ha.mono hb.mono hm).imp fun σ H Q q=>⟨_,q,fun x H1 z=>⟨_,z,fun y H2 z2=>⟨_,z2,fun v H' z3=>blK_ex z3⟩⟩⟩
theorem qe_cmp {op:CmpOp} {r:R2} (ho:OpR X (compareOp op) r) (ha:PE X a ta) (hb:PE X b tb) (hm:behindInMarks op b = false:=by first | exact nomark _ | rfl):PE X (.Compare a [op] [b] pos) (tOp r ta tb):=pe_cmpR ho ha hb hm
noncomputable def cAndV (ta tb:TE):TE:=fun σ H Q=>ta σ H (blK fun c H1=>if c = true then tb σ H1 Q else Q (.bl false) H1)
noncomputable def cOrV (ta tb:TE):TE:=fun σ H Q=>ta σ H (blK fun c H1=>if c = true then Q (.bl true) H1 else tb σ H1 Q)
noncomputable def cNotV (ta:TE):TE:=fun σ H Q=>ta σ H (blK fun c H1=>Q (.bl (!c)) H1)
theorem qe_and (ha:PE X a ta) (hb:PE X (.BoolOp .And (b :: rest) pos) tb):PE X (.BoolOp .And (a :: b :: rest) pos) (cAndV ta tb):=(pe_and ha.mono hb).imp fun σ H Q q=>⟨_,q,fun v H' z=>blK_ex z⟩
theorem qe_or (ha:PE X a ta) (hb:PE X (.BoolOp .Or (b :: rest) pos) tb):PE X (.BoolOp .Or (a :: b :: rest) pos) (cOrV ta tb):=(pe_or ha.mono hb).imp fun σ H Q q=>⟨_,q,fun v H' z=>blK_ex z⟩
theorem qe_not (ha:PE X a ta):PE X (.UnaryOp .Not a pos) (cNotV ta):=(pe_not ha.mono).imp fun σ H Q q=>⟨_,q,fun v H' z=>blK_ex z⟩
variable {o e:Expr} {to te:TE} {apos cpos:Pos}
noncomputable def cApp (to te:TE):TE:=fun σ H Q=>to σ H fun x H1=>match x with
 | .ref l=>(∃ xs,H1 l = some (.lst xs)) /\ te σ H1 fun y H2=>∃ xs,H2 l = some (.lst xs) /\ xs.length < sizeLine /\ Q .non (upd H2 l (.lst (xs ++ [y])))
 | _=>False
theorem qe_append (ho:PE X o to) (he:PE X e te) (hbase:attributeBase o "append" X.env (eval o X.env) = eval o X.env:=by rfl)
  (hfew:((backTo cpos (starEach [e] X.env)).all (fun x=>!x.1) && (backToKw cpos (keywordEach [] X.env)).all (fun x=>x.1.isSome)
   && decide ([e].length + ([]:List Keyword).length + (if ([]:List Keyword).isEmpty then 0 else 1) < 30)) = true:=by rfl)
  (hline:(apos.endLine == cpos.line) = true:=by rfl) (hs:starEach [e] X.env = (false,eval e X.env) :: starEach [] X.env:=by rfl) (hplain:(backTo cpos (starEach [] X.env)).any (·.1) = false:=by rfl):
  PE X (.Call (.Attribute o "append" apos) [e] [] cpos) (cApp to te):=
 (pe_bm PySem.F.plainAttrs_list PySem.F.slot_list_append PySem.F.type_list_append mt_append ho.mono (pa_cons he.mono pa_nil hs) hbase hfew hline hs hplain).imp fun σ H Q q=>⟨_,q,fun x H1 z=>by
  split at z
  ·rename_i l
   obtain ⟨⟨xs,h⟩,z⟩:=z
   refine ⟨.inl ⟨rfl,_,SqL.of h⟩,_,z,fun y H2 z2=>?_⟩
   obtain ⟨xs2,h2,h3,z3⟩:=z2
   exact ⟨l,xs2,y,rfl,rfl,h2,h3,z3⟩
  ·exact z.elim⟩
noncomputable def cJoin1 (K:Frag) (te:TE):TE:=fun σ H Q=>te σ H fun x H1=>match x with
 | .ref l=>∃ cs:List Nat,SqL K H1 l (cs.map fun k=>V.str (st [k])) /\ cs.length <= 10000 /\ Q (.str (st cs)) H1
 | _=>False
theorem qe_join1 {j:Nat} {p1:Pos} (he:PE X e te) (hfew:((backTo cpos (starEach [e] X.env)).all (fun x=>!x.1) && (backToKw cpos (keywordEach [] X.env)).all (fun x=>x.1.isSome)
   && decide ([e].length + ([]:List Keyword).length + (if ([]:List Keyword).isEmpty then 0 else 1) < 30)) = true:=by rfl)
  (hline:(apos.endLine == cpos.line) = true:=by rfl) (hs:starEach [e] X.env = (false,eval e X.env) :: starEach [] X.env:=by rfl) (hplain:(backTo cpos (starEach [] X.env)).any (·.1) = false:=by rfl)
  (hbase:attributeBase (.Constant (.str (Str.ofString "")) j p1) "join" X.env (eval (.Constant (.str (Str.ofString "")) j p1) X.env) = eval (.Constant (.str (Str.ofString "")) j p1) X.env:=by rfl):
  PE X (.Call (.Attribute (.Constant (.str (Str.ofString "")) j p1) "join" apos) [e] [] cpos) (cJoin1 X.K te):=
 (pe_bm PySem.F.plainAttrs_str PySem.F.slot_str_join PySem.F.type_str_join mt_join1 pe_str (pa_cons he.mono pa_nil hs) hbase hfew hline hs hplain).imp fun σ H Q q=>⟨rfl,_,q,fun x H1 z=>by
  split at z
  ·obtain ⟨cs,h,h2,z⟩:=z
   exact ⟨_,cs,rfl,rfl,h,h2,z⟩
  ·exact z.elim⟩
end
section
variable {X:Cx} {tg a b e:Expr} {te ta tb:TE} {pos p:Pos}
noncomputable def cIter (K:Frag) (te:TE):TI:=fun σ H R=>te σ H fun x H1=>match x with
 | .str z=>R (Its z) H1
 | .ref a=>((∃ xs,SqL K H1 a xs) /\ R (Itl K a) H1) \/ ((∃ xs,SqT K H1 a xs) /\ R (Itt K a) H1)
 | _=>False
theorem qi_iter (he:PE X e te):PI X tg e (cIter X.K te):=by
 intro pins s σ H R I h
 refine thn (he pins s σ H _ I h) fun v s1 ⟨y,H1,I1,r1,q1⟩=>?_
 dsimp only at q1
 split at q1
 ·rename_i x
  obtain ⟨t,rfl⟩:=r1
  refine wpAny_pyIter_strU ?_
  refine ⟨s1.heap.objs.size,[s1.heap.objs.size],_,Its x,H1,rfl,I1.kept (t':=s1.toks) fun b o e=>Heap.get?_push_of_some _ e,turn_str x t _,⟨_,Heap.get?_push_size _ rfl,rfl,rfl⟩,fun b hb=>?_,q1⟩
  have e:b = s1.heap.objs.size:=by simpa using hb
  subst e
  exact I1.fpOk (Nat.le_refl _) (I1.hok.fresh (Nat.le_refl _))
 ·rename_i l
  cases r1
  rcases q1 with ⟨⟨xs,hq⟩,q⟩ | ⟨⟨xs,hq⟩,q⟩
  ·obtain ⟨its,rv,p,hz⟩:=I1.list hq
   refine wpAny_pyIter_list p.isList ?_
   refine ⟨s1.heap.objs.size,[s1.heap.objs.size],_,_,H1,rfl,I1.kept (t':=s1.toks) fun b o e=>Heap.get?_push_of_some _ e,turn_list l _,⟨_,Heap.get?_push_size _ rfl,rfl,rfl⟩,fun b hb=>?_,q⟩
   have e:b = s1.heap.objs.size:=by simpa using hb
   subst e
   exact I1.fpOk (Nat.le_refl _) (I1.hok.fresh (Nat.le_refl _))
  ·obtain ⟨its,rv,p,hz⟩:=I1.tuple hq
   refine wpAny_pyIter_tuple (show s1.heap.IsTuple l its.toArray from p) ?_
   refine ⟨s1.heap.objs.size,[s1.heap.objs.size],_,_,H1,rfl,I1.kept (t':=s1.toks) fun b o e=>Heap.get?_push_of_some _ e,turn_tuple l _,⟨_,Heap.get?_push_size _ rfl,rfl,rfl⟩,fun b hb=>?_,q⟩
   have e:b = s1.heap.objs.size:=by simpa using hb
   subst e
   exact I1.fpOk (Nat.le_refl _) (I1.hok.fresh (Nat.le_refl _))
 ·exact q1.elim
noncomputable def cRng1 (te:TE):TI:=fun σ H R=>te σ H fun x H1=>match x with
 | .int j=>-1000000 <= j /\ j <= 1000000 /\ R (Itr 0 j.toNat) H1
 | _=>False
theorem qi_range1 (hg:Gl X "range") (hm:X.mg "range" = none) (ha:PE X a ta) (hs:starEach [a] X.env = [(false,eval a X.env)]:=by rfl):PI X tg (.Call (.Name "range" p) [a] [] pos) (cRng1 ta):=
 (pi_range1 hg hm (pa_cons ha.mono pa_nil hs) hs).imp fun σ H R q=>⟨_,q,fun x H1 z=>by
  split at z
  ·exact ⟨_,rfl,by omega,by omega,z.2.2⟩
  ·exact z.elim⟩
def srcK (K:Frag) (H:Hp) (v:V) (R:Src -> Prop):Prop:=match v with
 | .str x=>R (.str x)
 | .ref a=>(∃ xs,SqL K H a xs) /\ R (.lst a)
 | _=>False
theorem srcK_ex {K:Frag} {H:Hp} {v:V} {R:Src -> Prop} (h:srcK K H v R):∃ S,SrcOf K H S v /\ R S:=by
 unfold srcK at h
 split at h
 ·exact ⟨.str _,rfl,h⟩
 ·exact ⟨.lst _,⟨rfl,h.1⟩,h.2⟩
 ·exact h.elim
noncomputable def cZip (K:Frag) (ta tb:TE):TI:=fun σ H R=>ta σ H fun x H1=>tb σ H1 fun y H2=>srcK K H2 x fun S1=>srcK K H2 y fun S2=>R (Itz K S1 S2) H2
theorem qi_zip {elts:List Expr} {kk:Nat} {tpos:Pos} (hg:Gl X "zip") (hm:X.mg "zip" = none) (ha:PE X a ta) (hb:PE X b tb) (hs:starEach [a,b] X.env = [(false,eval a X.env),(false,eval b X.env)]:=by rfl) (hs2:starEach [b] X.env = [(false,eval b X.env)]:=by rfl):
  PI X (.Tuple elts kk tpos) (.Call (.Name "zip" p) [a,b] [] pos) (cZip X.K ta tb):=
 (pi_zip hg hm (pa_cons ha.mono (pa_cons hb.mono pa_nil hs2) (by rw [hs,hs2])) hs hs2).imp fun σ H R q=>⟨_,q,fun x H1 z=>⟨_,z,fun y H2 z=>by
  obtain ⟨S1,o1,z⟩:=srcK_ex z
  obtain ⟨S2,o2,z⟩:=srcK_ex z
  exact ⟨S1,S2,x,y,rfl,o1,o2,z⟩⟩⟩
end
def loopW (J:It) (g:TG) (tb:TS) (D:Ends) (σ:St) (H:Hp):Prop:=∃ W:Nat -> Nat -> St -> Hp -> Prop,(∃ m,W 0 m σ H) /\ ∀ i m σ H,W i m σ H ->
 (J.stop i H /\ D.nx σ H) \/ (J.go i H /\ ∃ N:St -> Hp -> Prop,(∀ σ' H',N σ' H' -> ∃ m',m' < m /\ W (i + 1) m' σ' H') /\ ∀ x H',J.yld i H x H' -> g x σ H' fun σ2 H2=>tb { D with nx:=N,ct:=N,bk:=D.nx } σ2 H2)
noncomputable def cFor (wi:TI) (g:TG) (tb:TS):TS:=fun D σ H=>wi σ H fun J H1=>loopW J g tb D σ H1
theorem qs_for {X:Cx} {tg iter:Expr} {body:List Stmt} {wi:TI} {g:TG} {tb:TS} {pos:Pos} (hp:PassesOwn (model X.prog X.w) X.A X.env X.xe) (hc:X.calm = true) (hi:PI X tg iter wi) (hg:PG X tg g) (hb:PSs X body tb)
  (hs:∀ x,foldedSetIterable iter X.env x = pure x:=by intro _; rfl):PS X (.For tg iter body [] pos) (cFor wi g tb):=ps_for hp hc hi hg hb hs
section
variable {K:Frag} {g:TG} {tb:TS} {D:Ends} {σ:St} {H:Hp}
noncomputable abbrev Ends.turn (D:Ends) (N:St -> Hp -> Prop):Ends:={ D with nx:=N,ct:=N,bk:=D.nx }
theorem loop_list {p:Addr} {xs:List V} (Pv:Nat -> St -> Hp -> Prop) (h0:Pv 0 σ H) (hl:∀ i σ H,i <= xs.length -> Pv i σ H -> SqL K H p xs)
  (hs:∀ i x σ H,xs[i]? = some x -> Pv i σ H -> g x σ H fun σ2 H2=>tb (D.turn (Pv (i + 1))) σ2 H2) (hd:∀ σ H,Pv xs.length σ H -> D.nx σ H):loopW (Itl K p) g tb D σ H:=for_list Pv h0 hl hs hd
theorem loop_items {α:Type} (item:α -> V) (xs:List α) {p:Addr} (Pv:Nat -> St -> Hp -> Prop) (h0:Pv 0 σ H) (hl:∀ i σ H,i <= xs.length -> Pv i σ H -> SqL K H p (xs.map item))
  (hs:∀ i x σ H,xs[i]? = some x -> Pv i σ H -> g (item x) σ H fun σ2 H2=>tb (D.turn (Pv (i + 1))) σ2 H2) (hd:∀ σ H,Pv xs.length σ H -> D.nx σ H):loopW (Itl K p) g tb D σ H:=
 loop_list (xs:=xs.map item) Pv h0 (fun i σ H hi=>hl i σ H (by simpa using hi)) (fun i x σ H hx p=>by
  rw [List.getElem?_map] at hx
  obtain ⟨y,hy,rfl⟩:=Option.map_eq_some_iff.mp hx
  exact hs i y σ H hy p) (fun σ H p=>hd σ H (by simpa using p))
theorem loop_range {lo:Int} {n:Nat} (Pv:Nat -> St -> Hp -> Prop) (h0:Pv 0 σ H) (hs:∀ i σ H,i < n -> Pv i σ H -> g (.int (lo + i)) σ H fun σ2 H2=>tb (D.turn (Pv (i + 1))) σ2 H2) (hd:∀ σ H,Pv n σ H -> D.nx σ H):
  loopW (Itr lo n) g tb D σ H:=for_range Pv h0 hs hd
noncomputable def SrcVals (K:Frag) (H:Hp):Src -> List V -> Prop
 | .str x,xs=>xs = x.cps.toList.map fun c=>V.str (st [c])
 | .lst a,xs=>SqL K H a xs
theorem SrcVals.go {S:Src} {xs:List V} {i:Nat} (h:SrcVals K H S xs) (hi:i < xs.length):SrcGo K H S i:=by
 cases S with
 | str x=>
  have e:xs = x.cps.toList.map fun c=>V.str (st [c]):=h
  subst e
  show i < x.cps.size
  simpa using hi
 | lst a=>exact ⟨xs,xs[i],h,by simp [hi]⟩
theorem SrcVals.stop {S:Src} {xs:List V} {i:Nat} (h:SrcVals K H S xs) (hi:xs.length <= i):SrcEnd K H S i:=by
 cases S with
 | str x=>
  have e:xs = x.cps.toList.map fun c=>V.str (st [c]):=h
  subst e
  show x.cps.size <= i
  simpa using hi
 | lst a=>exact ⟨xs,h,hi⟩
theorem SrcVals.at {S:Src} {xs:List V} {i:Nat} {v:V} (h:SrcVals K H S xs) (q:SrcAt K H S i v):xs[i]? = some v:=by
 cases S with
 | str x=>
  have e:xs = x.cps.toList.map fun c=>V.str (st [c]):=h
  subst e
  obtain ⟨c,hc,rfl⟩:=q
  simp [hc]
 | lst a=>exact q xs h
theorem SqT.upd_same {p:Addr} {xs:List V}:SqT K (upd H p (.tup xs)) p xs:=SqT.of L2.upd_same
theorem loop_zip {S1 S2:Src} {xs ys:List V} {j k:Nat} (Pv:Nat -> St -> Hp -> Prop) (h0:Pv 0 σ H) (hl:∀ i σ H,Pv i σ H -> SrcVals K H S1 xs /\ SrcVals K H S2 ys)
  (hs:∀ i x y σ H T,xs[i]? = some x -> ys[i]? = some y -> Pv i σ H -> H T = none -> tb (D.turn (Pv (i + 1))) ((σ.set j (some x)).set k (some y)) (upd H T (.tup [x,y]))) (hd:∀ σ H,Pv (min xs.length ys.length) σ H -> D.nx σ H):
  loopW (Itz K S1 S2) (gTup K 2 (gCons (gName j) (gCons (gName k) gNil))) tb D σ H:=
 for_it (n:=min xs.length ys.length) Pv h0 (fun i σ H hi p=>by
   obtain ⟨q1,q2⟩:=hl i σ H p
   exact ⟨q1.go (by omega),q2.go (by omega)⟩)
  (fun σ H p=>by
   obtain ⟨q1,q2⟩:=hl _ σ H p
   by_cases h:xs.length <= ys.length
   ·exact .inl (q1.stop (by omega))
   ·exact .inr ⟨q1.go (by omega),q2.stop (by omega)⟩)
  (fun i σ H v H' hi p y=>by
   obtain ⟨T,x,y,rfl,hT,rfl,s1,s2⟩:=y
   obtain ⟨q1,q2⟩:=hl i σ H p
   exact ⟨T,[x,y],rfl,SqT.upd_same,rfl,x,[y],rfl,y,[],rfl,rfl,hs i x y σ H T (q1.at s1) (q2.at s2) p hT⟩) hd
end
def compW (J:It) (g:TG) (tc:TT) (te:TE) (σc:St) (D:Addr) (Q:VK) (H:Hp):Prop:=
 ∃ W:Nat -> Nat -> List V -> Hp -> Prop,(∃ m,W 0 m [] (upd H D (.lst []))) /\ ∀ i m acc H2,W i m acc H2 ->
  (J.stop i H2 /\ Q (.ref D) H2) \/ (J.go i H2 /\ ∀ x H3,J.yld i H2 x H3 -> g x σc H3 fun σ4 H4=>tc σ4 H4 fun b H5=>if b = true then
   te σ4 H5 fun v H6=>H6 D = some (.lst acc) /\ acc.length < sizeLine /\ ∃ m',m' < m /\ W (i + 1) m' (acc ++ [v]) (upd H6 D (.lst (acc ++ [v]))) else ∃ m',m' < m /\ W (i + 1) m' acc H5)
noncomputable def cComp (nt:Nat) (fi:List Nat) (wi:TI) (g:TG) (tc:TT) (te:TE):TE:=fun σ H Q=>wi σ H fun J H1=>∀ D,H1 D = none -> compW J g tc te (compσ nt fi σ) D Q H1
theorem qe_comp {X:Cx} {elt tg iter:Expr} {ifs:List Expr} {scope:Scope} {pos:Pos} {wi:TI} {g:TG} {tc:TT} {te:TE} {nt:Nat} {fi:List Nat} {N':List Str} (hcalm:X.calm = true)
  (S:CScope scope) (cn:CNames X scope nt fi N') (gk:GK nt g) (hi:PI X tg iter wi)
  (hg:∀ cl C s H ex,PG (cxC X scope cl N' C s H ex) tg g) (hc:∀ cl C s H ex,PIf (cxC X scope cl N' C s H ex) ifs tc) (he:∀ cl C s H ex,PE (cxC X scope cl N' C s H ex) elt te)
  (hs:∀ x,foldedSetIterable iter X.env x = pure x:=by intro _; rfl):PE X (.ListComp elt [⟨tg,iter,ifs,0⟩] scope pos) (cComp nt fi wi g tc te):=pe_comp hcalm S cn gk hi hg hc he hs
section
variable {K:Frag} {J:It} {g:TG} {tc:TT} {te:TE} {σc:St} {D:Addr} {Q:VK} {H:Hp}
theorem range_flat_succ {α:Type} (f:Nat -> List α) (n:Nat):(List.range (n + 1)).flatMap f = (List.range n).flatMap f ++ f n:=by
 rw [List.range_succ,List.flatMap_append]
 simp
theorem range_flat_len {α:Type} (f:Nat -> List α) (hf:∀ i,(f i).length <= 1) (n:Nat):((List.range n).flatMap f).length <= n:=by
 induction n with
 | zero=>simp
 | succ n ih=>
  rw [range_flat_succ,List.length_append]
  have:=hf n
  omega
theorem comp_it {n:Nat} (f:Nat -> List V) (hfree:H D = none) (hn:n <= 100000) (hf:∀ i,(f i).length <= 1) (hy:∀ i H x H',J.yld i H x H' -> Same H H')
  (hgo:∀ i H',i < n -> Same H H' -> J.go i H') (hst:∀ H',Same H H' -> J.stop n H')
  (hs:∀ i H1 x H2 (out:VK) (non:Hp -> Prop),i < n -> Same H H1 -> J.yld i H1 x H2 -> (∀ v H6,f i = [v] -> Same H2 H6 -> out v H6) -> (∀ H5,f i = [] -> Same H2 H5 -> non H5) ->
   g x σc H2 fun σ4 H4=>tc σ4 H4 fun b H5=>if b = true then te σ4 H5 out else non H5)
  (hq:∀ H',Same H H' -> H' D = some (.lst ((List.range n).flatMap f)) -> Q (.ref D) H'):compW J g tc te σc D Q H:=by
 refine ⟨fun i m acc H2=>m = n - i /\ i <= n /\ acc = (List.range i).flatMap f /\ Same H H2 /\ H2 D = some (.lst acc),⟨n,by simp,Nat.zero_le _,by simp,same_new hfree _,upd_same⟩,?_⟩
 rintro i m acc H2 ⟨rfl,hi,rfl,sm,hD⟩
 by_cases hlt:i < n
 ·refine .inr ⟨hgo i H2 hlt sm,fun x H3 y=>?_⟩
  have s23:=hy i H2 x H3 y
  refine hs i H2 x H3 _ _ hlt sm y (fun v H6 e s6=>?_) fun H5 e s5=>?_
  ·refine ⟨s6 _ _ (s23 _ _ hD),Nat.lt_of_le_of_lt (range_flat_len f hf i) (sizeBig (by omega)),n - (i + 1),by omega,rfl,hlt,?_,?_,upd_same⟩
   ·rw [range_flat_succ,e]
   ·exact same_upd (sm.trans (s23.trans s6)) hfree
  ·refine ⟨n - (i + 1),by omega,rfl,hlt,?_,sm.trans (s23.trans s5),s5 _ _ (s23 _ _ hD)⟩
   rw [range_flat_succ,e,List.append_nil]
 ·have e:i = n:=by omega
  subst e
  exact .inl ⟨hst H2 sm,hq H2 sm hD⟩
noncomputable def atH {α β:Type} (xs:List α) (h:α -> List β) (i:Nat):List β:=((xs[i]?).map h).getD []
theorem atH_some {α β:Type} {xs:List α} {h:α -> List β} {i:Nat} {x:α} (e:xs[i]? = some x):atH xs h i = h x:=by simp [atH,e]
theorem atH_len {α β:Type} {xs:List α} {h:α -> List β} (hf:∀ x,(h x).length <= 1) (i:Nat):(atH xs h i).length <= 1:=by
 unfold atH
 cases xs[i]? with
 | none=>simp
 | some x=>simpa using hf x
theorem flat_at {α β:Type} (xs:List α) (h:α -> List β):(List.range xs.length).flatMap (atH xs h) = xs.flatMap h:=by
 induction xs with
 | nil=>rfl
 | cons a xs ih=>
  rw [List.length_cons,List.range_succ_eq_map,List.flatMap_cons,List.flatMap_map,List.flatMap_cons,<- ih]
  rfl
section
variable {α:Type} (item:α -> V) (xs:List α) (h:α -> List V)
theorem comp_list {p:Addr} (hfree:H D = none) (hl:SqL K H p (xs.map item)) (hn:xs.length <= 100000) (hf:∀ x,(h x).length <= 1)
  (hs:∀ x H1 (out:VK) (non:Hp -> Prop),x ∈ xs -> Same H H1 -> (∀ v H6,h x = [v] -> Same H1 H6 -> out v H6) -> (∀ H5,h x = [] -> Same H1 H5 -> non H5) ->
   g (item x) σc H1 fun σ4 H4=>tc σ4 H4 fun b H5=>if b = true then te σ4 H5 out else non H5)
  (hq:∀ H',Same H H' -> H' D = some (.lst (xs.flatMap h)) -> Q (.ref D) H'):compW (Itl K p) g tc te σc D Q H:=by
 refine comp_it (n:=xs.length) (atH xs h) hfree hn (atH_len hf) (fun i H x H' y=>?_) (fun i H' hi s=>?_) (fun H' s=>?_) (fun i H1 x H2 out non hi s y ho hnn=>?_) fun H' s q=>?_
 ·rw [y.1]
  exact Same.refl _
 ·exact ⟨_,item xs[i],s.seq hl,by simp [hi]⟩
 ·exact ⟨_,s.seq hl,by simp⟩
 ·obtain ⟨rfl,y⟩:=y
  have e:=y _ (s.seq hl)
  rw [List.getElem?_map,List.getElem?_eq_getElem hi] at e
  have e2:item xs[i] = x:=Option.some.inj e
  subst e2
  simp only [atH_some (List.getElem?_eq_getElem hi)] at ho hnn
  exact hs xs[i] _ out non (List.getElem_mem hi) s ho hnn
 ·rw [flat_at] at q
  exact hq H' s q
end
end
noncomputable def cnOk (N:List Str) (sc scope:Scope) (nt:Nat) (fi:List Nat) (N':List Str):Bool:=
 N'.length == nt + fi.length && ((List.range fi.length).all fun k=>match fi[k]? with
  | some j=>match N'[nt + k]?,N[j]? with
   | some x,some y=>x == y && scope.names.lookup x == some NameKind.free
   | _,_=>false
  | none=>false) && scope.names.all fun y=>y.2 != NameKind.free || (sc.names.lookup y.1 == some NameKind.cell || sc.names.lookup y.1 == some NameKind.free)
theorem cnames {X:Cx} {N:List Str} {sc scope:Scope} {nt:Nat} {fi:List Nat} {N':List Str} (hN:X.N = N) (hsc:X.env.scope = sc) (h:cnOk N sc scope nt fi N' = true):CNames X scope nt fi N':=by
 unfold cnOk at h
 simp only [Bool.and_eq_true,List.all_eq_true,List.mem_range,beq_iff_eq] at h
 obtain ⟨⟨h1,h2⟩,h3⟩:=h
 refine ⟨h1,fun k j e=>?_,fun y hy e=>?_⟩
 ·have hk:k < fi.length:=(List.getElem?_eq_some_iff.mp e).1
  have q:=h2 k hk
  rw [e] at q
  dsimp only at q
  split at q
  ·rename_i x y e1 e2
   simp only [Bool.and_eq_true,beq_iff_eq] at q
   obtain ⟨rfl,q⟩:=q
   exact ⟨_,e1,by rw [hN]; exact e2,q⟩
  ·cases q
 ·have q:=h3 y hy
  rw [e] at q
  rw [hsc]
  simpa using q
theorem cscope {scope:Scope} (hk:scope.kind = .function) (h:(scope.names.all fun y=>y.2 != NameKind.cell && (y.2 != NameKind.local || scope.names.lookup y.1 == some NameKind.local)) = true):CScope scope:=by
 simp only [List.all_eq_true,Bool.and_eq_true] at h
 refine ⟨hk,fun y hy e=>?_,fun y hy e=>?_⟩
 ·have:=(h y hy).1
  rw [e] at this
  exact absurd this (by decide)
 ·have:=(h y hy).2
  rw [e] at this
  simpa using this
theorem bb_len:bootBuiltins "len" = some (.builtin "len"):=by decide +kernel
theorem bb_any:bootBuiltins "any" = some (.builtin "any"):=by decide +kernel
theorem bb_min:bootBuiltins "min" = some (.builtin "min"):=by decide +kernel
theorem bb_max:bootBuiltins "max" = some (.builtin "max"):=by decide +kernel
theorem bb_sorted:bootBuiltins "sorted" = some (.builtin "sorted"):=by decide +kernel
theorem bb_isinstance:bootBuiltins "isinstance" = some (.builtin "isinstance"):=by decide +kernel
theorem bb_int:bootBuiltins "int" = some (.type "int"):=by decide +kernel
theorem bb_bool:bootBuiltins "bool" = some (.type "bool"):=by decide +kernel
theorem bb_list:bootBuiltins "list" = some (.type "list"):=by decide +kernel
theorem bb_tuple:bootBuiltins "tuple" = some (.type "tuple"):=by decide +kernel
theorem bb_set:bootBuiltins "set" = some (.type "set"):=by decide +kernel
inductive Ty where
 | bool | int | str | list | tuple
noncomputable def Ty.nm:Ty -> String
 | .bool => "bool" | .int => "int" | .str => "str" | .list => "list" | .tuple => "tuple"
noncomputable def Ty.isBl:Ty -> Bool
 | .bool=>true | .int=>true | _=>false
noncomputable def Ty.isInt:Ty -> Bool
 | .int=>true | _=>false
noncomputable def Ty.isStr:Ty -> Bool
 | .str=>true | _=>false
noncomputable def Ty.isLst:Ty -> Bool
 | .list=>true | _=>false
noncomputable def Ty.isTup:Ty -> Bool
 | .tuple=>true | _=>false
section
variable {K:Frag}
theorem kit_non (n:Ty):PySem.W.kitOne K (.type "NoneType") (.type n.nm) = some false:=by cases n <;> with_unfolding_all rfl
theorem kit_bl (n:Ty):PySem.W.kitOne K (.type "bool") (.type n.nm) = some n.isBl:=by cases n <;> with_unfolding_all rfl
theorem kit_int (n:Ty):PySem.W.kitOne K (.type "int") (.type n.nm) = some n.isInt:=by cases n <;> with_unfolding_all rfl
theorem kit_str (n:Ty):PySem.W.kitOne K (.type "str") (.type n.nm) = some n.isStr:=by cases n <;> with_unfolding_all rfl
theorem kit_lst (n:Ty):PySem.W.kitOne K (.type "list") (.type n.nm) = some n.isLst:=by cases n <;> with_unfolding_all rfl
theorem kit_tup (n:Ty):PySem.W.kitOne K (.type "tuple") (.type n.nm) = some n.isTup:=by cases n <;> with_unfolding_all rfl
end
section
variable {X:Cx} {a b e:Expr} {ta tb te:TE} {pos p p2:Pos}
theorem qe_ty {x:Str} {n:String} (hg:Gl X x) (hm:X.mg x = none) (hv:bootBuiltins x = some (.type n)) (hn:x ≠ "__name__" := by decide) (hd:(x == ("__debug__" : Str)) = false:=by decide):PE X (.Name x pos) (tC (.ty n)):=pe_bltn (v:=.ty n) hg hm hv rfl hn hd
noncomputable def cIsI (n:Ty) (ta:TE):TE:=fun σ H Q=>ta σ H fun x H1=>match x with
 | .non=>Q (.bl false) H1
 | .bl _=>Q (.bl n.isBl) H1
 | .int _=>Q (.bl n.isInt) H1
 | .str _=>Q (.bl n.isStr) H1
 | .ref p=>((∃ xs,H1 p = some (.lst xs)) /\ Q (.bl n.isLst) H1) \/ ((∃ xs,H1 p = some (.tup xs)) /\ Q (.bl n.isTup) H1)
 | _=>False
theorem qe_isinst {x:Str} (n:Ty) (hg:Gl X "isinstance") (hm:X.mg "isinstance" = none) (ha:PE X a ta) (hg2:Gl X x) (hm2:X.mg x = none) (hv2:bootBuiltins x = some (.type n.nm)) (hn2:x ≠ "__name__" := by decide) (hd2:(x == ("__debug__" : Str)) = false:=by decide)
  (hs:starEach [a,.Name x p2] X.env = (false,eval a X.env) :: starEach [.Name x p2] X.env:=by rfl) (hpl:(backTo pos (starEach [.Name x p2] X.env)).any (·.1) = false:=by rfl):PE X (.Call (.Name "isinstance" p) [a,.Name x p2] [] pos) (cIsI n ta):=
 (pe_callB call_isinst hg hm bb_isinstance (pa_cons ha.mono (pa_cons (qe_ty hg2 hm2 hv2 hn2 hd2) pa_nil) hs) (he:=hs) (hpl:=hpl)).imp fun σ H Q q=>⟨_,q,fun v H1 z=>by
  show ∃ x n t b,[v,V.ty _] = [x,.ty n] /\ TyOf X.K H1 x t /\ PySem.W.kitOne X.K t (.type n) = some b /\ Q (.bl b) H1
  split at z
  ·exact ⟨_,_,_,_,rfl,.non,kit_non n,z⟩
  ·exact ⟨_,_,_,_,rfl,.bl _,kit_bl n,z⟩
  ·exact ⟨_,_,_,_,rfl,.int _,kit_int n,z⟩
  ·exact ⟨_,_,_,_,rfl,.str _,kit_str n,z⟩
  ·rcases z with ⟨⟨xs,h⟩,z⟩ | ⟨⟨xs,h⟩,z⟩
   ·exact ⟨_,_,_,_,rfl,.lst h,kit_lst n,z⟩
   ·exact ⟨_,_,_,_,rfl,.tup h,kit_tup n,z⟩
  ·exact z.elim⟩
noncomputable def kInt:List V -> Hp -> VK -> Prop:=fun xs H Q=>match xs with
 | [.int i]=>Q (.int i) H
 | [.bl k]=>Q (.int (if k then 1 else 0)) H
 | [.str z]=>∃ c:Nat,z.cps.toList = [c] /\ 48 <= c /\ c <= 57 /\ Q (.int ((c - 48:Nat):Int)) H
 | _=>False
theorem intText_one (c:Nat) (h0:48 <= c) (h1:c <= 57):PySem.intText? ⟨#[c]⟩ = some ((c - 48:Nat):Int):=by
 obtain ⟨d,rfl⟩:∃ d,c = 48 + d:=⟨c - 48,by omega⟩
 have h:d < 10:=by omega
 have hd:d = 0 \/ d = 1 \/ d = 2 \/ d = 3 \/ d = 4 \/ d = 5 \/ d = 6 \/ d = 7 \/ d = 8 \/ d = 9:=by omega
 rcases hd with rfl | rfl | rfl | rfl | rfl | rfl | rfl | rfl | rfl | rfl <;> decide +kernel
theorem call_intK:CallR X (.type "int") kInt:=by
 intro pins s σ H xs us Q I r q
 unfold kInt at q
 split at q
 ·exact call_int1 pins s σ H _ us Q I r (.inl ⟨_,rfl,q⟩)
 ·exact call_int1 pins s σ H _ us Q I r (.inr ⟨_,rfl,q⟩)
 ·obtain ⟨c,e,h0,h1,q⟩:=q
  rename_i z
  have ea:z = ⟨#[c]⟩:=by rw [<- st_eta z,e]
  subst ea
  exact call_int_txt pins s σ H _ us Q I r ⟨_,_,rfl,intText_one c h0 h1,(by decide:1 <= 640),q⟩
 ·exact q.elim
noncomputable def kSl (K:Frag):V -> Option Int -> Option Int -> Hp -> VK -> Prop:=fun x lo hi H Q=>match x with
 | .str z=>match lo,hi with
  | none,some j=>z.cps.toList.length <= 100000 /\ 0 <= j /\ j <= z.cps.toList.length /\ Q (.str (st (z.cps.toList.take j.toNat))) H
  | some i,none=>z.cps.toList.length <= 100000 /\ 0 <= i /\ i <= z.cps.toList.length /\ Q (.str (st (z.cps.toList.drop i.toNat))) H
  | _,_=>False
 | .ref a=>∃ xs,SqL K H a xs /\ ∀ p,H p = none -> Q (.ref p) (upd H p (.lst (cutV xs lo hi)))
 | _=>False
theorem sl_K:SlR X (kSl X.K):=by
 refine (SlR.or sl_str sl_list).imp fun x lo hi H Q q=>?_
 unfold kSl at q
 split at q
 ·rename_i z
  split at q
  ·obtain ⟨h,h0,h1,q⟩:=q
   rename_i j
   obtain ⟨k,rfl⟩:∃ k:Nat,j = k:=⟨j.toNat,by omega⟩
   refine .inl ⟨z,rfl,by rw [strlen]; exact Nat.le_trans h big5,?_⟩
   have e:=slice_to z.cps.toList k (by omega)
   rw [st_eta] at e
   rw [e]
   simpa using q
  ·obtain ⟨h,h0,h1,q⟩:=q
   rename_i j
   obtain ⟨k,rfl⟩:∃ k:Nat,j = k:=⟨j.toNat,by omega⟩
   refine .inl ⟨z,rfl,by rw [strlen]; exact Nat.le_trans h big5,?_⟩
   have e:=slice_from z.cps.toList k (by omega)
   rw [st_eta] at e
   rw [e]
   simpa using q
  ·exact q.elim
 ·obtain ⟨xs,h,q⟩:=q
  exact .inr ⟨_,_,rfl,h,q⟩
 ·exact q.elim
noncomputable def kEqNil (K:Frag):R2:=fun x y H Q=>match x,y with
 | .ref a,.ref b=>∃ xs,SqL K H a xs /\ SqL K H b [] /\ Q (.bl (decide (xs = []))) H
 | _,_=>False
theorem op_eqL (hu:X.A.units < cLine):OpR X (compareOp .Eq) (kEqNil X.K):=(op_eq_nil hu).imp fun x y H Q q=>by
 unfold kEqNil at q
 split at q
 ·obtain ⟨xs,h1,h2,q⟩:=q
  exact ⟨_,_,_,rfl,rfl,h1,h2,q⟩
 ·exact q.elim
theorem hu1 {k:Nat} {A:Around} (hr:Room k A):A.units < cLine:=hr.units0
noncomputable def cNeg (ta:TE):TE:=fun σ H Q=>ta σ H fun x H1=>match x with
 | .int i=>Q (.int (-i)) H1
 | _=>False
theorem qe_neg (ha:PE X a ta):PE X (.UnaryOp .USub a pos) (cNeg ta):=(pe_un un_neg ha.mono).imp fun σ H Q q=>⟨_,q,fun v H1 z=>by
 split at z
 ·exact ⟨_,rfl,z⟩
 ·exact z.elim⟩
end
section
variable {X:Cx} {a b e:Expr} {ta tb te:TE} {pos p apos cpos:Pos}
theorem ixE (K:Frag) (h:X.K = K):IxR X (kIx K):=by subst h; exact ix_K
theorem slE (K:Frag) (h:X.K = K):SlR X (kSl K):=by subst h; exact sl_K
theorem lenE (K:Frag) (h:X.K = K):CallR X (.builtin "len") (kLen K):=by subst h; exact call_lenK
theorem inE (K:Frag) (h:X.K = K):OpR X (compareOp .In) (kIn K false):=by subst h; exact op_inK
theorem notinE (K:Frag) (h:X.K = K):OpR X (compareOp .NotIn) (kIn K true):=by subst h; exact op_notinK
theorem eqNilE (K:Frag) (h:X.K = K) (hu:X.A.units < cLine):OpR X (compareOp .Eq) (kEqNil K):=by subst h; exact op_eqL hu
theorem joinE (K:Frag) (h:X.K = K) {j:Nat} {p1:Pos} (he:PE X e te) (hfew:((backTo cpos (starEach [e] X.env)).all (fun x=>!x.1) && (backToKw cpos (keywordEach [] X.env)).all (fun x=>x.1.isSome)
   && decide ([e].length + ([]:List Keyword).length + (if ([]:List Keyword).isEmpty then 0 else 1) < 30)) = true:=by rfl)
  (hline:(apos.endLine == cpos.line) = true:=by rfl) (hs:starEach [e] X.env = (false,eval e X.env) :: starEach [] X.env:=by rfl) (hplain:(backTo cpos (starEach [] X.env)).any (·.1) = false:=by rfl)
  (hbase:attributeBase (.Constant (.str (Str.ofString "")) j p1) "join" X.env (eval (.Constant (.str (Str.ofString "")) j p1) X.env) = eval (.Constant (.str (Str.ofString "")) j p1) X.env:=by rfl):
  PE X (.Call (.Attribute (.Constant (.str (Str.ofString "")) j p1) "join" apos) [e] [] cpos) (cJoin1 K te):=by subst h; exact qe_join1 he hfew hline hs hplain hbase
theorem iterE (K:Frag) (h:X.K = K) {tg:Expr} (he:PE X e te):PI X tg e (cIter K te):=by subst h; exact qi_iter he
theorem zipE (K:Frag) (h:X.K = K) {elts:List Expr} {kk:Nat} {tpos:Pos} (hg:Gl X "zip") (hm:X.mg "zip" = none) (ha:PE X a ta) (hb:PE X b tb) (hs:starEach [a,b] X.env = [(false,eval a X.env),(false,eval b X.env)]:=by rfl) (hs2:starEach [b] X.env = [(false,eval b X.env)]:=by rfl):
  PI X (.Tuple elts kk tpos) (.Call (.Name "zip" p) [a,b] [] pos) (cZip K ta tb):=by subst h; exact qi_zip hg hm ha hb hs hs2
theorem tupE (K:Frag) (h:X.K = K) {es:List Expr} {k:Nat} {t:TGs} {n:Nat} (hc:X.calm = true) (hp:PGs X es t) (hn:(assignEach es X.env).length = n:=by rfl) (hst:(assignEach es X.env).findIdx? (·.1) = none:=by rfl):PG X (.Tuple es k pos) (gTup K n t):=by subst h; exact pg_tup hc hp hn hst
end
section
variable {t u:TS} {te ta tb:TE} {tc:TT} {D:Ends} {σ:St} {H:Hp} {Q:VK} {R:Bool -> Hp -> Prop} {i:Nat} {v:V}
theorem a_cVar:cVar i σ H Q = (match σ[i]? with | some (some v)=>Q v H | _=>False):=rfl
theorem a_tC:tC v σ H Q = Q v H:=rfl
theorem a_tOp {r:R2}:tOp r ta tb σ H Q = ta σ H fun x H1=>tb σ H1 fun y H2=>r x y H2 Q:=rfl
theorem a_kAddI {a b:Int}:kAdd (.int a) (.int b) H Q = Q (.int (a + b)) H:=rfl
theorem a_kAddS {a b:List Nat}:kAdd (.str (st a)) (.str (st b)) H Q = (a.length + b.length <= 100000 /\ Q (.str (st (a ++ b))) H):=rfl
theorem a_kAddL {a b:Addr}:kAdd (.ref a) (.ref b) H Q = ∃ xs zs,H a = some (.lst xs) /\ H b = some (.lst zs) /\ xs.length + zs.length <= sizeLine /\ ∀ p,H p = none -> Q (.ref p) (upd H p (.lst (xs ++ zs))):=rfl
theorem a_kI {C:Int -> Int -> Prop} {g:Int -> Int -> V} {a b:Int}:kI C g (.int a) (.int b) H Q = (C a b /\ Q (g a b) H):=rfl
theorem a_kI0 {g:Int -> Int -> V} {a b:Int}:kI0 g (.int a) (.int b) H Q = Q (g a b) H:=rfl
theorem a_kMulI {a b:Int}:kMul (.int a) (.int b) H Q = (CMul a b /\ Q (.int (a * b)) H):=rfl
theorem a_kMulS {c:Nat} {n:Int}:kMul (.str (st [c])) (.int n) H Q = (0 <= n /\ n <= 10000 /\ Q (.str (st (List.replicate n.toNat c))) H):=by
 show (∃ d,[c] = [d] /\ 0 <= n /\ n <= 10000 /\ Q (.str (st (List.replicate n.toNat d))) H) = _
 refine propext ⟨?_,fun h=>⟨c,rfl,h⟩⟩
 rintro ⟨d,e,h⟩
 cases e
 exact h
theorem a_kEqI {n:Bool} {a b:Int}:kEq n (.int a) (.int b) H Q = Q (.bl (n ^^ decide (a = b))) H:=rfl
theorem a_kEqS {n:Bool} {a b:List Nat}:kEq n (.str (st a)) (.str (st b)) H Q = Q (.bl (n ^^ decide (a = b))) H:=rfl
theorem a_kEqB {n:Bool} {a b:Bool}:kEq n (.bl a) (.bl b) H Q = Q (.bl (n ^^ decide (a = b))) H:=rfl
theorem a_kEqNS {n:Bool} {b:Str}:kEq n .non (.str b) H Q = Q (.bl (n ^^ false)) H:=rfl
theorem a_kEqSN {n:Bool} {b:Str}:kEq n (.str b) .non H Q = Q (.bl (n ^^ false)) H:=rfl
theorem a_kEqNN {n:Bool}:kEq n .non .non H Q = Q (.bl (n ^^ true)) H:=rfl
theorem a_kInS {K:Frag} {n:Bool} {c:Nat} {b:List Nat}:kIn K n (.str (st [c])) (.str (st b)) H Q = Q (.bl (n ^^ decide (c ∈ b))) H:=by
 show (∃ d,[c] = [d] /\ Q (.bl (n ^^ decide (d ∈ b))) H) = _
 refine propext ⟨?_,fun h=>⟨c,rfl,h⟩⟩
 rintro ⟨d,e,h⟩
 cases e
 exact h
theorem a_kInL {K:Frag} {n:Bool} {x:V} {p:Addr}:kIn K n x (.ref p) H Q = ∃ xs,(SqL K H p xs \/ SqT K H p xs) /\ flatV x = true /\ xs.all flatV = true /\ Q (.bl (n ^^ inV x xs)) H:=by
 cases x <;> rfl
theorem a_kIxS {K:Frag} {l:List Nat} {j:Int}:kIx K (.str (st l)) (.int j) H Q = (l.length <= 100000 /\ ∃ c,atI l j = some c /\ Q (.str (st [c])) H):=rfl
theorem a_kIxL {K:Frag} {p:Addr} {j:Int}:kIx K (.ref p) (.int j) H Q = ∃ xs v,(SqL K H p xs \/ SqT K H p xs) /\ atI xs j = some v /\ Q v H:=rfl
theorem a_kLenS {K:Frag} {l:List Nat}:kLen K [.str (st l)] H Q = (l.length <= 100000 /\ Q (.int l.length) H):=rfl
theorem a_kLenL {K:Frag} {p:Addr}:kLen K [.ref p] H Q = ∃ ys,(SqL K H p ys \/ SqT K H p ys) /\ Q (.int ys.length) H:=rfl
theorem a_kIntI {a:Int}:kInt [.int a] H Q = Q (.int a) H:=rfl
theorem a_kIntB {a:Bool}:kInt [.bl a] H Q = Q (.int (if a then 1 else 0)) H:=rfl
theorem a_kIntS {c:Nat}:kInt [.str (st [c])] H Q = (48 <= c /\ c <= 57 /\ Q (.int ((c - 48:Nat):Int)) H):=by
 show (∃ d:Nat,[c] = [d] /\ 48 <= d /\ d <= 57 /\ Q (.int ((d - 48:Nat):Int)) H) = _
 refine propext ⟨?_,fun h=>⟨c,rfl,h⟩⟩
 rintro ⟨d,e,h⟩
 cases e
 exact h
theorem a_kSlTo {K:Frag} {l:List Nat} {j:Int}:kSl K (.str (st l)) none (some j) H Q = (l.length <= 100000 /\ 0 <= j /\ j <= l.length /\ Q (.str (st (l.take j.toNat))) H):=rfl
theorem a_kSlFrom {K:Frag} {l:List Nat} {j:Int}:kSl K (.str (st l)) (some j) none H Q = (l.length <= 100000 /\ 0 <= j /\ j <= l.length /\ Q (.str (st (l.drop j.toNat))) H):=rfl
theorem a_kSlL {K:Frag} {p:Addr} {lo hi:Option Int}:kSl K (.ref p) lo hi H Q = ∃ xs,SqL K H p xs /\ ∀ q,H q = none -> Q (.ref q) (upd H q (.lst (cutV xs lo hi))):=rfl
theorem a_tSl {r:V -> Option Int -> Option Int -> Hp -> VK -> Prop} {tl th:TO}:tSl r te tl th σ H Q = te σ H fun x H1=>tl σ H1 fun l H2=>th σ H2 fun u H3=>r x l u H3 Q:=rfl
theorem a_tNoPart {Q:Option Int -> Hp -> Prop}:tNoPart σ H Q = Q none H:=rfl
noncomputable def cPart (t:TE):TO:=fun σ H Q=>t σ H fun x H1=>match x with | .int i=>Q (some i) H1 | _=>False
theorem a_cPart {Q:Option Int -> Hp -> Prop}:cPart te σ H Q = te σ H fun x H1=>match x with | .int i=>Q (some i) H1 | _=>False:=rfl
theorem a_cNeg:cNeg ta σ H Q = ta σ H fun x H1=>match x with | .int i=>Q (.int (-i)) H1 | _=>False:=rfl
theorem a_kEqNil {K:Frag} {a b:Addr}:kEqNil K (.ref a) (.ref b) H Q = ∃ xs,SqL K H a xs /\ SqL K H b [] /\ Q (.bl (decide (xs = []))) H:=rfl
theorem a_cIsI {n:Ty}:cIsI n ta σ H Q = ta σ H fun x H1=>match x with
 | .non=>Q (.bl false) H1
 | .bl _=>Q (.bl n.isBl) H1
 | .int _=>Q (.bl n.isInt) H1
 | .str _=>Q (.bl n.isStr) H1
 | .ref p=>((∃ xs,H1 p = some (.lst xs)) /\ Q (.bl n.isLst) H1) \/ ((∃ xs,H1 p = some (.tup xs)) /\ Q (.bl n.isTup) H1)
 | _=>False:=rfl
theorem a_cTest:cTest te σ H R = te σ H (blK R):=rfl
theorem a_blK {b:Bool}:blK R (.bl b) H = R b H:=rfl
theorem a_cAndV:cAndV ta tb σ H Q = ta σ H (blK fun c H1=>if c = true then tb σ H1 Q else Q (.bl false) H1):=rfl
theorem a_cOrV:cOrV ta tb σ H Q = ta σ H (blK fun c H1=>if c = true then Q (.bl true) H1 else tb σ H1 Q):=rfl
theorem a_cNotV:cNotV ta σ H Q = ta σ H (blK fun c H1=>Q (.bl (!c)) H1):=rfl
theorem a_tAnd {t u:TT}:tAnd t u σ H R = t σ H fun c H1=>if c = true then u σ H1 R else R false H1:=rfl
theorem a_tOr {t u:TT}:tOr t u σ H R = t σ H fun c H1=>if c = true then R true H1 else u σ H1 R:=rfl
theorem a_tNot {t:TT}:tNot t σ H R = t σ H fun c H1=>R (!c) H1:=rfl
theorem a_tYes:tYes σ H R = R true H:=rfl
theorem a_tIf:tIf tc ta tb σ H Q = tc σ H fun c H1=>if c = true then ta σ H1 Q else tb σ H1 Q:=rfl
theorem a_cApp:cApp ta te σ H Q = ta σ H fun x H1=>match x with
 | .ref l=>(∃ xs,H1 l = some (.lst xs)) /\ te σ H1 fun y H2=>∃ xs,H2 l = some (.lst xs) /\ xs.length < sizeLine /\ Q .non (upd H2 l (.lst (xs ++ [y])))
 | _=>False:=rfl
theorem a_cJoin1 {K:Frag}:cJoin1 K te σ H Q = te σ H fun x H1=>match x with
 | .ref l=>∃ cs:List Nat,SqL K H1 l (cs.map fun k=>V.str (st [k])) /\ cs.length <= 10000 /\ Q (.str (st cs)) H1
 | _=>False:=rfl
theorem a_tNil {R:List V -> Hp -> Prop}:tNil σ H R = R [] H:=rfl
theorem a_tCons {t:TA} {R:List V -> Hp -> Prop}:tCons ta t σ H R = ta σ H fun x H1=>t σ H1 fun xs H2=>R (x :: xs) H2:=rfl
theorem a_tCall {sp:Sp} {E:XK} {t:TA}:tCall sp [] E t σ H Q = t σ H fun vs H1=>sp vs H1 Q E:=by
 unfold tCall
 simp only [List.append_nil]
theorem a_tCB {r:List V -> Hp -> VK -> Prop} {t:TA}:tCB r t σ H Q = t σ H fun vs H1=>r vs H1 Q:=rfl
theorem a_tLst {t:TA}:tLst t σ H Q = t σ H fun xs H1=>xs.length <= sizeLine /\ ∀ p,H1 p = none -> Q (.ref p) (upd H1 p (.lst xs)):=rfl
theorem a_tTup {t:TA}:tTup t σ H Q = t σ H fun xs H1=>xs.length <= sizeLine /\ ∀ p,H1 p = none -> Q (.ref p) (upd H1 p (.tup xs)):=rfl
theorem a_tNext:tNext D σ H = D.nx σ H:=rfl
theorem a_tSeq:tSeq t u D σ H = t { D with nx:=u D } σ H:=rfl
theorem a_tDrop:tDrop te D σ H = te σ H fun _ H1=>D.nx σ H1:=rfl
theorem a_tRet:tRet te D σ H = te σ H D.rt:=rfl
theorem a_tIfS:tIfS tc t u D σ H = tc σ H fun b H1=>if b = true then t D σ H1 else u D σ H1:=rfl
theorem a_tAsg {g:TG}:tAsg te g D σ H = te σ H fun x H1=>g x σ H1 D.nx:=rfl
theorem a_gName {R:St -> Hp -> Prop}:gName i v σ H R = R (σ.set i (some v)) H:=rfl
theorem a_tJoin:tJoin t u D σ H = ∃ J:St -> Hp -> Prop,t { D with nx:=J } σ H /\ ∀ σ' H',J σ' H' -> u D σ' H':=rfl
theorem a_cFor {wi:TI} {g:TG}:cFor wi g t D σ H = wi σ H fun J H1=>loopW J g t D σ H1:=rfl
theorem a_cIter {K:Frag} {R:It -> Hp -> Prop}:cIter K te σ H R = te σ H fun x H1=>match x with
 | .str z=>R (Its z) H1
 | .ref a=>((∃ xs,SqL K H1 a xs) /\ R (Itl K a) H1) \/ ((∃ xs,SqT K H1 a xs) /\ R (Itt K a) H1)
 | _=>False:=rfl
theorem a_cRng1 {R:It -> Hp -> Prop}:cRng1 te σ H R = te σ H fun x H1=>match x with
 | .int j=>-1000000 <= j /\ j <= 1000000 /\ R (Itr 0 j.toNat) H1
 | _=>False:=rfl
theorem a_cZip {K:Frag} {R:It -> Hp -> Prop}:cZip K ta tb σ H R = ta σ H fun x H1=>tb σ H1 fun y H2=>srcK K H2 x fun S1=>srcK K H2 y fun S2=>R (Itz K S1 S2) H2:=rfl
theorem a_srcKS {K:Frag} {z:Str} {R:Src -> Prop}:srcK K H (.str z) R = R (.str z):=rfl
theorem a_srcKL {K:Frag} {p:Addr} {R:Src -> Prop}:srcK K H (.ref p) R = ((∃ xs,SqL K H p xs) /\ R (.lst p)):=rfl
theorem a_cComp {nt:Nat} {fi:List Nat} {wi:TI} {g:TG}:cComp nt fi wi g tc te σ H Q = wi σ H fun J H1=>∀ D,H1 D = none -> compW J g tc te (compσ nt fi σ) D Q H1:=rfl
end
theorem a_cxK {CX:CXT} {P:Program} {w:World} {K:Frag} {mg:Str -> Option Value} {base:Heap} {N:List Str} {qual:Str} {scope:Scope} {f:Addr} {cd:Value} {A:Around} {outer:List Env} {s:Shared} {H:Hp} {E:XK}:(cxOf CX P w K mg base N qual scope f cd A outer s H E).K = K:=rfl
theorem a_cxCK {X:Cx} {scope:Scope} {cl:List (Str × Addr)} {N':List Str} {C:Addr} {s:Shared} {H:Hp} {ex:List Addr}:(cxC X scope cl N' C s H ex).K = X.K:=rfl
theorem a_one {a b:Nat}:(([a]:List Nat) = [b]) = (a = b):=by simp
theorem qo_some {X:Cx} {e:Expr} {te:TE} (h:PE X e te):PO X (some e) (cPart te):=fun pins s σ H Q I q=>po_some h.mono pins s σ H Q I ⟨_,q,fun v H1 z=>by
 split at z
 ·exact ⟨_,rfl,z⟩
 ·exact z.elim⟩
end L2
namespace Mir
open PySem L2
noncomputable def cell (ns:List Int) (k:Nat):Int:=(ns[k]?).getD 0
theorem cell_lt {ns:List Int} {k:Int} (h0:0 <= k) (h:k < ns.length):atI (ns.map V.int) k = some (V.int (cell ns k.toNat)):=by
 obtain ⟨j,rfl⟩:∃ j:Nat,k = j:=⟨k.toNat,by omega⟩
 have hj:j < ns.length:=by omega
 refine atI_nat ?_
 simp [cell,hj]
theorem cell_ge {ns:List Int} {k:Int} (h:¬ k < ns.length):cell ns k.toNat = 0:=by
 have hj:ns.length <= k.toNat:=by omega
 simp [cell,hj]
noncomputable def num (c:Int):Nat -> Int
 | 0=>c % 2147483647 + 1
 | i + 1=>(num c i * 48271 + 7 * (i:Int) * (i:Int) + 3) % 2147483647
theorem num_lo (c:Int) (i:Nat):0 <= num c i:=by
 cases i with
 | zero=>simp only [num]; omega
 | succ i=>simp only [num]; omega
theorem num_hi (c:Int) (i:Nat):num c i <= 2147483647:=by
 cases i with
 | zero=>simp only [num]; omega
 | succ i=>simp only [num]; omega
noncomputable def stream (c:Int) (n:Nat):List Int:=(List.range n).map fun i=>num c (i + 1) / 16
theorem stream_len (c:Int) (n:Nat):(stream c n).length = n:=by simp [stream]
theorem stream_snoc (c:Int) (n:Nat):stream c (n + 1) = stream c n ++ [num c (n + 1) / 16]:=by
 simp [stream,List.range_succ]
noncomputable def bit (m:Int):Nat:=if m % 2 = 0 then 48 else 49
theorem at01 (m:Int):atI [48,49] (m % 2) = some (bit m):=by
 have h:m % 2 = 0 \/ m % 2 = 1:=by omega
 unfold bit
 rcases h with h | h <;> rw [h] <;> rfl
theorem bit_or (m:Int):bit m = 48 \/ bit m = 49:=by
 unfold bit
 split
 ·exact .inl rfl
 ·exact .inr rfl
noncomputable def rowSign (l e:Int):Nat:=if e % l > 0 then 45 else bit (e / 64)
noncomputable def row (c:Int) (w:Nat) (l:Int):List Nat:=(stream c w).map (rowSign l)
def IsRow (r:List Nat):Prop:=∀ c ∈ r,c = 48 \/ c = 49 \/ c = 45
def IsLet (r:List Nat):Prop:=∀ c ∈ r,c = 48 \/ c = 49
noncomputable def within (one other:List Nat):Bool:=(one.zip other).all fun p=>p.2 == 45 || p.2 == p.1
end Mir
namespace L2
open PySem PySem.Spec PyProof.Rows
theorem z_pos {K:Params -> Frag} {as:List Addr} {n t:Nat} {w:World} {s:Shared} (y:PySem.W.X.obsZ as s = PySem.W.X.valZ K n t w) (e:∀ P,as = (K P).map (·.1)) (ht:0 < t):(K w.params).In s.heap /\ 0 < s.toks:=by
 obtain ⟨_,h,_,q⟩:=PySem.W.X.z_facts e y
 exact ⟨h,by rw [q]; exact ht⟩
section
variable {prog:Program} {w:World} {A:Around} {E:Value -> Shared -> Prop} {s:Shared}
theorem IsList.extBut' {h h':Heap} {a l:Addr} {items:Array Value} (hl:h.IsList l items) (he:Heap.ExtBut a h h') (hne:l ≠ a):h'.IsList l items:=by
 obtain ⟨o,ho,r⟩:=hl
 exact ⟨o,he l o hne ho,r⟩
theorem draw_mid {it t:Addr} {items:Array Value} (apart:t ≠ it):∀ (mid front back:List Value) (s:Shared) (Q:List Value -> Shared -> Prop),items.toList = front ++ (mid ++ back) -> s.heap.IsListIter it t front.length -> s.heap.IsList t items ->
  (∀ g:Heap,g.IsListIter it t (front.length + mid.length) -> Heap.SameBut it s.heap g -> Q mid { s with heap:=g }) -> wpAny (model prog w) A (draw (.ref it) mid.length) Q E s
 | [],front,_,s,Q,_,at0,_,k=>wpAny_pure (k s.heap at0 (Heap.SameBut.refl ..))
 | x :: mid,front,back,s,Q,e,at0,il,k=>by
  have here:items[front.length]? = some x:=by
   rw [<- Array.getElem?_toList,e,List.getElem?_append_right (Nat.le_refl _),Nat.sub_self]
   rfl
  refine wpAny_bind (m:=pyNext (.ref it)) (wpAny_pyNext_list_item at0 il here fun g1 at1 t1=>?_)
  refine wpAny_bind (wpAny_holding (draw_mid apart mid (front ++ [x]) back _ _ (by rw [e]; simp) (by rw [List.length_append]; exact at1) (IsList.extBut' il t1.extBut apart) fun g2 at2 t2=>wpAny_pure (k g2 ?_ (t1.trans t2))))
  have sum:(front ++ [x]).length + mid.length = front.length + (x :: mid).length:=by
   simp only [List.length_append,List.length_cons,List.length_nil]
   omega
  rw [sum] at at2
  exact at2
theorem unpackItems_list {t:Addr} {items:Array Value} {Q:List Value -> Shared -> Prop} (hh:A.handled = none) (ht:s.heap.IsList t items)
  (k:∀ g,Heap.ExtBut s.heap.objs.size s.heap g -> Q items.toList { s with heap:=g }):wpAny (model prog w) A (unpackItems (.ref t) items.size none) Q E s:=by
 have below:t ≠ s.heap.objs.size:=Nat.ne_of_lt (let ⟨_,q,_⟩:=ht; Heap.lt_size q)
 have still:(s.heap.push { cls:=.type "list_iterator",data:=.fields #[.ref t,.int 0 0] }).IsList t items:=let ⟨o,q,r⟩:=ht; ⟨o,Heap.get?_push_of_some _ q,r⟩
 unfold unpackItems notIterableAtAll
 refine wpAny_bind (wpAny_bind (wpAny_specialOf ht.typeIs slot_list_iter.lookup (wpAny_pure ?_)))
 rw [if_neg (by decide)]
 refine wpAny_bind (wpAny_holding (wpAny_pyIter_list ht ?_))
 have whole:=draw_mid (prog:=prog) (w:=w) (A:=A) (E:=E) (items:=items) below items.toList [] [] { s with heap:=s.heap.push { cls:=.type "list_iterator",data:=.fields #[.ref t,.int 0 0] } }
 rw [Array.length_toList] at whole
 refine wpAny_bind (wpAny_holding (whole _ (by simp) ⟨_,Heap.get?_push_size _ rfl,rfl,rfl⟩ still fun g1 at1 t1=>?_))
 rw [if_neg (by simp)]
 refine wpAny_bind (wpAny_holding (wpAny_pyNext_list_end hh at1 (IsList.extBut' still t1.extBut below) (by simp) fun g2 t2=>?_))
 rw [if_neg (by simp)]
 exact wpAny_pure (k g2 fun b o nb q=>t2 b o nb (t1.extBut b o nb (Heap.get?_push_of_some _ q)))
theorem assign_Tuple_list {env:Env} {elts:List Expr} {x1} {pos:Pos} {t:Addr} {items:Array Value} {Q:Unit -> Shared -> Prop} (hh:A.handled = none) (ht:s.heap.IsList t items)
  (hn:(assignEach elts env).length = items.size) (hstar:(assignEach elts env).findIdx? (·.1) = none)
  (h:∀ h',Heap.ExtBut s.heap.objs.size s.heap h' -> wpAny (model prog w) A (assignInOrder ((assignEach elts env).map (·.2)) items.toList) Q E { s with heap:=h' }):
  wpAny (model prog w) A (assign (.Tuple elts x1 pos) env (.ref t)) Q E s:=by
 rw [assign_Tuple]
 refine wpAny_bind (wpAny_standAt ?_)
 unfold unpack
 rw [hn,hstar]
 exact wpAny_bind (wpAny_holding (unpackItems_list hh ht h))
end
section
variable {X:Cx} {pos:Pos}
noncomputable def gSeq (K:Frag) (n:Nat) (t:TGs):TG:=fun v σ H Q=>match v with
 | .ref a=>∃ xs,(SqL K H a xs \/ SqT K H a xs) /\ xs.length = n /\ t xs σ H Q
 | _=>False
theorem seqE (K:Frag) (hK:X.K = K) {es:List Expr} {k:Nat} {t:TGs} {n:Nat} (hc:X.calm = true) (h:PGs X es t)
  (hn:(assignEach es X.env).length = n:=by rfl) (hst:(assignEach es X.env).findIdx? (·.1) = none:=by rfl):PG X (.Tuple es k pos) (gSeq K n t):=by
 subst hK
 intro pins s σ H v u Q I r hw
 unfold gSeq at hw
 split at hw
 ·rename_i a
  obtain ⟨xs,hq,hl,hw⟩:=hw
  rcases hq with hq | hq
  ·cases r
   obtain ⟨its,rv,ht,hz⟩:=I.list hq
   refine assign_Tuple_list (I.ok.hd hc) ht.isList (by simp [hn,<- hl,rv.length]) hst fun h' hx=>?_
   have I1:Inv X pins σ H { s with heap:=h' }:=I.kept (t':=s.toks) fun b o e=>hx b o (Nat.ne_of_lt (Heap.lt_size e)) e
   exact h pins _ σ H xs _ Q I1 (by simpa using rv) hw
  ·exact pg_tup hc h hn hst pins s σ H _ u Q I r ⟨_,xs,rfl,hq,hl,hw⟩
 ·exact hw.elim
end
section
variable {t:TG} {u:TGs} {σ:St} {H:Hp} {Q:St -> Hp -> Prop} {v:V} {r:List V} {K:Frag} {n:Nat} {p:Addr}
theorem a_gCons:gCons t u (v :: r) σ H Q = t v σ H fun σ' H'=>u r σ' H' Q:=by
 refine propext ⟨?_,fun h=>⟨v,r,rfl,h⟩⟩
 rintro ⟨v',r',e,h⟩
 cases e
 exact h
theorem a_gNil:gNil [] σ H Q = Q σ H:=propext ⟨fun h=>h.2,fun h=>⟨rfl,h⟩⟩
theorem a_gSeq:gSeq K n u (.ref p) σ H Q = ∃ xs,(SqL K H p xs \/ SqT K H p xs) /\ xs.length = n /\ u xs σ H Q:=rfl
end
noncomputable def rep (c d:Nat) (l:List Nat):List Nat:=l.map fun k=>if k = c then d else k
section
variable {X:Cx} {o e:Expr} {to te:TE} {apos cpos p1 p2:Pos} {j1 j2:Nat}
noncomputable def kList (K:Frag):List V -> Hp -> VK -> Prop:=fun xs H Q=>match xs with
 | [.str z]=>z.cps.toList.length <= 100000 /\ ∀ p,H p = none -> Q (.ref p) (upd H p (.lst (z.cps.toList.map fun c=>V.str (st [c]))))
 | [.ref a]=>∃ ys,(SqL K H a ys \/ SqT K H a ys) /\ ∀ p,H p = none -> Q (.ref p) (upd H p (.lst ys))
 | _=>False
theorem vals_signs {x:Str} {acc:Array Value} (h:ItemsOf (SignAt x) acc x.cps.size):Vals (x.cps.toList.map fun c=>V.str (st [c])) acc.toList:=by
 obtain ⟨hs,hi⟩:=h
 have key:∀ (l:List Nat) (us:List Value),l.length = us.length -> (∀ (j:Nat) (v:Value),us[j]? = some v -> ∃ (c:Nat) (u:Tok),l[j]? = some c /\ v = Value.str ⟨#[c]⟩ u) -> Vals (l.map fun c=>V.str (st [c])) us:=by
  intro l
  induction l with
  | nil=>
   intro us hl _
   cases us with
   | nil=>exact .nil
   | cons=>cases hl
  | cons a l ih=>
   intro us hl hq
   cases us with
   | nil=>cases hl
   | cons v us=>
    obtain ⟨c,u,e,rfl⟩:=hq 0 v rfl
    cases e
    exact .cons ⟨u,rfl⟩ (ih us (by simpa using hl) fun j w hj=>hq (j + 1) w hj)
 refine key _ _ (by simp [hs]) fun j v hj=>?_
 obtain ⟨c,u,e,rfl⟩:=hi j v (by simpa using hj)
 exact ⟨c,u,by simpa using e,rfl⟩
theorem call_listK (K:Frag) (hK:X.K = K) (hc:X.calm = true):CallR X (.type "list") (kList K):=by
 subst hK
 intro pins s σ H xs us Q I r q
 unfold kList at q
 split at q
 ·obtain ⟨hl,q⟩:=q
  rename_i z
  obtain ⟨u,rfl,t,rfl⟩:=vals1 r
  have hz:z.cps.size <= sizeLine:=by
   have:=big5
   simp only [Array.length_toList] at hl
   omega
  refine tokQ I.tk (call_list_str (I.ok.hd hc) z t (fun h' tk acc c' kp ho hi (htk:0 < tk)=>?_) hz)
  refine ⟨.ref s.heap.objs.size,_,I.laid (a:=s.heap.objs.size) (o:=.lst (z.cps.toList.map fun c=>V.str (st [c]))) kp (Nat.le_refl _) ⟨?_,acc.toList,c',vals_signs hi,by simpa using ho⟩,rfl,q _ I.fresh⟩
  rw [List.length_map]
  simpa using hz
 ·obtain ⟨ys,h,q⟩:=q
  exact call_list_of pins s σ H _ us Q I r ⟨_,ys,rfl,h,q⟩
 ·exact q.elim
theorem a_kListS {K:Frag} {l:List Nat} {H:Hp} {Q:VK}:kList K [.str (st l)] H Q = (l.length <= 100000 /\ ∀ p,H p = none -> Q (.ref p) (upd H p (.lst (l.map fun c=>V.str (st [c]))))):=rfl
theorem a_kListL {K:Frag} {a:Addr} {H:Hp} {Q:VK}:kList K [.ref a] H Q = ∃ ys,(SqL K H a ys \/ SqT K H a ys) /\ ∀ p,H p = none -> Q (.ref p) (upd H p (.lst ys)):=rfl
end
section
variable {X:Cx} {a:Expr} {ta:TE} {p pos:Pos}
end
section
variable {X:Cx}
end
theorem tab_layNew (t:SetTable) (es:Array (Int × Value)) (h:Int) (x:Value):(layNew t es h x).2.1.led = t.led /\ (t.plain = false -> (layNew t es h x).2.1.plain = false):=by
 unfold layNew
 split
 ·rename_i slot wd e
  show ((t.put slot).1.orStandIn _).led = _ /\ (_ -> ((t.put slot).1.orStandIn _).plain = false)
  unfold SetTable.orStandIn
  split
  ·exact ⟨rfl,fun q=>q⟩
  ·exact ⟨rfl,fun _=>rfl⟩
 ·exact ⟨rfl,fun _=>rfl⟩
theorem tab_laid {mask finger moves:Nat} {led plain:Bool} {hs:Array Int} {r:SetTable × Array Nat} (h:SetTable.laid mask finger moves led plain hs = some r):r.1.led = led /\ r.1.plain = plain:=by
 unfold SetTable.laid at h
 cases q:SetTable.layClean mask hs with
 | none=>rw [q] at h; cases h
 | some ow=>
  rw [q] at h
  cases h
  exact ⟨rfl,rfl⟩
theorem tab_relay (t:SetTable) (es:Array (Int × Value)) (n:Nat):(relayAll t es n).2.1.led = t.led /\ (t.plain = false -> (relayAll t es n).2.1.plain = false):=by
 unfold relayAll
 split
 ·rename_i t' order e
  have q:=tab_laid e
  dsimp only
  split
  ·exact ⟨q.1,fun z=>q.2.trans z⟩
  ·exact ⟨rfl,fun _=>rfl⟩
 ·exact ⟨rfl,fun _=>rfl⟩
noncomputable def txtOf:Value -> Str
 | .str x _=>x
 | _=>⟨#[]⟩
def IsTexts (w:World) (h:Heap) (a:Addr) (led:Bool) (ss:List Str):Prop:=
 ∃ es ep t,h.get? a = some { cls:=.type "set",dict:=none,data:=.set es ep t,slots:=#[] } /\ (∀ e ∈ es.toList,∃ x u,e = (hashStr w x,Value.str x u)) /\
  (es.toList.map fun e=>txtOf e.2).Perm ss /\ t.fits es.size = true /\ t.led = led /\ (es.size ≠ 0 -> t.plain = false)
section
variable {prog:Program} {w:World} {A:Around} {E:Value -> Shared -> Prop} {s:Shared}
theorem texts_elems {es:Array (Int × Value)} (h:∀ e ∈ es.toList,∃ x u,e = (hashStr w x,Value.str x u)):ElemsOf (PySem.strKind prog w) es.toList:=fun e he=>by
 obtain ⟨x,u,rfl⟩:=h e he
 exact ⟨⟨x,by simp [PySem.strKind,Value.isStrOf],rfl⟩,rfl⟩
theorem texts_find {es:List (Int × Value)} (h:∀ e ∈ es,∃ x u,e = (hashStr w x,Value.str x u)) (x:Str):
  (es.findIdx? fun e=>(PySem.strKind prog w).is x e.2) = none ↔ x ∉ es.map fun e=>txtOf e.2:=by
 rw [List.findIdx?_eq_none_iff]
 constructor
 ·intro q hm
  obtain ⟨e,he,rfl⟩:=List.mem_map.mp hm
  obtain ⟨y,u,rfl⟩:=h e he
  have:=q _ he
  simp [PySem.strKind,Value.isStrOf,txtOf] at this
 ·intro q e he
  obtain ⟨y,u,rfl⟩:=h e he
  cases hb:(PySem.strKind prog w).is x (Value.str y u) with
  | false=>rfl
  | true=>
   have e2:y = x:=by
    obtain ⟨t,q⟩:=Value.isStrOf_shape (x:=x) (v:=Value.str y u) hb
    injection q
   exact absurd (List.mem_map.mpr ⟨_,he,by rw [<- e2]; rfl⟩) q
noncomputable def addT (ss:List Str) (x:Str):List Str:=if x ∈ ss then ss else ss ++ [x]
theorem set_put {a:Addr} {es es':Array (Int × Value)} {ep:Nat} {t t':SetTable} (ho:s.heap.get? a = some { cls:=.type "set",dict:=none,data:=.set es ep t,slots:=#[] }):
  (s.heap.update a (Obj.putSet es' t')).get? a = some { cls:=.type "set",dict:=none,data:=.set es' (ep + 1) t',slots:=#[] }:=
 Heap.get?_update_self (Obj.putSet es' t') ho rfl
theorem add_text {a:Addr} {led:Bool} {ss:List Str} {x:Str} {u:Tok} {Q:Bool -> Shared -> Prop} (hS:IsTexts w s.heap a led ss) (room:ss.length + 1 < scanBound)
  (h:∀ h' b,Heap.SameBut a s.heap h' -> IsTexts w h' a led (addT ss x) -> Q b { s with heap:=h' }):
  wpAny (model prog w) A (setAddHashed a (.str x u) (hashStr w x)) Q E s:=by
 obtain ⟨es,ep,t,ho,hel,hp,hf,hl,hpl⟩:=hS
 have hE:=texts_elems (prog:=prog) hel
 have hk:(PySem.strKind prog w).is x (Value.str x u) = true:=by simp [PySem.strKind,Value.isStrOf]
 have hsz:es.size = ss.length:=by have:=hp.length_eq; simpa using this
 have hb:es.size < scanBound:=by omega
 unfold setAddHashed setAddHashedIn
 refine wpAny_holding (wpAny_bind (wpAny_setState_of ho rfl hf ?_))
 dsimp only
 rw [byScan_of (knd:=PySem.strKind prog w) rfl hb hE,if_pos rfl]
 unfold setAddByScan
 refine wpAny_bind (wpAny_bind (wpAny_rule (wpAny_bind (wpAny_setScan_of (knd:=PySem.strKind prog w) hk ho rfl hf hE ?_))))
 have hfind:=texts_find (prog:=prog) hel x
 cases hr:es.toList.findIdx? (fun e=>(PySem.strKind prog w).is x e.2) with
 | some j=>
  have hin:x ∈ ss:=by
   rw [<- hp.mem_iff]
   apply Classical.byContradiction
   intro z
   rw [hfind.mpr z] at hr
   cases hr
  refine wpAny_pure (wpAny_pure ?_)
  have:=h s.heap false (Heap.SameBut.refl a s.heap) ⟨es,ep,t,ho,hel,by unfold addT; rw [if_pos hin]; exact hp,hf,hl,hpl⟩
  exact this
 | none=>
  have hin:x ∉ ss:=by
   rw [<- hp.mem_iff]
   exact hfind.mp hr
  dsimp only
  have p1:=layNew_perm t es (hashStr w x) (Value.str x u)
  have p2:=layNew_fits t es (hashStr w x) (Value.str x u)
  have p3:=tab_layNew t es (hashStr w x) (Value.str x u)
  generalize layNew t es (hashStr w x) (Value.str x u) = L at p1 p2 p3 ⊢
  obtain ⟨es1,t1,wd,gave⟩:=L
  dsimp only at p1 p2 p3 ⊢
  rw [Array.toList_push] at p1
  have hel1:∀ e ∈ es1.toList,∃ x u,e = (hashStr w x,Value.str x u):=fun e he=>by
   rcases List.mem_append.mp (p1.mem_iff.mp he) with q | q
   ·exact hel e q
   ·rw [List.mem_singleton.mp q]; exact ⟨x,u,rfl⟩
  have hp1:(es1.toList.map fun e=>txtOf e.2).Perm (addT ss x):=by
   refine (p1.map _).trans ?_
   unfold addT
   rw [if_neg hin,List.map_append]
   exact hp.append_right _
  have hz1:es1.size = ss.length + 1:=by
   have:=p1.length_eq
   simp only [Array.length_toList,List.length_append,List.length_singleton] at this
   omega
  have gw:∀ (b:Bool) (s₁:Shared) (Q':Unit -> Shared -> Prop),Q' () s₁ -> wpAny (model prog w) A (match b with | true=>rule "set.scan.the-table-gave-way" | false=>pure ()) Q' E s₁:=fun b s₁ Q' q=>by
   cases b
   ·exact wpAny_pure q
   ·exact wpAny_rule q
  refine wpAny_bind (gw _ _ _ ?_)
  split
  ·refine wpAny_bind ?_
   rw [hashByValue_scannable 8 (x:=Value.str x u) rfl]
   refine wpAny_pure ?_
   have pk:plainKind (Value.str x u) = false:=rfl
   simp only [pk,Bool.false_eq_true,↓reduceIte]
   obtain ⟨t2,et,f2,l2,n2⟩:∃ t2:SetTable,t2 = { t1 with plain:=false } /\ t2.fits es1.size = true /\ t2.led = led /\ t2.plain = false:=⟨_,rfl,SetTable.fits_plain_off p2,p3.1.trans hl,rfl⟩
   rw [<- et]
   refine wpAny_bind (wpAny_storeSet_of ho rfl ?_ (fits_of_scanBound (by omega)))
   have o1:=set_put (es':=es1) (t':=t2) ho
   have sb1:=Heap.SameBut.update s.heap a (Obj.putSet es1 t2)
   refine wpAny_ite_split (fun _=>?_) fun _=>?_
   ·have q1:=relayAll_perm t2 es1 (SetTable.grown es1.size)
    have q2:=relayAll_fits t2 es1 (SetTable.grown es1.size)
    have q3:=tab_relay t2 es1 (SetTable.grown es1.size)
    generalize relayAll t2 es1 (SetTable.grown es1.size) = R at q1 q2 q3 ⊢
    obtain ⟨es2,t3,g2⟩:=R
    dsimp only at q1 q2 q3 ⊢
    have z2:es2.size = es1.size:=by have:=q1.length_eq; simpa using this
    refine wpAny_bind (gw _ _ _ ?_)
    refine wpAny_bind (wpAny_storeSet_of o1 rfl ?_ (fits_of_scanBound (by omega)))
    have o2:=set_put (s:={ s with heap:=s.heap.update a (Obj.putSet es1 t2) }) (es':=es2) (t':=t3) o1
    exact wpAny_pure (wpAny_pure (h _ _ (sb1.trans (Heap.SameBut.update _ a _)) ⟨es2,_,t3,o2,fun e he=>hel1 e (q1.mem_iff.mp he),(q1.map _).trans hp1,q2,q3.1.trans l2,fun _=>q3.2 n2⟩))
   ·exact wpAny_pure (wpAny_pure (h _ _ sb1 ⟨es1,_,t2,o1,hel1,hp1,f2,l2,fun _=>n2⟩))
  ·rename_i np
   refine wpAny_bind (wpAny_pure ?_)
   simp only [↓reduceIte]
   obtain ⟨t2,et,f2,l2,n2⟩:∃ t2:SetTable,t2 = t1 /\ t2.fits es1.size = true /\ t2.led = led /\ t2.plain = false:=⟨_,rfl,p2,p3.1.trans hl,by simpa using np⟩
   rw [<- et]
   refine wpAny_bind (wpAny_storeSet_of ho rfl ?_ (fits_of_scanBound (by omega)))
   have o1:=set_put (es':=es1) (t':=t2) ho
   have sb1:=Heap.SameBut.update s.heap a (Obj.putSet es1 t2)
   refine wpAny_ite_split (fun _=>?_) fun _=>?_
   ·have q1:=relayAll_perm t2 es1 (SetTable.grown es1.size)
    have q2:=relayAll_fits t2 es1 (SetTable.grown es1.size)
    have q3:=tab_relay t2 es1 (SetTable.grown es1.size)
    generalize relayAll t2 es1 (SetTable.grown es1.size) = R at q1 q2 q3 ⊢
    obtain ⟨es2,t3,g2⟩:=R
    dsimp only at q1 q2 q3 ⊢
    have z2:es2.size = es1.size:=by have:=q1.length_eq; simpa using this
    refine wpAny_bind (gw _ _ _ ?_)
    refine wpAny_bind (wpAny_storeSet_of o1 rfl ?_ (fits_of_scanBound (by omega)))
    have o2:=set_put (s:={ s with heap:=s.heap.update a (Obj.putSet es1 t2) }) (es':=es2) (t':=t3) o1
    exact wpAny_pure (wpAny_pure (h _ _ (sb1.trans (Heap.SameBut.update _ a _)) ⟨es2,_,t3,o2,fun e he=>hel1 e (q1.mem_iff.mp he),(q1.map _).trans hp1,q2,q3.1.trans l2,fun _=>q3.2 n2⟩))
   ·exact wpAny_pure (wpAny_pure (h _ _ sb1 ⟨es1,_,t2,o1,hel1,hp1,f2,l2,fun _=>n2⟩))
end
noncomputable def dd (l:List Str):List Str:=l.foldl addT []
theorem addT_len (ss:List Str) (x:Str):(addT ss x).length <= ss.length + 1:=by
 unfold addT
 split <;> simp
theorem dd_take {l:List Str} {i:Nat} {x:Str} (h:l[i]? = some x):dd (l.take (i + 1)) = addT (dd (l.take i)) x:=by
 unfold dd
 rw [List.take_add_one,h,List.foldl_append]
 rfl
theorem foldl_addT_len (l:List Str):∀ ss:List Str,(l.foldl addT ss).length <= ss.length + l.length:=by
 induction l with
 | nil=>intro ss; simp
 | cons x l ih=>
  intro ss
  have h1:=ih (addT ss x)
  have h2:=addT_len ss x
  simp only [List.foldl_cons,List.length_cons]
  omega
theorem dd_len (l:List Str):(dd l).length <= l.length:=by
 have:=foldl_addT_len l []
 simpa [dd] using this
theorem addT_mem {ss:List Str} {x y:Str}:y ∈ addT ss x ↔ y ∈ ss \/ y = x:=by
 unfold addT
 split
 ·rename_i h
  exact ⟨.inl,fun q=>q.elim id fun e=>e ▸ h⟩
 ·simp
theorem foldl_addT_mem (l:List Str):∀ (ss:List Str) (y:Str),y ∈ l.foldl addT ss ↔ y ∈ ss \/ y ∈ l:=by
 induction l with
 | nil=>intro ss y; simp
 | cons x l ih=>
  intro ss y
  rw [List.foldl_cons,ih,addT_mem,List.mem_cons]
  exact ⟨fun q=>q.elim (fun z=>z.elim .inl fun e=>.inr (.inl e)) fun z=>.inr (.inr z),fun q=>q.elim (fun z=>.inl (.inl z)) fun z=>z.elim (fun e=>.inl (.inr e)) .inr⟩
theorem dd_mem {l:List Str} {y:Str}:y ∈ dd l ↔ y ∈ l:=by
 unfold dd
 rw [foldl_addT_mem]
 simp
theorem addT_nodup {ss:List Str} (h:ss.Nodup) (x:Str):(addT ss x).Nodup:=by
 unfold addT
 split
 ·exact h
 ·rename_i n
  rw [List.nodup_append]
  exact ⟨h,by simp,fun a ha b hb=>by rw [List.mem_singleton.mp hb]; exact fun e=>n (e ▸ ha)⟩
theorem foldl_addT_nodup (l:List Str):∀ ss:List Str,ss.Nodup -> (l.foldl addT ss).Nodup:=by
 induction l with
 | nil=>intro ss h; exact h
 | cons x l ih=>intro ss h; exact ih _ (addT_nodup h x)
theorem dd_nodup (l:List Str):(dd l).Nodup:=foldl_addT_nodup l [] List.nodup_nil
theorem IsTexts.at {w:World} {h h':Heap} {a:Addr} {led:Bool} {ss:List Str} (x:IsTexts w h a led ss) (k:∀ o,h.get? a = some o -> h'.get? a = some o):IsTexts w h' a led ss:=by
 obtain ⟨es,ep,t,ho,r⟩:=x
 exact ⟨es,ep,t,k _ ho,r⟩
section
variable {prog:Program} {w:World} {A:Around} {R:Result -> Shared -> Prop} {I:Addr} {fp wr:List Addr} {G:Array GenState -> Array GenState -> Prop} {n:Nat} {P:Nat -> Value -> Prop} {St:Nat -> Shared -> Prop}
theorem fill_texts (W:WalksS prog w A.in1 I fp wr G n P St) (S:Addr) (hSf:S ∉ fp) (ss:List Str) (led:Bool) (hn:ss.length = n)
  (hval:∀ i v,P i v -> ∃ x t,ss[i]? = some x /\ v = .str x t) (hb:n + 1 < scanBound):
  ∀ (k i:Nat) (s:Shared),n - i = k -> i <= n -> St i s -> IsTexts w s.heap S led (dd (ss.take i)) ->
   (∀ s',Moved (S :: wr) G s s' -> IsTexts w s'.heap S led (dd ss) -> R (.ok (.ret .none)) s') ->
   codeAny (model prog w) A (.builtin "set.update.loop" ⟨[.ref S,.ref I],[]⟩) R s:=by
 have hSw:S ∉ wr:=fun h=>hSf (W.sub _ h)
 have up:∀ b ∈ wr,b ∈ S :: wr:=fun b hb=>List.mem_cons_of_mem _ hb
 intro k
 induction k with
 | zero=>
  intro i s hk hi hst hS hR
  obtain rfl:i = n:=by omega
  refine codeAny_builtin PyProof.Rows.F.entry_set_update_loop ?_
  rw [Around.under_plainId PyProof.Rows.F.plain_set_update_loop _]
  show wpAny _ A.in1 (pyNext (.ref I) >>= _) _ _ s
  refine wpAny_bind (W.done s _ _ hst fun s' hm=>?_)
  rw [List.take_of_length_le (Nat.le_of_eq hn)] at hS
  exact wpAny_pure (hR s' (hm.mono up) (hS.at fun o e=>hm.heap S o hSw e))
 | succ k ih=>
  intro i s hk hi hst hS hR
  have hlt:i < n:=by omega
  refine codeAny_builtin PyProof.Rows.F.entry_set_update_loop ?_
  rw [Around.under_plainId PyProof.Rows.F.plain_set_update_loop _]
  show wpAny _ A.in1 (pyNext (.ref I) >>= _) _ _ s
  refine wpAny_bind (W.item i s _ _ hlt hst fun v s' hP hst' hm=>?_)
  obtain ⟨x,t,hx,rfl⟩:=hval i v hP
  have hS':IsTexts w s'.heap S led (dd (ss.take i)):=hS.at fun o e=>hm.heap S o hSw e
  show wpAny _ A.in1 (holding [Value.str x t] (setAdd S (.str x t)) >>= _) _ _ s'
  refine wpAny_bind (wpAny_holding ?_)
  unfold setAdd
  refine wpAny_holding (wpAny_bind (wpAny_pyHash_str ?_))
  have hroom:(dd (ss.take i)).length + 1 < scanBound:=by
   have h1:=dd_len (ss.take i)
   rw [List.length_take] at h1
   omega
  refine add_text (s:={ s' with toks:=s'.toks + 1 }) hS' hroom fun h' b hsb hS2=>?_
  rw [<- dd_take hx] at hS2
  refine wpAny_pure ⟨plainId_quiet PyProof.Rows.F.plain_set_update_loop _,ih (i + 1) _ (by omega) hlt (W.frame _ s' _ _ hst' (Nat.le_succ _) fun b hb o e=>?_) hS2 fun s'' hm'' hS''=>?_⟩
  ·rw [hsb.2 b (fun h:b = S=>hSf (h ▸ hb))]
   exact e
  ·refine hR s'' (Moved.trans W.gtrans ((hm.mono up).then_heap (Nat.le_succ _) fun b o hb e=>?_) hm'') hS''
   rw [hsb.2 b (fun h:b = S=>hb (h ▸ List.mem_cons_self))]
   exact e
end
noncomputable abbrev ledW (w:World):Bool:=!w.params.followText "set-order"
noncomputable abbrev setObj0 (w:World):Obj:={ cls:=.type "set",dict:=none,data:=.set #[] 0 (.fresh 0 0 (ledW w)) }
theorem isTexts0 {w:World} {h:Heap} {a:Addr} (ho:h.get? a = some (setObj0 w)):IsTexts w h a (ledW w) []:=
 ⟨#[],0,_,ho,fun e he=>by simp at he,by simp,rfl,rfl,fun q=>absurd rfl q⟩
section
variable {prog:Program} {w:World} {A:Around} {E:Value -> Shared -> Prop} {s:Shared}
theorem new_texts (a:Value) {Q:Value -> Shared -> Prop} (h:Q (.ref s.heap.objs.size) { s with heap:=s.heap.push (setObj0 w) }):
  codeAny (model prog w) A (.call (.builtin "set.__new__") ⟨[.type "set",a],[]⟩) (wants Q E) s:=by
 refine codeAny_of_tree ?_
 show wpAny _ A.in1 (checkBuiltinCall "set.__new__" ⟨[.type "set",a],[]⟩ >>= fun _=>again (.builtin "set.__new__" ⟨[.type "set",a],[]⟩)) _ _ s
 refine wpAny_bind (wpAny_of_eq (PySem.F.newCall_set_1 a) (wpAny_pure ⟨plainId_quiet PySem.F.plain_set_new _,codeAny_builtin PySem.F.entry_set_new ?_⟩))
 rw [Around.under_plainId PySem.F.plain_set_new _]
 unfold Builtin.«set.__new__» Builtin.Frozenset.newClass
 have sb:=sub_set_self
 obtain ⟨hp,g,d,tk,os⟩:=s
 dsimp only
 wp_walk
 refine wpAny_askSetting (wpAny_pure ?_)
 dsimp only
 simp only [newObj]
 exact wpAny_bind (wpAny_alloc (wpAny_pure (wpAny_pure h)))
theorem set_by_halves {v:Value} {Q:Value -> Shared -> Prop}
  (h:∀ A₁:Around,A₁.handled = A.handled -> codeAny (model prog w) A₁ (.call (.builtin "set.__new__") ⟨[.type "set",v],[]⟩)
   (wants (fun made s₁=>(∃ b,made = .ref b) /\ s₁.TypeIs made "set" /\ ∀ A₂:Around,A₂.handled = A.handled -> codeAny (model prog w) A₂ (.call (.builtin "set.__init__") ⟨[made,v],[]⟩) (wants (fun r s₂=>r = .none /\ Q made s₂) E) s₁) E) s):
  wpAny (model prog w) A (call (.type "set") [v]) Q E s:=by
 have C:=PySem.F.called_set
 obtain ⟨_,_,hmro⟩:=C.mro
 have k1:=C.made
 have k2:=C.sub
 have k3:=C.notType
 have k4:=C.canCreate
 have k5:=PySem.F.typeCall_set_1 v
 apply wpAny_call
 apply codeAny_of_tree
 change wpAny _ _ (callAny (.type "set") _) _ _ _
 apply wpAny_pure
 refine ⟨Code.quiet_builtin _ (by decide +kernel),?_⟩
 apply codeAny_builtin PySem.F.entry_type_call
 rw [Around.under_plain (weight_type_call_type "set" [v] []) rfl]
 repeat (any_goals (first | assumption | wp_step))
 refine codeAny_mono (h A.in1 rfl) ?_
 intro r₁ s₁ g₁
 match r₁,g₁ with
 | .error _,g₁=>exact g₁
 | .ok (.ret made),⟨⟨b,eb⟩,hT,g⟩=>
  subst eb
  have k6:=C.init.lookup
  have k7:=C.init.bind (.ref b)
  repeat (any_goals (first | assumption | wp_step))
  refine codeAny_mono (g A.in1 rfl) ?_
  intro r₂ s₂ g₂
  match r₂,g₂ with
  | .error _,g₂=>exact g₂
  | .ok (.ret _),⟨e,q⟩=>
   subst e
   repeat (any_goals (first | assumption | wp_step))
set_option maxHeartbeats 3200000 in
theorem set_of_texts {l:Addr} {items:Array Value} {ss:List Str} {Q:Value -> Shared -> Prop} (hh:A.handled = none) (hl:s.heap.IsList l items) (hn:ss.length = items.size)
  (hv:∀ (i:Nat) (v:Value),items[i]? = some v -> ∃ x t,ss[i]? = some x /\ v = .str x t) (hb:items.size + 1 < scanBound)
  (h:∀ (h':Heap) (tk:Nat),IsTexts w h' s.heap.objs.size (ledW w) (dd ss) -> (∀ b o,s.heap.get? b = some o -> h'.get? b = some o) -> Q (.ref s.heap.objs.size) { s with heap:=h',toks:=tk }):
  wpAny (model prog w) A (call (.type "set") [.ref l]) Q E s:=by
 apply set_by_halves
 intro A₁ _
 apply new_texts
 have hS:(s.heap.push (setObj0 w)).get? s.heap.objs.size = some (setObj0 w):=Heap.get?_push_size _ rfl
 have hT:Shared.TypeIs { s with heap:=s.heap.push (setObj0 w) } (.ref s.heap.objs.size) "set" := ⟨_,hS,rfl⟩
 refine ⟨⟨_,rfl⟩,hT,fun A₂ h2=>?_⟩
 apply codeAny_call_builtin PySem.F.called_set.init.plain PySem.F.entry_set_init
 apply check_set_init_1 hT
 obtain ⟨⟨ocls,odict,odata,oslots⟩,hol,hcl,nl,hdl⟩:=hl
 change ocls = .type "list" at hcl
 change odata = .seq items nl at hdl
 subst hcl hdl
 have hol':(s.heap.push (setObj0 w)).get? l = some { cls:=.type "list",dict:=odict,data:=.seq items nl,slots:=oslots }:=Heap.get?_push_of_some _ hol
 have k1:=PySem.F.sub_list_set
 have k2:=PySem.F.sub_list_frozenset
 have k3:(Value.type "list" == Value.type "dict") = false:=by decide
 have hl1:(s.heap.push (setObj0 w)).IsList l items:=⟨_,hol',rfl,nl,rfl⟩
 unfold Builtin.«set.__init__» noKeywords Builtin.Frozenset.updateFrom
 generalize hPI:pyIter = PI
 wp_walk
 subst hPI
 refine wpAny_pyIter_list hl1 ?_
 apply wpAny_bind
 apply wpAny_runValue
 have hlS:l < s.heap.objs.size:=Heap.lt_size hol
 have hsz:(s.heap.push (setObj0 w)).objs.size = s.heap.objs.size + 1:=Heap.size_push ..
 have hSf:s.heap.objs.size ∉ [(s.heap.push (setObj0 w)).objs.size,l]:=by
  rw [hsz]
  intro z
  rcases List.mem_cons.mp z with z | z
  ·exact Nat.succ_ne_self _ z.symm
  ·exact Nat.ne_of_gt hlS (List.mem_singleton.mp z)
 have W:=Walks.list (prog:=prog) (w:=w) (A:=A₂.in1.in1) (by simp [h2,hh]) (s.heap.push (setObj0 w)).objs.size l (by rw [hsz]; exact Nat.ne_of_lt (Nat.lt_succ_of_lt hlS)) items
 refine fill_texts W.toS s.heap.objs.size hSf ss (ledW w) hn hv hb (items.size - 0) 0 _ (by omega) (Nat.zero_le _) ⟨⟨_,Heap.get?_push_size _ rfl,rfl,rfl⟩,hl1.push _⟩ (isTexts0 (Heap.get?_push_of_some _ hS)) fun s' hm hS'=>?_
 obtain ⟨h',g',d',tk',os'⟩:=s'
 obtain rfl:g' = s.gens:=hm.gens
 obtain rfl:d' = s.drawn:=hm.drawn
 obtain rfl:os' = s.os:=hm.os
 apply wpAny_pure
 apply wpAny_pure
 refine ⟨rfl,h h' tk' hS' fun b o e=>?_⟩
 have hbs:=Heap.lt_size e
 apply hm.heap b o
 ·intro z
  rcases List.mem_cons.mp z with z | z
  ·exact Nat.ne_of_lt hbs z
  ·have z:=List.mem_singleton.mp z
   rw [hsz] at z
   exact Nat.ne_of_lt (Nat.lt_succ_of_lt hbs) z
 ·exact Heap.get?_push_of_some _ (Heap.get?_push_of_some _ e)
end
theorem slot_setit_next:Slot "set_iterator" "__next__" "set_iterator.__next__":=
 .of (owner := "set_iterator") (n := "__next__") (by rw [typeLookup_type,builtinLookup_eq_fast]; kernel_rfl) (by decide +kernel) (by decide +kernel) (by decide +kernel) (by first | exact .inl (by decide +kernel) | exact .inr (by decide +kernel)) (by rw [isSubtype_type]; kernel_rfl)
theorem entry_setit_next:entryFor table "set_iterator.__next__" = some Builtin.«set_iterator.__next__»:=entryFor_of_tree (by kernel_rfl)
theorem args_setit_next (a:Value):argsOk "set_iterator.__next__" ⟨[a],[]⟩:=by unfold argsOk; kernel_rfl
theorem slot_setit_iter:Slot "set_iterator" "__iter__" "set_iterator.__iter__":=
 .of (owner := "set_iterator") (n := "__iter__") (by rw [typeLookup_type,builtinLookup_eq_fast]; kernel_rfl) (by decide +kernel) (by decide +kernel) (by decide +kernel) (by first | exact .inl (by decide +kernel) | exact .inr (by decide +kernel)) (by rw [isSubtype_type]; kernel_rfl)
theorem entry_set_iter:entryFor table "set.__iter__" = some Builtin.«frozenset.__iter__»:=
 entryFor_alias (id' := "frozenset.__iter__") (by kernel_rfl) rfl (by decide +kernel) (by kernel_rfl)
theorem perm_erase {α:Type}:∀ {l:List α} {i:Nat} (hi:i < l.length),(l[i] :: l.eraseIdx i).Perm l
 | _ :: _,0,_=>List.Perm.refl _
 | x :: l,i + 1,hi=>by
  have:=perm_erase (l:=l) (i:=i) (Nat.lt_of_succ_lt_succ hi)
  simp only [List.getElem_cons_succ,List.eraseIdx_cons_succ]
  exact (List.Perm.swap x _ _).trans (List.Perm.cons x this)
section
variable {M:Model} {A:Around} {E:Value -> Shared -> Prop}
theorem any_choose {src:Source} {n:Nat} {s:Shared} {Q:Nat -> Shared -> Prop} (hn:n ≠ 0) (h:∀ i d,i < n -> Q i { s with drawn:=d }):wpAny M A (choose src n) Q E s:=fun Γ p _=>by
 unfold choose
 rw [Sem.wp_choose]
 exact ⟨hn,h _ _ (Nat.mod_lt _ (Nat.pos_of_ne_zero hn))⟩
theorem draw_order {α:Type}:∀ (n:Nat) (xs:List α) (s:Shared) (Q:List α -> Shared -> Prop),xs.length = n -> (∀ ys d,ys.Perm xs -> Q ys { s with drawn:=d }) -> wpAny M A (drawOrder n xs) Q E s:=by
 intro n
 induction n with
 | zero=>
  intro xs s Q hl h
  rw [List.length_eq_zero_iff] at hl
  subst hl
  exact wpAny_pure (h [] s.drawn (List.Perm.refl _))
 | succ n ih=>
  intro xs s Q hl h
  obtain ⟨x,xs,rfl⟩:=List.exists_cons_of_length_eq_add_one hl
  unfold drawOrder
  refine wpAny_bind (any_choose (by simp) fun i d hi=>?_)
  have hg:(x :: xs)[i]? = some (x :: xs)[i]:=List.getElem?_eq_getElem hi
  rw [hg]
  refine wpAny_bind (ih _ _ _ ?_ fun ys d' hp=>wpAny_pure (h _ d' ?_))
  ·rw [List.length_eraseIdx_of_lt hi]
   simpa using hl
  ·exact (List.Perm.cons _ hp).trans (perm_erase hi)
end
theorem pick_go {α:Type} (f:Nat -> Nat):∀ (n k:Nat) (l:List α) (out:Array α),l.length = n -> (pickOrder.go f n k l out).toList.Perm (out.toList ++ l)
 | 0,_,[],out,_=>by simp [pickOrder.go]
 | n + 1,k,x :: l,out,hl=>by
  unfold pickOrder.go
  have hi:f k % (x :: l).length < (x :: l).length:=Nat.mod_lt _ (by simp)
  rw [List.getElem?_eq_getElem hi]
  refine (pick_go f n (k + 1) _ _ ?_).trans ?_
  ·rw [List.length_eraseIdx_of_lt hi]
   simpa using hl
  ·rw [Array.toList_push,List.append_assoc]
   exact List.Perm.append_left _ (perm_erase hi)
theorem pick_perm {α:Type} (f:Nat -> Nat) (xs:Array α):(pickOrder f xs).toList.Perm xs.toList:=by
 unfold pickOrder
 exact (pick_go f xs.size 0 xs.toList #[] (by simp)).trans (by simp)
theorem below_first (j:Nat):SetTable.below #[j] 0 = 0:=by
 simp [SetTable.below,SetTable.below.go]
theorem below_behind (j:Nat):SetTable.below #[j] (j + 1) = 1:=by
 simp [SetTable.below,SetTable.below.go]
section
variable {prog:Program} {w:World} {A:Around} {E:Value -> Shared -> Prop} {s:Shared}
theorem raise_stop {α:Type} {Q:α -> Shared -> Prop} (hh:A.handled = none)
  (h:∀ h' e,(∀ b o,s.heap.get? b = some o -> h'.get? b = some o) -> (∃ o,h'.get? e = some o /\ o.cls = .type "StopIteration") -> E (.ref e) { s with heap:=h' }):
  wpAny (model prog w) A (newExc (.type "StopIteration") [] >>= fun e=>(raiseNew e:Sem α)) Q E s:=by
 refine wpAny_bind ?_
 simp only [newExc,newTuple]
 refine wpAny_bind (wpAny_newObj_type ?_ (by size_fits))
 refine wpAny_bind (m:=firstArgMember _ _) (wpAny_of_eq (a:=Value.none) (by first | rfl | (simp only [firstArgMember]; rfl)) ?_)
 refine wpAny_newObj_type ?_ (by size_fits)
 simp only [raiseNew]
 refine wpAny_bind (wpAny_handled ?_)
 rw [hh]
 exact wpAny_bind (wpAny_pure (wpAny_throw (h _ _ (fun b o e=>Heap.get?_push_of_some _ (Heap.get?_push_of_some _ e)) ⟨_,Heap.get?_push_size _ rfl,rfl⟩)))
noncomputable abbrev itObj (first:Value) (i:Nat) (a:Addr) (n ep:Nat):Obj:={ cls:=.type "set_iterator",dict:=none,data:=.fields #[first,.int i 0,.ref a,.int n 0,.int ep 0],slots:=#[] }
noncomputable abbrev setObj (es:Array (Int × Value)) (ep:Nat) (t:SetTable):Obj:={ cls:=.type "set",dict:=none,data:=.set es ep t,slots:=#[] }
theorem pyNext_set {it:Addr} {o:Obj} {Q:Option Value -> Shared -> Prop} (hz:s.heap.get? it = some o) (hc:o.cls = .type "set_iterator")
  (h:wpAny (model prog w) A.in1 (Builtin.«set_iterator.__next__» ⟨[.ref it],[]⟩) (fun fin s'=>∃ v,fin = .done (.ret v) /\ Q (some v) s')
   (fun e s'=>∃ a,e = .ref a /\ (∃ o,s'.heap.get? a = some o /\ o.cls = .type "StopIteration") /\ Q none s') s):wpAny (model prog w) A (pyNext (.ref it)) Q E s:=by
 have hT:s.TypeIs (.ref it) "set_iterator" := ⟨_,hz,hc⟩
 unfold pyNext
 refine wpAny_bind (wpAny_attempt (wpAny_callSpecial?_slot (name:=Str.ofString "__next__") hT slot_setit_next
  (wpAny_call_entry slot_setit_next hT entry_setit_next (wpAny_mono h (fun fin s' ⟨v,e,q⟩=>⟨v,e,wpAny_pure q⟩) fun e s' he=>?_) (args_setit_next _))))
 obtain ⟨a,rfl,⟨o,ho,hc⟩,q⟩:=he
 exact wpAny_bind (wpAny_isInstance (T := "StopIteration") (b:=true) ⟨o,ho,hc⟩ isSubtype_stop (wpAny_pure q))
end
section
variable {prog:Program} {w:World} {A:Around} {E:Value -> Shared -> Prop} {s:Shared} {it a:Addr} {es:Array (Int × Value)} {n ep i:Nat} {t:SetTable}
theorem next_int_item {slot nx:Nat} {x:Value} {Q:Option Value -> Shared -> Prop} (hit:s.heap.get? it = some (itObj (.int slot 0) i a n ep)) (ha:s.heap.get? a = some (setObj es ep t)) (hf:t.fits es.size = true) (hz:es.size = n)
  (hn:∀ (E':Value -> Shared -> Prop) (Q':Option (Value × Nat) -> Shared -> Prop),Q' (some (x,nx)) s -> wpAny (model prog w) A.in1 (setNext a slot i ep) Q' E' s)
  (hQ:∀ h',h'.get? it = some (itObj (.int nx 0) (i + 1) a n ep) -> Heap.SameBut it s.heap h' -> Q (some x) { s with heap:=h' }):wpAny (model prog w) A (pyNext (.ref it)) Q E s:=by
 refine pyNext_set hit rfl ?_
 unfold Builtin.«set_iterator.__next__» slotArgs
 simp only [List.isEmpty_nil,Bool.not_true,Bool.false_eq_true,↓reduceIte,bind_assoc,List.length_nil,bne_self_eq_false]
 refine wpAny_bind (wpAny_pure ?_)
 dsimp only
 refine wpAny_bind (wpAny_fieldsOf hit rfl ?_)
 dsimp only
 refine wpAny_bind (wpAny_setEntries_of ha rfl hf ?_)
 rw [show ((es.size:Int) != (n:Int)) = false by simp [hz]]
 simp only [Bool.false_eq_true,↓reduceIte]
 refine wpAny_bind (hn _ _ ?_)
 dsimp only
 refine wpAny_bind (wpAny_setField_rec hit (by simp) fun h1 g1 s1=>?_)
 refine wpAny_bind (wpAny_setField_rec (s:={ s with heap:=h1 }) g1 (by simp) fun h2 g2 s2=>?_)
 refine wpAny_pure ⟨x,rfl,hQ h2 ?_ (s1.trans s2)⟩
 rw [g2]
 simp [rawInt]
theorem next_int_end {slot:Nat} {Q:Option Value -> Shared -> Prop} (hh:A.handled = none) (hit:s.heap.get? it = some (itObj (.int slot 0) i a n ep)) (ha:s.heap.get? a = some (setObj es ep t)) (hf:t.fits es.size = true) (hz:es.size = n)
  (hn:∀ (E':Value -> Shared -> Prop) (Q':Option (Value × Nat) -> Shared -> Prop),Q' none s -> wpAny (model prog w) A.in1 (setNext a slot i ep) Q' E' s)
  (hQ:∀ h',Heap.ExtBut it s.heap h' -> Q none { s with heap:=h' }):wpAny (model prog w) A (pyNext (.ref it)) Q E s:=by
 refine pyNext_set hit rfl ?_
 unfold Builtin.«set_iterator.__next__» slotArgs
 simp only [List.isEmpty_nil,Bool.not_true,Bool.false_eq_true,↓reduceIte,bind_assoc,List.length_nil,bne_self_eq_false]
 refine wpAny_bind (wpAny_pure ?_)
 dsimp only
 refine wpAny_bind (wpAny_fieldsOf hit rfl ?_)
 dsimp only
 refine wpAny_bind (wpAny_setEntries_of ha rfl hf ?_)
 rw [show ((es.size:Int) != (n:Int)) = false by simp [hz]]
 simp only [Bool.false_eq_true,↓reduceIte]
 refine wpAny_bind (hn _ _ ?_)
 dsimp only
 refine wpAny_bind (wpAny_setField_rec hit (by simp) fun h1 g1 s1=>?_)
 exact raise_stop (A:=A.in1) (s:={ s with heap:=h1 }) hh fun h2 e k c=>⟨e,rfl,c,hQ h2 fun b o nb q=>k b o (s1.extBut b o nb q)⟩
theorem next_ref_item {T:Addr} {ps:Array Value} {p:Nat} {x:Value} {Q:Option Value -> Shared -> Prop} (hit:s.heap.get? it = some (itObj (.ref T) i a n ep)) (ha:s.heap.get? a = some (setObj es ep t)) (hf:t.fits es.size = true) (hz:es.size = n)
  (hT:s.heap.get? T = some (seqObj "tuple" ps 0)) (hp:ps[i]? = some (.int p 0)) (hx:es[p]?.map (·.2) = some x)
  (hQ:∀ h',h'.get? it = some (itObj (.ref T) (i + 1) a n ep) -> Heap.SameBut it s.heap h' -> Q (some x) { s with heap:=h' }):wpAny (model prog w) A (pyNext (.ref it)) Q E s:=by
 refine pyNext_set hit rfl ?_
 unfold Builtin.«set_iterator.__next__» slotArgs
 simp only [List.isEmpty_nil,Bool.not_true,Bool.false_eq_true,↓reduceIte,bind_assoc,List.length_nil,bne_self_eq_false]
 refine wpAny_bind (wpAny_pure ?_)
 dsimp only
 refine wpAny_bind (wpAny_fieldsOf hit rfl ?_)
 dsimp only
 refine wpAny_bind (wpAny_setEntries_of ha rfl hf ?_)
 rw [show ((es.size:Int) != (n:Int)) = false by simp [hz]]
 simp only [Bool.false_eq_true,↓reduceIte]
 refine wpAny_bind (wpAny_seqItems hT rfl ?_)
 dsimp only
 rw [Int.toNat_natCast,hp]
 dsimp only
 refine wpAny_bind ?_
 unfold setNextDrawn
 refine wpAny_bind (wpAny_setState_of ha rfl hf ?_)
 dsimp only
 rw [Int.toNat_natCast,Int.toNat_natCast]
 simp only [bne_self_eq_false,Bool.false_eq_true,↓reduceIte]
 cases he:es[p]? with
 | none=>rw [he] at hx; cases hx
 | some e=>
  rw [he] at hx
  obtain ⟨h0,y⟩:=e
  cases hx
  refine wpAny_pure ?_
  refine wpAny_bind (wpAny_setField_rec hit (by simp) fun h1 g1 s1=>?_)
  refine wpAny_pure ⟨y,rfl,hQ h1 ?_ s1⟩
  rw [g1]
  simp [rawInt]
theorem next_ref_end {T:Addr} {ps:Array Value} {Q:Option Value -> Shared -> Prop} (hh:A.handled = none) (hit:s.heap.get? it = some (itObj (.ref T) i a n ep)) (ha:s.heap.get? a = some (setObj es ep t)) (hf:t.fits es.size = true) (hz:es.size = n)
  (hT:s.heap.get? T = some (seqObj "tuple" ps 0)) (hp:ps[i]? = none)
  (hQ:∀ h',Heap.ExtBut it s.heap h' -> Q none { s with heap:=h' }):wpAny (model prog w) A (pyNext (.ref it)) Q E s:=by
 refine pyNext_set hit rfl ?_
 unfold Builtin.«set_iterator.__next__» slotArgs
 simp only [List.isEmpty_nil,Bool.not_true,Bool.false_eq_true,↓reduceIte,bind_assoc,List.length_nil,bne_self_eq_false]
 refine wpAny_bind (wpAny_pure ?_)
 dsimp only
 refine wpAny_bind (wpAny_fieldsOf hit rfl ?_)
 dsimp only
 refine wpAny_bind (wpAny_setEntries_of ha rfl hf ?_)
 rw [show ((es.size:Int) != (n:Int)) = false by simp [hz]]
 simp only [Bool.false_eq_true,↓reduceIte]
 refine wpAny_bind (wpAny_seqItems hT rfl ?_)
 dsimp only
 rw [Int.toNat_natCast,hp]
 dsimp only
 refine wpAny_bind (wpAny_setField_rec hit (by simp) fun h1 g1 s1=>?_)
 refine wpAny_bind (wpAny_setField_rec (s:={ s with heap:=h1 }) g1 (by simp) fun h2 g2 s2=>?_)
 exact raise_stop (A:=A.in1) (s:={ s with heap:=h2 }) hh fun h3 e k c=>⟨e,rfl,c,hQ h3 fun b o nb q=>k b o (s2.extBut b o nb (s1.extBut b o nb q))⟩
end
section
variable {prog:Program} {w:World} {A:Around} {E:Value -> Shared -> Prop} {s:Shared} {it a:Addr} {es:Array (Int × Value)} {n ep i:Nat} {t:SetTable}
theorem by_text {Q:Bool -> Shared -> Prop} (h:Q (w.params.followText "set-order") s):wpAny (model prog w) A setsByText Q E s:=by
 unfold setsByText
 exact wpAny_bind (wpAny_askSetting (wpAny_pure h))
theorem setNext_text {slot:Nat} {Q:Option (Value × Nat) -> Shared -> Prop} (hb:w.params.followText "set-order" = true) (ha:s.heap.get? a = some (setObj es ep t)) (hf:t.fits es.size = true)
  (h:Q (((pickOrder (w.params.setOrder a ep) es)[i]?).map fun e=>(e.2,slot)) s):wpAny (model prog w) A (setNext a slot i ep) Q E s:=by
 unfold setNext
 refine wpAny_bind (wpAny_setState_of ha rfl hf ?_)
 dsimp only
 refine wpAny_bind (by_text ?_)
 rw [hb,if_pos rfl]
 simp only [bne_self_eq_false,Bool.false_eq_true,↓reduceIte]
 unfold setWalk
 refine wpAny_bind (wpAny_bind (wpAny_setState_of ha rfl hf ?_))
 dsimp only
 refine wpAny_bind (by_text ?_)
 rw [hb,if_pos rfl]
 refine wpAny_bind (wpAny_askSetting ?_)
 exact wpAny_pure (wpAny_pure h)
theorem setNext_led {slot:Nat} {Q:Option (Value × Nat) -> Shared -> Prop} (hb:w.params.followText "set-order" = false) (ha:s.heap.get? a = some (setObj es ep t)) (hf:t.fits es.size = true) (hl:t.led = true) (h1:es.size <= 1)
  (h:Q (match es[SetTable.below t.place slot]?,t.place[SetTable.below t.place slot]? with | some (_,x),some j=>some (x,j + 1) | _,_=>none) s):wpAny (model prog w) A (setNext a slot i ep) Q E s:=by
 unfold setNext
 refine wpAny_bind (wpAny_setState_of ha rfl hf ?_)
 dsimp only
 refine wpAny_bind (by_text ?_)
 rw [hb]
 have d:(!t.plain && decide (es.size > 1)) = false:=by
  rw [decide_eq_false (by omega)]
  simp
 show wpAny _ _ (if (!t.plain && decide (es.size > 1)) = true then _ else _) _ _ _
 rw [d]
 have d2:(!t.led && !es.isEmpty) = false:=by rw [hl]; rfl
 show wpAny _ _ ((if (!t.led && !es.isEmpty) = true then _ else pure ()) >>= _) _ _ _
 rw [d2]
 exact wpAny_bind (wpAny_pure (wpAny_pure h))
theorem entry_setit_iter:entryFor table "set_iterator.__iter__" = some Builtin.«dict_keyiterator.__iter__»:=
 entryFor_alias (id' := "dict_keyiterator.__iter__") (by kernel_rfl) rfl (by decide +kernel) (by kernel_rfl)
theorem args_setit_iter (a:Value):argsOk "set_iterator.__iter__" ⟨[a],[]⟩:=by unfold argsOk; kernel_rfl
theorem self_setit {Q:Value -> Shared -> Prop} (hT:s.TypeIs (.ref it) "set_iterator") (h:Q (.ref it) s):wpAny (model prog w) A (pyIter (.ref it)) Q E s:=by
 refine wpAny_pyIter_slot hT slot_setit_iter (wpAny_call_entry slot_setit_iter hT entry_setit_iter ?_ (args_setit_iter _))
 show wpAny _ _ (ret (.ref it)) _ _ s
 exact wpAny_pure ⟨_,rfl, "set_iterator",_,hT,slot_setit_next.lookup,h⟩
theorem walks_text (hh:A.handled = none) (hne:a ≠ it) (hb:w.params.followText "set-order" = true) (hf:t.fits es.size = true) (hz:es.size = n):
  Walks prog w A it [it,a] [it] n (fun i v=>((pickOrder (w.params.setOrder a ep) es)[i]?).map (·.2) = some v) (fun i h=>h.get? it = some (itObj (.int 0 0) i a n ep) /\ h.get? a = some (setObj es ep t)) where
 sub:=fun b hb=>by simp at hb; simp [hb]
 frame:=fun _ _ _ st k=>⟨k it (by simp) _ st.1,k a (by simp) _ st.2⟩
 item:=fun i s Q E hi st hQ=>by
  have hs:(pickOrder (w.params.setOrder a ep) es).size = n:=by
   have:=(pick_perm (w.params.setOrder a ep) es).length_eq
   simpa [hz] using this
  have hg:(pickOrder (w.params.setOrder a ep) es)[i]? = some ((pickOrder (w.params.setOrder a ep) es)[i]'(by omega)):=Array.getElem?_eq_getElem _
  refine next_int_item (slot:=0) (nx:=0) (x:=((pickOrder (w.params.setOrder a ep) es)[i]'(by omega)).2) st.1 st.2 hf hz (fun E' Q' q=>setNext_text hb st.2 hf (by rw [hg]; exact q)) fun h' g sb=>?_
  exact hQ _ h' s.toks (by rw [hg]; rfl) ⟨g,sb.extBut _ _ hne st.2⟩ fun b o hb e=>sb.extBut b o (fun z=>hb (by simp [z])) e
 done:=fun s Q E st hQ=>by
  have hs:(pickOrder (w.params.setOrder a ep) es).size = n:=by
   have:=(pick_perm (w.params.setOrder a ep) es).length_eq
   simpa [hz] using this
  have hg:(pickOrder (w.params.setOrder a ep) es)[n]? = none:=Array.getElem?_eq_none (by omega)
  exact next_int_end (slot:=0) hh st.1 st.2 hf hz (fun E' Q' q=>setNext_text hb st.2 hf (by rw [hg]; exact q)) fun h' k=>hQ h' s.toks fun b o hb e=>k b o (fun z=>hb (by simp [z])) e
 self:=fun i s Q E st hQ=>self_setit ⟨_,st.1,rfl⟩ hQ
end
section
variable {prog:Program} {w:World} {A:Around} {E:Value -> Shared -> Prop} {s:Shared} {it a:Addr} {es:Array (Int × Value)} {n ep i:Nat} {t:SetTable}
theorem fits_size (hf:t.fits n = true):t.place.size = n:=by
 unfold SetTable.fits at hf
 simp only [Bool.and_eq_true,beq_iff_eq] at hf
 exact hf.1
theorem walks_led (hh:A.handled = none) (hne:a ≠ it) (hb:w.params.followText "set-order" = false) (hf:t.fits es.size = true) (hz:es.size = n) (hl:t.led = true) (h1:n <= 1):
  Walks prog w A it [it,a] [it] n (fun i v=>(es[i]?).map (·.2) = some v) (fun i h=>(∃ sl,h.get? it = some (itObj (.int (sl:Nat) 0) i a n ep) /\ (i < n -> sl = 0) /\ (i = n -> es[SetTable.below t.place sl]? = none)) /\ h.get? a = some (setObj es ep t)) where
 sub:=fun b hb=>by simp at hb; simp [hb]
 frame:=fun _ _ _ ⟨⟨sl,st,r⟩,st2⟩ k=>⟨⟨sl,k it (by simp) _ st,r⟩,k a (by simp) _ st2⟩
 item:=fun i s Q E hi ⟨⟨sl,st,r⟩,st2⟩ hQ=>by
  obtain rfl:sl = 0:=r.1 hi
  obtain rfl:i = 0:=by omega
  obtain rfl:n = 1:=by omega
  obtain ⟨j,hj⟩:∃ j,t.place = #[j]:=by
   have:=fits_size hf
   rw [hz] at this
   exact Array.size_eq_one_iff.mp this
  obtain ⟨e,he⟩:∃ e,es = #[e]:=Array.size_eq_one_iff.mp hz
  obtain ⟨h0,y⟩:=e
  refine next_int_item (slot:=0) (nx:=j + 1) (x:=y) st st2 hf hz (fun E' Q' q=>setNext_led hb st2 hf hl (by omega) ?_) fun h' g sb=>?_
  ·rw [hj,below_first,he]
   exact q
  ·refine hQ _ h' s.toks (by rw [he]; rfl) ⟨⟨j + 1,g,fun z=>absurd z (by omega),fun _=>?_⟩,sb.extBut _ _ hne st2⟩ fun b o hb e=>sb.extBut b o (fun z=>hb (by simp [z])) e
   rw [hj,below_behind,he]
   rfl
 done:=fun s Q E ⟨⟨sl,st,r⟩,st2⟩ hQ=>by
  refine next_int_end (slot:=sl) hh st st2 hf hz (fun E' Q' q=>setNext_led hb st2 hf hl (by omega) ?_) fun h' k=>hQ h' s.toks fun b o hb e=>k b o (fun z=>hb (by simp [z])) e
  rw [r.2 rfl]
  exact q
 self:=fun i s Q E ⟨⟨sl,st,_⟩,_⟩ hQ=>self_setit ⟨_,st,rfl⟩ hQ
noncomputable def atPlaces (es:Array (Int × Value)) (ys:List Nat):List Value:=ys.map fun p=>((es[p]?).map (·.2)).getD .none
theorem walks_drawn {T:Addr} {ys:List Nat} (hh:A.handled = none) (hne:a ≠ it) (hT:T ≠ it) (hf:t.fits es.size = true) (hz:es.size = n) (hp:ys.Perm (List.range n)):
  Walks prog w A it [it,a,T] [it] n (fun i v=>(atPlaces es ys)[i]? = some v) (fun i h=>h.get? it = some (itObj (.ref T) i a n ep) /\ h.get? a = some (setObj es ep t) /\ h.get? T = some (seqObj "tuple" (ys.map fun (k:Nat)=>rawInt k).toArray 0)) where
 sub:=fun b hb=>by simp at hb; simp [hb]
 frame:=fun _ _ _ st k=>⟨k it (by simp) _ st.1,k a (by simp) _ st.2.1,k T (by simp) _ st.2.2⟩
 item:=fun i s Q E hi st hQ=>by
  have hlen:ys.length = n:=by have:=hp.length_eq; simpa using this
  have hi':i < ys.length:=by omega
  have hlt:ys[i] < es.size:=by
   have:=hp.mem_iff.mp (List.getElem_mem hi')
   rw [hz]
   simpa using this
  have hx:es[ys[i]]?.map (·.2) = some (es[ys[i]].2):=by rw [Array.getElem?_eq_getElem hlt]; rfl
  refine next_ref_item (p:=ys[i]) (x:=es[ys[i]].2) st.1 st.2.1 hf hz st.2.2 (by simp [rawInt,hi']) hx fun h' g sb=>?_
  refine hQ _ h' s.toks ?_ ⟨g,sb.extBut _ _ hne st.2.1,sb.extBut _ _ hT st.2.2⟩ fun b o hb e=>sb.extBut b o (fun z=>hb (by simp [z])) e
  unfold atPlaces
  rw [List.getElem?_map,List.getElem?_eq_getElem hi']
  simp [hlt]
 done:=fun s Q E st hQ=>by
  have hlen:ys.length = n:=by have:=hp.length_eq; simpa using this
  exact next_ref_end hh st.1 st.2.1 hf hz st.2.2 (by simp [hlen]) fun h' k=>hQ h' s.toks fun b o hb e=>k b o (fun z=>hb (by simp [z])) e
 self:=fun i s Q E st hQ=>self_setit ⟨_,st.1,rfl⟩ hQ
theorem places_all (es:Array (Int × Value)):atPlaces es (List.range es.size) = es.toList.map (·.2):=by
 unfold atPlaces
 apply List.ext_getElem
 ·simp
 ·intro i h1 h2
  have:i < es.size:=by simpa using h1
  simp [this]
end
section
variable {prog:Program} {w:World} {A:Around} {E:Value -> Shared -> Prop} {s:Shared}
structure Walked (prog:Program) (w:World) (A:Around) (h:Heap) (a:Addr) (ss:List Str) (it:Addr) (h':Heap):Prop where
 old:∀ b o,h.get? b = some o -> h'.get? b = some o
 new:h.objs.size <= it
 walk:∃ fp St,∃ xs:List Value,Walks prog w A it fp [it] xs.length (fun i v=>xs[i]? = some v) St /\ St 0 h' /\ (∀ b ∈ fp,b = a \/ h.objs.size <= b) /\ (∀ v ∈ xs,∃ x u,v = Value.str x u) /\ (xs.map txtOf).Perm ss
theorem Walks.cast {it:Addr} {fp wr:List Addr} {n m:Nat} {P P':Nat -> Value -> Prop} {St:Nat -> Heap -> Prop} (W:Walks prog w A it fp wr n P St) (e:n = m) (hP:∀ i v,P i v ↔ P' i v):Walks prog w A it fp wr m P' St:=by
 obtain rfl:P = P':=funext fun i=>funext fun v=>propext (hP i v)
 subst e
 exact W
theorem iter_texts {a:Addr} {ss:List Str} {Q:Value -> Shared -> Prop} (hh:A.handled = none) (hS:IsTexts w s.heap a (ledW w) ss) (hb:ss.length <= 100000)
  (h:∀ it h' d,Walked prog w A s.heap a ss it h' -> Q (.ref it) { s with heap:=h',drawn:=d }):wpAny (model prog w) A (pyIter (.ref a)) Q E s:=by
 obtain ⟨es,ep,t,ho,hel,hp,hf,hl,hpl⟩:=hS
 have hT:s.TypeIs (.ref a) "set" := ⟨_,ho,rfl⟩
 have hlt:=Heap.lt_size ho
 have hsz:es.size = ss.length:=by have:=hp.length_eq; simpa using this
 have hvs:∀ v ∈ es.toList.map (·.2),∃ x u,v = Value.str x u:=fun v hv=>by
  obtain ⟨e,he,rfl⟩:=List.mem_map.mp hv
  obtain ⟨x,u,rfl⟩:=hel e he
  exact ⟨x,u,rfl⟩
 have hps:((es.toList.map (·.2)).map txtOf).Perm ss:=by rw [List.map_map]; exact hp
 have mk:∀ (xs:List Value),xs.Perm (es.toList.map (·.2)) -> (∀ v ∈ xs,∃ x u,v = Value.str x u) /\ (xs.map txtOf).Perm ss:=fun xs q=>
  ⟨fun v hv=>hvs v (q.mem_iff.mp hv),(q.map _).trans hps⟩
 refine wpAny_pyIter_slot hT PySem.F.slot_set_iter (wpAny_call_entry PySem.F.slot_set_iter hT entry_set_iter ?_ (PySem.F.args_set_iter_1 _))
 unfold Builtin.«frozenset.__iter__» Builtin.Frozenset.slot0 slotArgs
 simp only [List.isEmpty_nil,Bool.not_true,Bool.false_eq_true,↓reduceIte,bind_assoc,List.length_nil,bne_self_eq_false]
 unfold Builtin.Frozenset.addrOf Builtin.Frozenset.sizeOf
 refine wpAny_bind (wpAny_pure ?_)
 try dsimp only
 refine wpAny_bind (wpAny_pure ?_)
 refine wpAny_bind (wpAny_bind (wpAny_setEntries_of ho rfl hf (wpAny_pure ?_)))
 unfold setDrawn
 refine wpAny_bind (wpAny_bind (wpAny_setState_of ho rfl hf ?_))
 dsimp only
 refine wpAny_bind (by_text (wpAny_pure ?_))
 change wpAny _ _ (if (!w.params.followText "set-order" && (!t.plain && decide (es.size > 1))) = true then _ else _) _ _ _
 have ne1:∀ (h1:Heap),s.heap.objs.size <= h1.objs.size -> a ≠ h1.objs.size:=fun h1 q=>Nat.ne_of_lt (Nat.lt_of_lt_of_le hlt q)
 by_cases hd:(!w.params.followText "set-order" && (!t.plain && decide (es.size > 1))) = true
 ·rw [if_pos hd]
  refine wpAny_bind (draw_order es.size (List.range es.size) s _ (by simp) fun ys d hy=>?_)
  have hyl:ys.length = es.size:=by have:=hy.length_eq; simpa using this
  refine wpAny_bind (wpAny_newTuple ?_ (by rw [List.length_map,hyl,sizeLine_eq]; omega))
  refine wpAny_bind (wpAny_setEpoch_of (Heap.get?_push_of_some _ ho) rfl hf ?_)
  refine wpAny_bind (wpAny_newObj_type (wpAny_pure ⟨_,rfl, "set_iterator",_,⟨_,Heap.get?_push_size _ rfl,rfl⟩,slot_setit_next.lookup,?_⟩))
  have hq:(atPlaces es ys).Perm (es.toList.map (·.2)):=by
   rw [<- places_all]
   exact hy.map _
  have hlen:es.size = (atPlaces es ys).length:=by unfold atPlaces; rw [List.length_map,hyl]
  have e1:(s.heap.push (seqObj "tuple" (ys.map fun (k:Nat)=>rawInt k).toArray 0)).objs.size = s.heap.objs.size + 1:=size_push' ..
  refine h _ _ d ⟨fun b o e=>Heap.get?_push_of_some _ (Heap.get?_push_of_some _ e),Nat.le_trans (Nat.le_succ _) (Nat.le_of_eq e1.symm),_,_,_,
   Walks.cast (walks_drawn (A:=A) (a:=a) (T:=s.heap.objs.size) (ep:=ep) hh (ne1 _ (Nat.le_trans (Nat.le_succ _) (Nat.le_of_eq e1.symm))) ?_ hf rfl hy) hlen fun _ _=>Iff.rfl,?_,?_,(mk _ hq).1,(mk _ hq).2⟩
  ·exact Nat.ne_of_lt (Nat.lt_of_lt_of_le (Nat.lt_succ_self _) (Nat.le_of_eq e1.symm))
  ·exact ⟨Heap.get?_push_size _ rfl,Heap.get?_push_of_some _ (Heap.get?_push_of_some _ ho),Heap.get?_push_of_some _ (Heap.get?_push_size _ rfl)⟩
  ·intro b hb
   simp only [List.mem_cons,List.not_mem_nil,or_false] at hb
   rcases hb with rfl | rfl | rfl
   ·exact .inr (Nat.le_trans (Nat.le_succ _) (Nat.le_of_eq e1.symm))
   ·exact .inl rfl
   ·exact .inr (Nat.le_refl _)
 ·rw [if_neg hd]
  refine wpAny_bind (wpAny_pure ?_)
  refine wpAny_bind (wpAny_setEpoch_of ho rfl hf ?_)
  refine wpAny_bind (wpAny_newObj_type (wpAny_pure ⟨_,rfl, "set_iterator",_,⟨_,Heap.get?_push_size _ rfl,rfl⟩,slot_setit_next.lookup,?_⟩))
  have fpo:∀ b ∈ [s.heap.objs.size,a],b = a \/ s.heap.objs.size <= b:=fun b hb=>by
   simp only [List.mem_cons,List.not_mem_nil,or_false] at hb
   rcases hb with rfl | rfl
   ·exact .inr (Nat.le_refl _)
   ·exact .inl rfl
  refine h _ _ s.drawn ⟨fun b o e=>Heap.get?_push_of_some _ e,Nat.le_refl _,?_⟩
  cases hbt:w.params.followText "set-order" with
  | true=>
   have hq:((pickOrder (w.params.setOrder a ep) es).toList.map (·.2)).Perm (es.toList.map (·.2)):=(pick_perm (w.params.setOrder a ep) es).map _
   refine ⟨_,_,_,Walks.cast (walks_text (A:=A) (a:=a) (ep:=ep) (t:=t) hh (ne1 _ (Nat.le_refl _)) hbt hf rfl) (by have:=hq.length_eq; simpa using this.symm) (fun i v=>?_),⟨Heap.get?_push_size _ rfl,Heap.get?_push_of_some _ ho⟩,fpo,(mk _ hq).1,(mk _ hq).2⟩
   rw [List.getElem?_map,Array.getElem?_toList]
  | false=>
   have h1:es.size <= 1:=by
    rw [hbt] at hd
    apply Classical.byContradiction
    intro z
    have hp0:=hpl (by omega)
    apply hd
    rw [hp0,decide_eq_true (by omega)]
    rfl
   have hq:=List.Perm.refl (es.toList.map (·.2))
   refine ⟨_,_,_,Walks.cast (walks_led (A:=A) (a:=a) (ep:=ep) (t:=t) hh (ne1 _ (Nat.le_refl _)) hbt hf rfl (by rw [hl]; unfold ledW; rw [hbt]; rfl) h1) (by simp) (fun i v=>?_),⟨⟨0,Heap.get?_push_size _ rfl,fun _=>rfl,fun z=>?_⟩,Heap.get?_push_of_some _ ho⟩,fpo,(mk _ hq).1,(mk _ hq).2⟩
   ·rw [List.getElem?_map,Array.getElem?_toList]
   ·exact Array.getElem?_eq_none (by omega)
end
section
variable {prog:Program} {w:World} {A:Around} {E:Value -> Shared -> Prop} {s:Shared}
theorem hint_set {r:Addr} {Q:Bool -> Shared -> Prop} (hT:s.TypeIs (.ref r) "set") (h:Q false s):wpAny (model prog w) A (Builtin.List.listLengthHint (.ref r)) Q E s:=by
 unfold Builtin.List.listLengthHint
 refine wpAny_bind (wpAny_specialOf hT PySem.F.slot_set_len.lookup ?_)
 generalize hid:("set.__len__" : String) = nm
 wp_delta
 rw [show splitId nm = some ("set", "__len__") from by subst hid; decide +kernel]
 subst hid
 refine wpAny_bind (wpAny_isInstance (T := "set") (b:=true) hT (by rw [isSubtype_type]; kernel_rfl) ?_)
 refine wpAny_ite_split (fun z=>absurd z (by decide)) fun _=>?_
 refine wpAny_ite_split (fun _=>?_) fun z=>absurd (by decide +kernel) z
 exact wpAny_bind (wpAny_typeOf hT (wpAny_pure h))
theorem collect_texts {a:Addr} {ss:List Str} {R:List Value -> Shared -> Prop} (hh:A.handled = none) (hS:IsTexts w s.heap a (ledW w) ss) (hb:ss.length <= 100000)
  (h:∀ (h':Heap) (tk:Nat) (d:Drawn) (vs:List Value),s.heap.objs.size < h'.objs.size -> (∀ b o,s.heap.get? b = some o -> h'.get? b = some o) -> (∀ v ∈ vs,∃ x u,v = Value.str x u) -> (vs.map txtOf).Perm ss -> R vs { s with heap:=h',toks:=tk,drawn:=d }):
  wpAny (model prog w) A (collect (.ref a)) R E s:=by
 unfold collect
 refine wpAny_bind (wpAny_runValue (codeAny_builtin entry_proto_collect' ?_))
 rw [Around.under_plainId PySem.F.plain_proto_collect _]
 show wpAny _ A.in1 (newList [] >>= fun l=>again (.builtin "list.__iadd__" ⟨[l,.ref a],[]⟩)) _ _ s
 refine wpAny_bind (wpAny_newObj_type ?_)
 refine wpAny_pure ⟨plainId_quiet PySem.F.plain_list_iadd _,codeAny_builtin entry_list_iadd' ?_⟩
 rw [Around.under_plainId PySem.F.plain_list_iadd _]
 generalize hL:s.heap.objs.size = S
 have hS1:(s.heap.push { cls:=.type "list",data:=.seq ([]:List Value).toArray }).get? S = some { cls:=.type "list",data:=.seq #[] }:=hL ▸ Heap.get?_push_size _ rfl
 have hkeep:∀ b o,s.heap.get? b = some o -> (s.heap.push { cls:=.type "list",data:=.seq ([]:List Value).toArray }).get? b = some o:=fun b o e=>Heap.get?_push_of_some _ e
 have haS:a < S:=by obtain ⟨es,ep,t,ho,_⟩:=hS; rw [<- hL]; exact Heap.lt_size ho
 have hz1:(s.heap.push { cls:=.type "list",data:=.seq ([]:List Value).toArray }).objs.size = S + 1:=by rw [size_push',hL]
 have hS':IsTexts w (s.heap.push { cls:=.type "list",data:=.seq ([]:List Value).toArray }) a (ledW w) ss:=hS.at fun o e=>hkeep _ _ e
 generalize hg:s.heap.push { cls:=.type "list",data:=.seq ([]:List Value).toArray } = g at hS1 hkeep hz1 hS'
 have hT:Shared.TypeIs { s with heap:=g } (.ref a) "set" := by obtain ⟨es,ep,t,ho,_⟩:=hS'; exact ⟨_,ho,rfl⟩
 show wpAny _ A.in1 (Builtin.List.listExtendWith (.ref S) (.ref a) (.ref S)) _ _ { s with heap:=g }
 unfold Builtin.List.listExtendWith
 refine wpAny_bind (wpAny_typeOf (T := "set") hT ?_)
 have h1:Builtin.List.listSameRef (.ref S) (.ref a) = false:=by simp [Builtin.List.listSameRef,Nat.ne_of_gt haS]
 have h2:(Value.type "set" == Value.type "list") = false:=by decide
 have h3:(Value.type "set" == Value.type "tuple") = false:=by decide
 simp only [h1,h2,h3,Bool.or_false,Bool.false_eq_true,if_false]
 refine wpAny_bind (iter_texts (A:=A.in1) (s:={ s with heap:=g }) hh hS' hb fun it g' d W=>?_)
 obtain ⟨old,new,fp,St,xs,Wk,st,hfp,hxs,hpx⟩:=W
 have hxl:xs.length = ss.length:=by have:=hpx.length_eq; simpa using this
 have hS2:=old _ _ hS1
 have hSf:S ∉ fp:=fun z=>by
  rcases hfp S z with q | q
  ·exact Nat.lt_irrefl _ (q ▸ haS)
  ·rw [show ({ s with heap:=g }:Shared).heap.objs.size = S + 1 from hz1] at q
   exact absurd q (Nat.not_le.mpr (Nat.lt_succ_self _))
 have itS:it ≠ S:=fun z=>by
  subst z
  rw [show ({ s with heap:=g }:Shared).heap.objs.size = it + 1 from hz1] at new
  exact absurd new (Nat.not_le.mpr (Nat.lt_succ_self _))
 have key:∀ (h:Heap) (c₁ tk:Nat),St 0 h -> (∀ b o,b ≠ S -> g'.get? b = some o -> h.get? b = some o) -> h.get? S = some { cls:=.type "list",data:=.seq #[] c₁ } ->
   codeAny (model prog w) A (.builtin "list.extend.loop" ⟨[.ref S,.ref it,.ref S],[]⟩) (fun r s'=>∃ vs c' k1 k2,r = .ok (.ret (.ref S)) /\ s' = { s with heap:=k1,toks:=k2,drawn:=d } /\ k1.get? S = some { cls:=.type "list",dict:=none,data:=.seq vs c',slots:=#[] } /\ vs.toList = xs /\
    (∀ b o,s.heap.get? b = some o -> k1.get? b = some o)) { s with heap:=h,toks:=tk,drawn:=d }:=by
  intro h c₁ tk hst hk hl
  refine codeAny_extend_loopS (Wk.toS) (by rw [hxl,sizeLine_eq]; omega) S hSf (.ref S) xs.length 0 _ #[] c₁ rfl (Nat.zero_le _) hst hl (ItemsOf.nil _) fun s' acc c' hm hl' hacc=>?_
  obtain ⟨k1,gg,dd',k2,oo⟩:=s'
  obtain rfl:gg = s.gens:=hm.gens
  obtain rfl:dd' = d:=hm.drawn
  obtain rfl:oo = s.os:=hm.os
  refine ⟨acc,c',k1,k2,rfl,rfl,hl',?_,fun b o e=>hm.heap b o (fun z=>?_) (hk b o (fun z=>?_) (old b o (hkeep b o e)))⟩
  ·apply List.ext_getElem?
   intro j
   by_cases hj:j < xs.length
   ·have hj':j < acc.size:=by rw [hacc.1]; exact hj
    have:=hacc.2 j _ (Array.getElem?_eq_getElem hj')
    rw [this,Array.getElem?_toList,Array.getElem?_eq_getElem hj']
   ·rw [List.getElem?_eq_none (by rw [Array.length_toList,hacc.1]; omega),List.getElem?_eq_none (by omega)]
  ·have hbs:=Heap.lt_size e
   rw [hL] at hbs
   rcases List.mem_cons.mp z with q | q
   ·exact Nat.lt_irrefl _ (q ▸ hbs)
   ·rw [List.mem_singleton.mp q] at hbs
    rw [show ({ s with heap:=g }:Shared).heap.objs.size = S + 1 from hz1] at new
    exact absurd (Nat.lt_of_le_of_lt new hbs) (Nat.not_lt.mpr (Nat.le_succ _))
  ·have hbs:=Heap.lt_size e
   rw [hL] at hbs
   exact Nat.lt_irrefl _ (z ▸ hbs)
 have hT2:Shared.TypeIs { s with heap:=g',drawn:=d } (.ref a) "set" := by obtain ⟨es,ep,t,ho,_⟩:=hS'; exact ⟨_,old _ _ ho,rfl⟩
 refine wpAny_bind (wpAny_holding (hint_set hT2 ?_))
 have last:∀ (r:Result) (s':Shared),(∃ vs c' k1 k2,r = .ok (.ret (.ref S)) /\ s' = { s with heap:=k1,toks:=k2,drawn:=d } /\ k1.get? S = some { cls:=.type "list",dict:=none,data:=.seq vs c',slots:=#[] } /\ vs.toList = xs /\
    (∀ b o,s.heap.get? b = some o -> k1.get? b = some o)) -> ∃ vs c' k1 k2,r = .ok (.ret (.ref S)) /\ s' = { s with heap:=k1,toks:=k2,drawn:=d } /\ k1.get? S = some { cls:=.type "list",dict:=none,data:=.seq vs c',slots:=#[] } /\ R vs.toList s':=by
  rintro r s' ⟨vs,c',k1,k2,rfl,rfl,hl,hv,hk⟩
  exact ⟨vs,c',k1,k2,rfl,rfl,hl,h k1 k2 d vs.toList (hL ▸ Heap.lt_size hl) hk (hv ▸ hxs) (hv ▸ hpx)⟩
 refine wpAny_ite_split (fun _=>?_) (fun _=>wpAny_pure ⟨plainId_quiet PySem.F.plain_extend_loop _,codeAny_mono (key g' 0 s.toks st (fun _ _ _ e=>e) hS2) fun r s' q=>?_⟩)
 ·refine wpAny_bind (wpAny_rule ?_)
  refine wpAny_bind ?_
  show wpAny _ _ (updateSeq S (·.push .none) >>= fun _=>updateSeq S (·.pop)) _ _ _
  refine wpAny_bind (wpAny_updateSeq hS2 rfl ?_)
  have hS3:=Heap.get?_update_self (Obj.mapSeq (·.push Value.none)) hS2 rfl
  refine wpAny_updateSeq (hz:=by seq_fits) hS3 rfl ?_
  have hS4:=Heap.get?_update_self (Obj.mapSeq (·.pop)) hS3 rfl
  have up:∀ b o,b ≠ S -> g'.get? b = some o -> ((g'.update S (Obj.mapSeq (·.push Value.none))).update S (Obj.mapSeq (·.pop))).get? b = some o:=fun b o nb e=>
   (Heap.get?_update_other _ _ (Ne.symm nb)).trans ((Heap.get?_update_other _ _ (Ne.symm nb)).trans e)
  refine wpAny_pure ⟨plainId_quiet PySem.F.plain_extend_loop _,codeAny_mono (key _ _ s.toks (Wk.frame 0 _ _ st fun b hb o e=>up b o (fun z=>hSf (z ▸ hb)) e) up hS4) fun r s' q=>?_⟩
  obtain ⟨vs,c',k1,k2,rfl,rfl,hl,hr⟩:=last r s' q
  exact wpAny_bind (wpAny_load hl (wpAny_pure hr))
 ·obtain ⟨vs,c',k1,k2,rfl,rfl,hl,hr⟩:=last r s' q
  exact wpAny_bind (wpAny_load hl (wpAny_pure hr))
end
end L2
namespace L2
open PySem PyProof.Rows
section
variable {α:Type} {le:α -> α -> Prop}
def Srt (le:α -> α -> Prop) (l:List α):Prop:=l.Pairwise le
structure MInv (le:α -> α -> Prop) (A B out:List α) (ia ib:Nat):Prop where
 ha:ia <= A.length
 hb:ib <= B.length
 srt:Srt le out
 low:∀ x ∈ out,(∀ y ∈ A.drop ia,le x y) /\ ∀ y ∈ B.drop ib,le x y
 perm:(out ++ (A.drop ia ++ B.drop ib)).Perm (A ++ B)
theorem MInv.len {A B out:List α} {ia ib:Nat} (m:MInv le A B out ia ib):out.length = ia + ib:=by
 have:=m.perm.length_eq
 simp only [List.length_append,List.length_drop] at this
 have:=m.ha
 have:=m.hb
 omega
theorem MInv.swap {A B out:List α} {ia ib:Nat} (m:MInv le A B out ia ib):MInv le B A out ib ia:=
 ⟨m.hb,m.ha,m.srt,fun x hx=>⟨(m.low x hx).2,(m.low x hx).1⟩,((List.perm_append_comm.append_left out).trans m.perm).trans List.perm_append_comm⟩
theorem MInv.start {A B:List α}:MInv le A B [] 0 0:=⟨Nat.zero_le _,Nat.zero_le _,List.Pairwise.nil,fun x hx=>absurd hx List.not_mem_nil,by simp⟩
theorem srt_drop {A:List α} (h:Srt le A) (i:Nat):Srt le (A.drop i):=h.sublist (List.drop_sublist i A)
theorem MInv.as {A B out:List α} {ia ib:Nat} (m:MInv le A B out ia ib) (hA:Srt le A) (k:Nat) (hk:ia + k <= A.length) (h:∀ x ∈ (A.drop ia).take k,∀ y ∈ B.drop ib,le x y):MInv le A B (out ++ (A.drop ia).take k) (ia + k) ib:=by
 have hA':=srt_drop hA ia
 have e:A.drop ia = (A.drop ia).take k ++ A.drop (ia + k):=by rw [<- List.drop_drop,List.take_append_drop]
 have hA'':=hA'
 unfold Srt at hA''
 rw [e,List.pairwise_append] at hA''
 refine ⟨hk,m.hb,List.pairwise_append.mpr ⟨m.srt,hA''.1,fun x hx y hy=>(m.low x hx).1 y (List.mem_of_mem_take hy)⟩,fun x hx=>?_,?_⟩
 ·rcases List.mem_append.mp hx with hx | hx
  ·exact ⟨fun y hy=>(m.low x hx).1 y (by rw [e]; exact List.mem_append_right _ hy),(m.low x hx).2⟩
  ·exact ⟨fun y hy=>hA''.2.2 x hx y hy,h x hx⟩
 ·have:=m.perm
  rw [e] at this
  simpa using this
theorem MInv.bs {A B out:List α} {ia ib:Nat} (m:MInv le A B out ia ib) (hB:Srt le B) (k:Nat) (hk:ib + k <= B.length) (h:∀ x ∈ (B.drop ib).take k,∀ y ∈ A.drop ia,le x y):MInv le A B (out ++ (B.drop ib).take k) ia (ib + k):=
 (m.swap.as hB k hk h).swap
theorem drop_take1 {A:List α} {i:Nat} {x:α} (h:A[i]? = some x):(A.drop i).take 1 = [x]:=by
 obtain ⟨hl,rfl⟩:=List.getElem?_eq_some_iff.mp h
 rw [List.drop_eq_getElem_cons hl]
 rfl
theorem MInv.a1 {A B out:List α} {ia ib:Nat} {x:α} (m:MInv le A B out ia ib) (hA:Srt le A) (hx:A[ia]? = some x) (h:∀ y ∈ B.drop ib,le x y):MInv le A B (out ++ [x]) (ia + 1) ib:=by
 have:=m.as hA 1 (by have:=(List.getElem?_eq_some_iff.mp hx).1; omega) (by rw [drop_take1 hx]; intro z hz; rw [List.mem_singleton.mp hz]; exact h)
 rwa [drop_take1 hx] at this
theorem MInv.b1 {A B out:List α} {ia ib:Nat} {x:α} (m:MInv le A B out ia ib) (hB:Srt le B) (hx:B[ib]? = some x) (h:∀ y ∈ A.drop ia,le x y):MInv le A B (out ++ [x]) ia (ib + 1):=
 (m.swap.a1 hB hx h).swap
def Merged (le:α -> α -> Prop) (A B l:List α):Prop:=Srt le l /\ l.Perm (A ++ B)
theorem MInv.done {A B out:List α} {ia ib:Nat} (m:MInv le A B out ia ib) (hA:Srt le A) (hB:Srt le B) (h:ia = A.length \/ ib = B.length):Merged le A B (out ++ A.drop ia ++ B.drop ib):=by
 refine ⟨?_,by rw [List.append_assoc]; exact m.perm⟩
 rcases h with h | h
 ·rw [h,List.drop_length,List.append_nil]
  exact List.pairwise_append.mpr ⟨m.srt,srt_drop hB _,fun x hx y hy=>(m.low x hx).2 y hy⟩
 ·rw [h,List.drop_length,List.append_nil]
  exact List.pairwise_append.mpr ⟨m.srt,srt_drop hA _,fun x hx y hy=>(m.low x hx).1 y hy⟩
theorem MInv.last {A B out:List α} {ia ib:Nat} (m:MInv le A B out ia ib) (hA:Srt le A) (hB:Srt le B) (h:∀ x ∈ B,∀ y ∈ A.drop ia,le x y):Merged le A B (out ++ B.drop ib ++ A.drop ia):=by
 refine ⟨List.pairwise_append.mpr ⟨List.pairwise_append.mpr ⟨m.srt,srt_drop hB _,fun x hx y hy=>(m.low x hx).2 y hy⟩,srt_drop hA _,fun x hx y hy=>?_⟩,?_⟩
 ·rcases List.mem_append.mp hx with hx | hx
  ·exact (m.low x hx).1 y hy
  ·exact h x (List.mem_of_mem_drop hx) y hy
 ·rw [List.append_assoc]
  exact (List.perm_append_comm.append_left out).trans m.perm
theorem srt_first {A:List α} (h:Srt le A) (rf:∀ x,le x x) {i:Nat} {x:α} (hx:A[i]? = some x):∀ y ∈ A.drop i,le x y:=by
 obtain ⟨hl,rfl⟩:=List.getElem?_eq_some_iff.mp hx
 have:=srt_drop h i
 rw [List.drop_eq_getElem_cons hl] at this ⊢
 intro y hy
 rcases List.mem_cons.mp hy with rfl | hy
 ·exact rf _
 ·exact (List.pairwise_cons.mp this).1 y hy
theorem srt_at {A:List α} (h:Srt le A) (rf:∀ x,le x x) {i j:Nat} {x y:α} (hx:A[i]? = some x) (hy:A[j]? = some y) (hij:i <= j):le x y:=by
 refine srt_first h rf hx y ?_
 obtain ⟨hl,rfl⟩:=List.getElem?_eq_some_iff.mp hy
 exact List.mem_drop_iff_getElem.mpr ⟨j - i,by omega,by congr 1; omega⟩
theorem mem_take_at {A:List α} {i k:Nat} {x:α} (h:x ∈ (A.drop i).take k):∃ j,i <= j /\ j < i + k /\ A[j]? = some x:=by
 obtain ⟨j,hj,e⟩:=List.mem_take_iff_getElem.mp h
 rw [List.getElem_drop] at e
 rw [List.length_drop] at hj
 exact ⟨i + j,by omega,by omega,List.getElem?_eq_some_iff.mpr ⟨by omega,e⟩⟩
theorem mem_drop_at {A:List α} {i:Nat} {x:α} (h:x ∈ A.drop i):∃ j,i <= j /\ A[j]? = some x:=by
 obtain ⟨j,hj,e⟩:=List.mem_drop_iff_getElem.mp h
 exact ⟨i + j,by omega,List.getElem?_eq_some_iff.mpr ⟨_,e⟩⟩
end
section
variable {α:Type} {le:α -> α -> Prop}
structure HInv (le:α -> α -> Prop) (A B out:List α) (na nb:Nat):Prop where
 ha:na <= A.length
 hb:nb <= B.length
 srt:Srt le out.reverse
 low:∀ x ∈ out,(∀ y ∈ A.take na,le y x) /\ ∀ y ∈ B.take nb,le y x
 perm:(A.take na ++ B.take nb ++ out).Perm (A ++ B)
theorem HInv.len {A B out:List α} {na nb:Nat} (m:HInv le A B out na nb):na + nb + out.length = A.length + B.length:=by
 have:=m.perm.length_eq
 simp only [List.length_append,List.length_take] at this
 have:=m.ha
 have:=m.hb
 omega
theorem HInv.swap {A B out:List α} {na nb:Nat} (m:HInv le A B out na nb):HInv le B A out nb na:=
 ⟨m.hb,m.ha,m.srt,fun x hx=>⟨(m.low x hx).2,(m.low x hx).1⟩,((List.perm_append_comm.append_right out).trans m.perm).trans List.perm_append_comm⟩
theorem HInv.start {A B:List α}:HInv le A B [] A.length B.length:=⟨Nat.le_refl _,Nat.le_refl _,List.Pairwise.nil,fun x hx=>absurd hx List.not_mem_nil,by simp⟩
theorem srt_take {A:List α} (h:Srt le A) (i:Nat):Srt le (A.take i):=h.sublist (List.take_sublist i A)
theorem HInv.as {A B out:List α} {na nb:Nat} (m:HInv le A B out na nb) (hA:Srt le A) (k:Nat) (hk:k <= na) (h:∀ x ∈ (A.take na).drop k,∀ y ∈ B.take nb,le y x):HInv le A B (out ++ ((A.take na).drop k).reverse) k nb:=by
 have e:A.take na = A.take k ++ (A.take na).drop k:=by
  conv=>lhs; rw [<- List.take_append_drop k (A.take na),List.take_take,Nat.min_eq_left hk]
 have hA':=srt_take hA na
 unfold Srt at hA'
 rw [e,List.pairwise_append] at hA'
 refine ⟨Nat.le_trans hk m.ha,m.hb,?_,fun x hx=>?_,?_⟩
 ·unfold Srt
  rw [List.reverse_append,List.reverse_reverse]
  refine List.pairwise_append.mpr ⟨hA'.2.1,m.srt,fun x hx y hy=>(m.low y (List.mem_reverse.mp hy)).1 x (List.mem_of_mem_drop hx)⟩
 ·rcases List.mem_append.mp hx with hx | hx
  ·exact ⟨fun y hy=>(m.low x hx).1 y (by rw [e]; exact List.mem_append_left _ hy),(m.low x hx).2⟩
  ·have hx:=List.mem_reverse.mp hx
   exact ⟨fun y hy=>hA'.2.2 y hy x hx,h x hx⟩
 ·refine List.Perm.trans ?_ m.perm
  generalize (A.take na).drop k = d at e
  rw [e]
  refine List.Perm.trans (l₂:=A.take k ++ (d ++ (B.take nb ++ out))) ?_ (by simp)
  rw [List.append_assoc]
  refine List.Perm.append_left _ ?_
  refine List.Perm.trans (l₂:=B.take nb ++ (d ++ out)) (List.Perm.append_left _ (List.perm_append_comm.trans ((List.reverse_perm d).append_right out))) ?_
  rw [<- List.append_assoc,<- List.append_assoc]
  exact List.perm_append_comm.append_right out
theorem HInv.bs {A B out:List α} {na nb:Nat} (m:HInv le A B out na nb) (hB:Srt le B) (k:Nat) (hk:k <= nb) (h:∀ x ∈ (B.take nb).drop k,∀ y ∈ A.take na,le y x):HInv le A B (out ++ ((B.take nb).drop k).reverse) na k:=
 (m.swap.as hB k hk h).swap
theorem take_drop1 {A:List α} {i:Nat} {x:α} (h:A[i]? = some x):(A.take (i + 1)).drop i = [x]:=by
 obtain ⟨hl,rfl⟩:=List.getElem?_eq_some_iff.mp h
 rw [List.take_succ_eq_append_getElem hl,List.drop_left' (by rw [List.length_take]; omega)]
theorem HInv.a1 {A B out:List α} {na nb:Nat} {x:α} (m:HInv le A B out (na + 1) nb) (hA:Srt le A) (hx:A[na]? = some x) (h:∀ y ∈ B.take nb,le y x):HInv le A B (out ++ [x]) na nb:=by
 have:=m.as hA na (by omega) (by rw [take_drop1 hx]; intro z hz; rw [List.mem_singleton.mp hz]; exact h)
 rwa [take_drop1 hx,List.reverse_singleton] at this
theorem HInv.b1 {A B out:List α} {na nb:Nat} {x:α} (m:HInv le A B out na (nb + 1)) (hB:Srt le B) (hx:B[nb]? = some x) (h:∀ y ∈ A.take na,le y x):HInv le A B (out ++ [x]) na nb:=
 (m.swap.a1 hB hx h).swap
theorem HInv.done {A B out:List α} {na nb:Nat} (m:HInv le A B out na nb) (hA:Srt le A) (hB:Srt le B) (h:na = 0 \/ nb = 0):Merged le A B (A.take na ++ B.take nb ++ out.reverse):=by
 refine ⟨?_,((List.reverse_perm out).append_left _).trans m.perm⟩
 rcases h with h | h
 ·rw [h,List.take_zero,List.nil_append]
  exact List.pairwise_append.mpr ⟨srt_take hB _,m.srt,fun x hx y hy=>(m.low y (List.mem_reverse.mp hy)).2 x hx⟩
 ·rw [h,List.take_zero,List.append_nil]
  exact List.pairwise_append.mpr ⟨srt_take hA _,m.srt,fun x hx y hy=>(m.low y (List.mem_reverse.mp hy)).1 x hx⟩
theorem HInv.first {A B out:List α} {na nb:Nat} (m:HInv le A B out na nb) (hA:Srt le A) (hB:Srt le B) (h:∀ x ∈ B.take nb,∀ y ∈ A,le x y):Merged le A B (B.take nb ++ A.take na ++ out.reverse):=by
 refine ⟨List.pairwise_append.mpr ⟨List.pairwise_append.mpr ⟨srt_take hB _,srt_take hA _,fun x hx y hy=>h x hx y (List.mem_of_mem_take hy)⟩,m.srt,fun x hx y hy=>?_⟩,?_⟩
 ·rcases List.mem_append.mp hx with hx | hx
  ·exact (m.low y (List.mem_reverse.mp hy)).2 x hx
  ·exact (m.low y (List.mem_reverse.mp hy)).1 x hx
 ·exact ((List.reverse_perm out).append_left _).trans ((List.perm_append_comm.append_right out).trans m.perm)
theorem srt_last {A:List α} (h:Srt le A) (rf:∀ x,le x x) {i:Nat} {x:α} (hx:A[i]? = some x):∀ y ∈ A.take (i + 1),le y x:=by
 intro y hy
 obtain ⟨j,hj,e⟩:=List.mem_take_iff_getElem.mp hy
 exact srt_at h rf (List.getElem?_eq_some_iff.mpr ⟨by omega,e⟩) hx (by omega)
theorem mem_took_at {A:List α} {i:Nat} {x:α} (h:x ∈ A.take i):∃ j,j < i /\ A[j]? = some x:=by
 obtain ⟨j,hj,e⟩:=List.mem_take_iff_getElem.mp h
 exact ⟨j,by omega,List.getElem?_eq_some_iff.mpr ⟨by omega,e⟩⟩
theorem mem_mid_at {A:List α} {i k:Nat} {x:α} (h:x ∈ (A.take i).drop k):∃ j,k <= j /\ j < i /\ A[j]? = some x:=by
 obtain ⟨j,j1,j2⟩:=mem_drop_at h
 obtain ⟨hl,e⟩:=List.getElem?_eq_some_iff.mp j2
 rw [List.getElem_take] at e
 rw [List.length_take] at hl
 exact ⟨j,j1,by omega,List.getElem?_eq_some_iff.mpr ⟨by omega,e⟩⟩
end
def gallopX:Bool -> Keyed -> Array Keyed -> Nat -> Nat -> Nat -> StateT SortSt Sem (Option Nat):=sortPriv% PySem.Builtin.gallop
section
variable {prog:Program} {w:World} {A:Around} {E:Value -> Shared -> Prop} {s:Shared}
def CmpBy (prog:Program) (w:World) (A:Around) (E:Value -> Shared -> Prop) (s:Shared) (kd:SortKind) (S:Keyed -> Prop) (b:Keyed -> Keyed -> Bool):Prop:=
 ∀ (x y:Keyed) (st:SortSt) (Q:Option Bool -> SortSt -> Prop),S x -> S y -> kindOf st = kd -> Q (some (b x y)) st -> wpS (model prog w) A E s (lt' x y) Q st
noncomputable def beyB (left:Bool) (b:Keyed -> Keyed -> Bool) (key:Keyed) (x:Keyed):Bool:=if left = true then b x key else !(b key x)
abbrev At2 (st:SortSt) (P:Nat -> Nat -> Prop) (c:Option (Option Nat) × Nat × Nat) (st':SortSt):Prop:=st' = st /\ ∃ l o,c = (none,l,o) /\ P l o
@[elab_as_elim] theorem At2.el {st:SortSt} {P:Nat -> Nat -> Prop} {motive:Option (Option Nat) × Nat × Nat -> SortSt -> Prop} {c:Option (Option Nat) × Nat × Nat} {st':SortSt} (h:At2 st P c st') (k:∀ l o,P l o -> motive (none,l,o) st):motive c st':=by
 obtain ⟨rfl,l,o,rfl,h⟩:=h
 exact k l o h
theorem wp_gallop {kd:SortKind} {S:Keyed -> Prop} {b:Keyed -> Keyed -> Bool} (hC:CmpBy prog w A E s kd S b) {left:Bool} {key:Keyed} {arr:Array Keyed} {base n hint:Nat} {st:SortSt} {Q:Option Nat -> SortSt -> Prop}
  (hk:kindOf st = kd) (hS:S key) (hA:∀ i x,i < n -> arr[base + i]? = some x -> S x) (hb:base + n <= arr.size) (hh:hint < n) {B:Nat -> Bool} (hB:∀ i x,i < n -> arr[base + i]? = some x -> B i = beyB left b key x) (anti:∀ i j,i <= j -> j < n -> B j = true -> B i = true)
  (h:∀ k,k <= n -> (∀ i,i < k -> B i = true) -> (∀ i,k <= i -> i < n -> B i = false) -> Q (some k) st):wpS (model prog w) A E s (gallopX left key arr base n hint) Q st:=by
 have bey:∀ (i:Nat) (Q:Option Bool -> SortSt -> Prop),i < n -> Q (some (B i)) st -> wpS (model prog w) A E s (elem' arr (base + i) >>= fun x=>if left = true then lt' x key else lt' key x >>= fun r=>pure (r.map (!·))) Q st:=fun i Q hi q=>by
  have hl:base + i < arr.size:=by omega
  have e:arr[base + i]? = some (arr[base + i]'hl):=getElem?_pos arr (base + i) hl
  rw [elem'_eq,e]
  refine wpS_bind (wpS_pure ?_)
  rw [hB i _ hi e] at q
  unfold beyB at q
  by_cases hl:left = true
  ·rw [if_pos hl] at q ⊢
   exact hC _ _ _ _ (hA i _ hi e) hS hk q
  ·rw [if_neg hl] at q ⊢
   exact wpS_bind (hC _ _ _ _ hS (hA i _ hi e) hk (wpS_pure q))
 unfold gallopX
 refine wpS_bind (bey hint _ hh ?_)
 dsimp -zetaHave only
 lift_lets
 extract_lets jp v0 v1
 subst v0 v1
 have hjp:∀ u l0 o0 l r,l <= r -> r <= n -> (∀ i,i < l -> B i = true) -> (∀ i,r <= i -> i < n -> B i = false) -> wpS (model prog w) A E s (jp u l0 o0 l r) Q st:=fun u l0 o0 l r b1 b2 b3 b4=>by
  subst jp
  dsimp only
  refine wpS_bind (wpS_mono (wpS_forRange (I:=fun x=>At2 st fun l r=>l <= r /\ r <= n /\ r - l <= n - x /\ (∀ i,i < l -> B i = true) /\ ∀ i,r <= i -> i < n -> B i = false)
   (Q:=At2 st fun k k'=>k = k' /\ k <= n /\ (∀ i,i < k -> B i = true) /\ ∀ i,k <= i -> i < n -> B i = false) ?hstep ?hfin ⟨rfl,_,_,rfl,b1,b2,by omega,b3,b4⟩) ?hpost)
  case hfin=>
   rintro c st' ⟨rfl,l,r,rfl,a1,a2,a3,a4,a5⟩
   obtain rfl:l = r:=by omega
   exact ⟨rfl,l,_,rfl,rfl,a2,a4,a5⟩
  case hpost=>
   rintro c st' ⟨rfl,k,_,rfl,rfl,a2,a4,a5⟩
   exact wpS_pure (h k a2 a4 a5)
  case hstep=>
   intro x c st'' _ hx hI
   refine At2.el hI fun l r p=>?_
   clear hI
   have a1:=p.1
   have a2:=p.2.1
   have a3:=p.2.2.1
   have a4:=p.2.2.2.1
   have a5:=p.2.2.2.2
   clear p
   dsimp only
   by_cases hge:l >= r
   ·rw [if_pos hge]
    exact wpS_pure ⟨rfl,l,_,rfl,Nat.le_antisymm a1 hge,Nat.le_trans a1 a2,a4,fun i i1=>a5 i (Nat.le_trans hge i1)⟩
   ·rw [if_neg hge]
    refine wpS_bind (bey (l + (r - l) / 2) _ (by omega) ?_)
    cases hm:B (l + (r - l) / 2)
    ·simp only [Bool.false_eq_true,if_false]
     refine wpS_pure ⟨rfl,_,_,rfl,by omega,by omega,by omega,a4,fun i i1 i2=>?_⟩
     cases e:B i
     ·rfl
     ·rw [anti _ i i1 i2 e] at hm
      exact absurd hm (by decide)
    ·simp only [if_true]
     exact wpS_pure ⟨rfl,_,_,rfl,by omega,by omega,by omega,fun i i1=>anti i _ (by omega) (by omega) hm,a5⟩
 cases hr:B hint
 ·simp only [Bool.false_eq_true,if_false]
  refine wpS_bind (wpS_mono (wpS_forRange (I:=fun x=>At2 st fun l o=>l < o /\ l <= hint /\ x < o /\ B (hint - l) = false)
   (Q:=At2 st fun l o=>l < o /\ l <= hint /\ B (hint - l) = false /\ (hint + 1 <= o \/ (o <= hint /\ B (hint - o) = true))) ?step ?fin ⟨rfl,0,1,rfl,Nat.one_pos,Nat.zero_le _,Nat.one_pos,hr⟩) ?post)
  case fin=>
   rintro c st' ⟨rfl,l,o,rfl,a1,a2,a3,a4⟩
   exact ⟨rfl,l,o,rfl,a1,a2,a4,.inl (by omega)⟩
  case step=>
   intro x c st' _ hx hI
   refine At2.el hI fun l o p=>?_
   clear hI
   dsimp only
   by_cases hge:o >= hint + 1
   ·rw [if_pos hge]
    exact wpS_pure ⟨rfl,l,o,rfl,p.1,p.2.1,p.2.2.2,.inl hge⟩
   ·rw [if_neg hge]
    refine wpS_bind (bey (hint - o) _ (Nat.lt_of_le_of_lt (Nat.sub_le _ _) hh) ?_)
    cases hm:B (hint - o)
    ·simp only [Bool.false_eq_true,if_false]
     exact wpS_pure ⟨rfl,o,2 * o + 1,rfl,by omega,Nat.le_of_lt_succ (Nat.lt_of_not_le hge),by omega,hm⟩
    ·simp only [if_true]
     exact wpS_pure ⟨rfl,l,o,rfl,p.1,p.2.1,p.2.2.2,.inr ⟨Nat.le_of_lt_succ (Nat.lt_of_not_le hge),hm⟩⟩
  case post=>
   intro c st' hI
   refine At2.el hI fun l o p=>?_
   clear hI
   have a4:=p.2.2.1
   have a5:=p.2.2.2
   dsimp only
   refine hjp () l o _ _ ?_ (Nat.le_trans (Nat.sub_le _ _) (Nat.le_of_lt hh)) ?_ ?_
   ·rcases a5 with a5 | a5 <;> omega
   ·intro i hi
    rcases a5 with a5 | ⟨a5,a6⟩
    ·omega
    ·exact anti i _ (by omega) (Nat.lt_of_le_of_lt (Nat.sub_le _ _) hh) a6
   ·intro i i1 i2
    cases e:B i
    ·rfl
    ·rw [anti _ i i1 i2 e] at a4
     exact absurd a4 (by decide)
 ·simp only [if_true]
  refine wpS_bind (wpS_mono (wpS_forRange (I:=fun x=>At2 st fun l o=>l < o /\ hint + l < n /\ x < o /\ B (hint + l) = true)
   (Q:=At2 st fun l o=>l < o /\ hint + l < n /\ B (hint + l) = true /\ (n - hint <= o \/ (hint + o < n /\ B (hint + o) = false))) ?step ?fin ⟨rfl,0,1,rfl,Nat.one_pos,hh,Nat.one_pos,hr⟩) ?post)
  case fin=>
   rintro c st' ⟨rfl,l,o,rfl,a1,a2,a3,a4⟩
   exact ⟨rfl,l,o,rfl,a1,a2,a4,.inl (by omega)⟩
  case step=>
   intro x c st' _ hx hI
   refine At2.el hI fun l o p=>?_
   clear hI
   dsimp only
   by_cases hge:o >= n - hint
   ·rw [if_pos hge]
    exact wpS_pure ⟨rfl,l,o,rfl,p.1,p.2.1,p.2.2.2,.inl hge⟩
   ·rw [if_neg hge]
    have ho:hint + o < n:=by omega
    refine wpS_bind (bey (hint + o) _ ho ?_)
    cases hm:B (hint + o)
    ·simp only [Bool.not_false,if_true]
     exact wpS_pure ⟨rfl,l,o,rfl,p.1,p.2.1,p.2.2.2,.inr ⟨ho,hm⟩⟩
    ·simp only [Bool.not_true,Bool.false_eq_true,if_false]
     exact wpS_pure ⟨rfl,o,2 * o + 1,rfl,by omega,ho,by omega,hm⟩
  case post=>
   intro c st' hI
   refine At2.el hI fun l o p=>?_
   clear hI
   have a1:=p.1
   have a2:=p.2.1
   have a4:=p.2.2.1
   have a5:=p.2.2.2
   clear p
   dsimp only
   refine hjp () l o _ _ (by omega) (by omega) ?_ ?_
   ·exact fun i hi=>anti i _ (Nat.le_of_lt_succ hi) a2 a4
   ·intro i i1 i2
    rcases a5 with a5 | ⟨a5,a6⟩
    ·omega
    ·cases e:B i
     ·rfl
     ·rw [anti _ i (by omega) i2 e] at a6
      exact absurd a6 (by decide)
end
def mergeLoX:Array Keyed -> Array Keyed -> StateT SortSt Sem (Array Keyed):=sortPriv% PySem.Builtin.mergeLo
def mergeHiX:Array Keyed -> Array Keyed -> StateT SortSt Sem (Array Keyed):=sortPriv% PySem.Builtin.mergeHi
structure SameSt (st st':SortSt):Prop where
 k:kindOf st' = kindOf st
 a:arrOf st' = arrOf st
 p:pendingOf st' = pendingOf st
 f:failedOf st' = failedOf st
theorem SameSt.refl (st:SortSt):SameSt st st:=⟨rfl,rfl,rfl,rfl⟩
theorem SameSt.trans {a b c:SortSt} (h:SameSt a b) (k:SameSt b c):SameSt a c:=⟨k.k.trans h.k,k.a.trans h.a,k.p.trans h.p,k.f.trans h.f⟩
structure LtOk (lt:Keyed -> Keyed -> Bool):Prop where
 rf:∀ x,lt x x = false
 tr:∀ x y z,lt y x = false -> lt z y = false -> lt z x = false
 as:∀ x y,lt x y = true -> lt y x = false
noncomputable abbrev leB (lt:Keyed -> Keyed -> Bool):Keyed -> Keyed -> Prop:=fun x y=>lt y x = false
theorem extr {a:Array Keyed} (i j:Nat):(a.extract i j).toList = (a.toList.drop i).take (j - i):=by
 rw [Array.toList_extract,List.extract_eq_take_drop]
theorem extr_all {a:Array Keyed} (i:Nat):(a.extract i a.size).toList = a.toList.drop i:=by
 rw [extr,List.take_of_length_le (by simp)]
section
variable {prog:Program} {w:World} {A:Around} {E:Value -> Shared -> Prop} {s:Shared}
theorem wp_elem {arr:Array Keyed} {i:Nat} {x:Keyed} {st:SortSt} {Q:Keyed -> SortSt -> Prop} (h:arr[i]? = some x) (q:Q x st):wpS (model prog w) A E s (elem' arr i) Q st:=by
 rw [elem'_eq,h]
 exact wpS_pure q
theorem wp_setG {f:SortSt -> SortSt} {st st2:SortSt} {Q:PUnit -> SortSt -> Prop} (hs:SameSt st st2) (hf:∀ u,SameSt u (f u)) (h:∀ st3,SameSt st st3 -> Q ⟨⟩ st3):wpS (model prog w) A E s (modify f:StateT SortSt Sem PUnit) Q st2:=wpS_modify (h _ (hs.trans (hf _)))
theorem at_arr {arr:Array Keyed} {i:Nat} (h:i < arr.size):∃ x,arr[i]? = some x /\ arr.toList[i]? = some x /\ x ∈ arr.toList:=
 ⟨arr[i],getElem?_pos arr i h,by rw [Array.getElem?_toList]; exact getElem?_pos arr i h,by simp⟩
theorem at_el {arr:Array Keyed} {i:Nat} (h:i < arr.size) {G:Prop} (k:∀ x,arr[i]? = some x -> arr.toList[i]? = some x -> x ∈ arr.toList -> G):G:=
 let ⟨x,h1,h2,h3⟩:=at_arr h
 k x h1 h2 h3
theorem wp_gallopR {kd:SortKind} {S:Keyed -> Prop} {lt:Keyed -> Keyed -> Bool} (hC:CmpBy prog w A E s kd S lt) (hL:LtOk lt) {key:Keyed} {arr:Array Keyed} {base n hint:Nat} {st:SortSt} {Q:Option Nat -> SortSt -> Prop}
  (hk:kindOf st = kd) (hS:S key) (hA:∀ x ∈ arr.toList,S x) (hb:base + n <= arr.size) (hh:hint < n)
  (srt:∀ i j x y,base <= i -> i <= j -> j < base + n -> arr[i]? = some x -> arr[j]? = some y -> lt y x = false)
  (h:∀ k,k <= n -> (∀ j x,base <= j -> j < base + k -> arr[j]? = some x -> lt key x = false) -> (∀ j x,base + k <= j -> j < base + n -> arr[j]? = some x -> lt key x = true) -> Q (some k) st):wpS (model prog w) A E s (gallopX false key arr base n hint) Q st:=by
 have at_:∀ i,i < n -> ∃ x,arr[base + i]? = some x:=fun i hi=>⟨_,getElem?_pos arr (base + i) (by omega)⟩
 refine wp_gallop hC hk hS (fun i x hi e=>hA x (by rw [<- Array.getElem?_toList] at e; exact List.mem_of_getElem? e)) hb hh (B:=fun i=>match arr[base + i]? with | some x=>!(lt key x) | none=>false) (fun i x hi e=>by rw [e]; rfl) ?_ ?_
 ·intro i j hij hj
  obtain ⟨x,hx⟩:=at_ i (by omega)
  obtain ⟨y,hy⟩:=at_ j hj
  rw [hx,hy]
  intro q
  have q:lt key y = false:=by simpa using q
  have:=hL.tr _ _ _ (srt _ _ _ _ (by omega) (by omega) (by omega) hx hy) q
  simpa using this
 ·intro k hk h1 h2
  refine h k hk (fun j x j1 j2 e=>?_) fun j x j1 j2 e=>?_
  ·have:=h1 (j - base) (by omega)
   rw [show base + (j - base) = j by omega,e] at this
   simpa using this
  ·have:=h2 (j - base) (by omega) (by omega)
   rw [show base + (j - base) = j by omega,e] at this
   simpa using this
theorem wp_gallopL {kd:SortKind} {S:Keyed -> Prop} {lt:Keyed -> Keyed -> Bool} (hC:CmpBy prog w A E s kd S lt) (hL:LtOk lt) {key:Keyed} {arr:Array Keyed} {base n hint:Nat} {st:SortSt} {Q:Option Nat -> SortSt -> Prop}
  (hk:kindOf st = kd) (hS:S key) (hA:∀ x ∈ arr.toList,S x) (hb:base + n <= arr.size) (hh:hint < n)
  (srt:∀ i j x y,base <= i -> i <= j -> j < base + n -> arr[i]? = some x -> arr[j]? = some y -> lt y x = false)
  (h:∀ k,k <= n -> (∀ j x,base <= j -> j < base + k -> arr[j]? = some x -> lt x key = true) -> (∀ j x,base + k <= j -> j < base + n -> arr[j]? = some x -> lt x key = false) -> Q (some k) st):wpS (model prog w) A E s (gallopX true key arr base n hint) Q st:=by
 have at_:∀ i,i < n -> ∃ x,arr[base + i]? = some x:=fun i hi=>⟨_,getElem?_pos arr (base + i) (by omega)⟩
 refine wp_gallop hC hk hS (fun i x hi e=>hA x (by rw [<- Array.getElem?_toList] at e; exact List.mem_of_getElem? e)) hb hh (B:=fun i=>match arr[base + i]? with | some x=>lt x key | none=>false) (fun i x hi e=>by rw [e]; rfl) ?_ ?_
 ·intro i j hij hj
  obtain ⟨x,hx⟩:=at_ i (by omega)
  obtain ⟨y,hy⟩:=at_ j hj
  rw [hx,hy]
  intro q
  have q:lt y key = true:=q
  show lt x key = true
  have o:=srt _ _ _ _ (by omega) (show base + i <= base + j by omega) (by omega) hx hy
  cases e:lt x key
  ·rw [hL.tr _ _ _ e o] at q
   exact absurd q (by decide)
  ·rfl
 ·intro k hk h1 h2
  refine h k hk (fun j x j1 j2 e=>?_) fun j x j1 j2 e=>?_
  ·have:=h1 (j - base) (by omega)
   rw [show base + (j - base) = j by omega,e] at this
   simpa using this
  ·have:=h2 (j - base) (by omega) (by omega)
   rw [show base + (j - base) = j by omega,e] at this
   simpa using this
theorem srt_arr {lt:Keyed -> Keyed -> Bool} (hL:LtOk lt) {a:Array Keyed} (ha:Srt (leB lt) a.toList):∀ (i j:Nat) (x y:Keyed),i <= j -> a[i]? = some x -> a[j]? = some y -> lt y x = false:=fun i j x y hij hx hy=>
 srt_at ha hL.rf (by rw [Array.getElem?_toList]; exact hx) (by rw [Array.getElem?_toList]; exact hy) hij
theorem push_list (out:Array Keyed) (x:Keyed):(out.push x).toList = out.toList ++ [x]:=Array.toList_push
theorem app_list (out xs:Array Keyed):(out ++ xs).toList = out.toList ++ xs.toList:=Array.toList_append
theorem use2 {α β γ:Type} {m:StateT SortSt Sem α} {Q:α -> SortSt -> Prop} {st:SortSt} (j:β -> γ -> StateT SortSt Sem α) (R:γ -> SortSt -> Prop) (hj:∀ u g st',R g st' -> wpS (model prog w) A E s (j u g) Q st')
  (h:(∀ u g st',R g st' -> wpS (model prog w) A E s (j u g) Q st') -> wpS (model prog w) A E s m Q st):wpS (model prog w) A E s m Q st:=h hj
theorem use3 {α β γ δ:Type} {m:StateT SortSt Sem α} {Q:α -> SortSt -> Prop} {st:SortSt} (j:β -> γ -> δ -> StateT SortSt Sem α) (R:γ -> δ -> SortSt -> Prop) (hj:∀ u g i st',R g i st' -> wpS (model prog w) A E s (j u g i) Q st')
  (h:(∀ u g i st',R g i st' -> wpS (model prog w) A E s (j u g i) Q st') -> wpS (model prog w) A E s m Q st):wpS (model prog w) A E s m Q st:=h hj
abbrev Told (lt:Keyed -> Keyed -> Bool) (a b:Array Keyed) {γ:Type} (c:Option (Array Keyed) × γ):Prop:=∃ m,c.1 = some m /\ Merged (leB lt) a.toList b.toList m.toList
abbrev Lo0 (lt:Keyed -> Keyed -> Bool) (a b:Array Keyed) (n:Nat) (c:Option (Array Keyed) × Array Keyed × Nat × Nat × Nat):Prop:=∃ out ia ib g,c = (none,out,ia,ib,g) /\ MInv (leB lt) a.toList b.toList out.toList ia ib /\ ia + 1 < a.size /\ ib < b.size /\ n < ia + ib
@[elab_as_elim] theorem Lo0.el {lt:Keyed -> Keyed -> Bool} {a b:Array Keyed} {n:Nat} {motive:Option (Array Keyed) × Array Keyed × Nat × Nat × Nat -> Prop} {c:Option (Array Keyed) × Array Keyed × Nat × Nat × Nat} (h:Lo0 lt a b n c) (k:∀ out ia ib g,MInv (leB lt) a.toList b.toList out.toList ia ib -> ia + 1 < a.size -> ib < b.size -> n < ia + ib -> motive (none,out,ia,ib,g)):motive c:=by
 obtain ⟨out,ia,ib,g,rfl,h1,h2,h3,h4⟩:=h
 exact k _ _ _ _ h1 h2 h3 h4
abbrev Lo1 (lt:Keyed -> Keyed -> Bool) (a b:Array Keyed) (n:Nat) (c:Option (Array Keyed) × Array Keyed × Nat × Nat × Nat × Nat):Prop:=∃ out ia ib ac bc,c = (none,out,ia,ib,ac,bc) /\ MInv (leB lt) a.toList b.toList out.toList ia ib /\ ia + 1 < a.size /\ ib < b.size /\ n <= ia + ib
@[elab_as_elim] theorem Lo1.el {lt:Keyed -> Keyed -> Bool} {a b:Array Keyed} {n:Nat} {motive:Option (Array Keyed) × Array Keyed × Nat × Nat × Nat × Nat -> Prop} {c:Option (Array Keyed) × Array Keyed × Nat × Nat × Nat × Nat} (h:Lo1 lt a b n c) (k:∀ out ia ib ac bc,MInv (leB lt) a.toList b.toList out.toList ia ib -> ia + 1 < a.size -> ib < b.size -> n <= ia + ib -> motive (none,out,ia,ib,ac,bc)):motive c:=by
 obtain ⟨out,ia,ib,ac,bc,rfl,h1,h2,h3,h4⟩:=h
 exact k _ _ _ _ _ h1 h2 h3 h4
abbrev Lo2 (lt:Keyed -> Keyed -> Bool) (a b:Array Keyed) (n:Nat) (c:Option (Array Keyed) × Array Keyed × Nat × Nat × Nat × Nat × Nat):Prop:=∃ out ia ib g ac bc,c = (none,out,ia,ib,g,ac,bc) /\ MInv (leB lt) a.toList b.toList out.toList ia ib /\ ia + 1 < a.size /\ ib < b.size /\ n <= ia + ib
@[elab_as_elim] theorem Lo2.el {lt:Keyed -> Keyed -> Bool} {a b:Array Keyed} {n:Nat} {motive:Option (Array Keyed) × Array Keyed × Nat × Nat × Nat × Nat × Nat -> Prop} {c:Option (Array Keyed) × Array Keyed × Nat × Nat × Nat × Nat × Nat} (h:Lo2 lt a b n c) (k:∀ out ia ib g ac bc,MInv (leB lt) a.toList b.toList out.toList ia ib -> ia + 1 < a.size -> ib < b.size -> n <= ia + ib -> motive (none,out,ia,ib,g,ac,bc)):motive c:=by
 obtain ⟨out,ia,ib,g,ac,bc,rfl,h1,h2,h3,h4⟩:=h
 exact k _ _ _ _ _ _ h1 h2 h3 h4
theorem wp_mergeLo {kd:SortKind} {S:Keyed -> Prop} {lt:Keyed -> Keyed -> Bool} (hC:CmpBy prog w A E s kd S lt) (hL:LtOk lt) {a b:Array Keyed} {st:SortSt} {Q:Array Keyed -> SortSt -> Prop}
  (hk:kindOf st = kd) (hSa:∀ x ∈ a.toList,S x) (hSb:∀ x ∈ b.toList,S x) (ha:Srt (leB lt) a.toList) (hb:Srt (leB lt) b.toList) (na:1 <= a.size) (nb:1 <= b.size)
  (first:∀ x,b[0]? = some x -> ∀ y ∈ a.toList,lt y x = false) (last:∀ x ∈ b.toList,∀ y,a[a.size - 1]? = some y -> lt y x = false)
  (h:∀ m st',SameSt st st' -> Merged (leB lt) a.toList b.toList m.toList -> Q m st'):wpS (model prog w) A E s (mergeLoX a b) Q st:=by
 have la:a.toList.length = a.size:=Array.length_toList
 have lb:b.toList.length = b.size:=Array.length_toList
 refine at_el (show 0 < b.size by omega) fun b0 hb0 hb0' hbm=>?_
 have rf:∀ x,leB lt x x:=hL.rf
 have m0:MInv (leB lt) a.toList b.toList [b0] 0 1:=MInv.b1 MInv.start hb hb0' fun y hy=>first b0 hb0 y (List.mem_of_mem_drop hy)
 have lastA:∀ {out:List Keyed} {ia ib:Nat},MInv (leB lt) a.toList b.toList out ia ib -> ia + 1 = a.size -> Merged (leB lt) a.toList b.toList (out ++ b.toList.drop ib ++ a.toList.drop ia):=fun {out ia ib} m hia=>by
  refine m.last ha hb fun x hx y hy=>?_
  obtain ⟨j,j1,j2⟩:=mem_drop_at hy
  have hj:=(List.getElem?_eq_some_iff.mp j2).1
  refine last x hx y ?_
  rw [show a.size - 1 = j by omega,<- Array.getElem?_toList]
  exact j2
 unfold mergeLoX
 refine wpS_bind (wpS_lift (wpAny_rule ⟨rfl,?_⟩))
 refine wpS_bind (wp_elem hb0 ?_)
 dsimp -zetaHave only
 by_cases c1:(1 == b.size) = true
 ·rw [if_pos c1]
  refine wpS_pure (h _ _ (SameSt.refl _) ?_)
  have:=m0.done ha hb (.inr (by rw [lb]; simpa using c1))
  simpa only [app_list,extr_all,List.append_assoc] using this
 rw [if_neg c1]
 by_cases c2:(0 + 1 == a.size) = true
 ·rw [if_pos c2]
  refine wpS_pure (h _ _ (SameSt.refl _) ?_)
  have:=lastA m0 (by simpa using c2)
  simpa only [app_list,extr_all,List.append_assoc] using this
 rw [if_neg c2]
 refine wpS_bind (wpS_get ?_)
 have hb1:1 < b.size:=by have:¬ 1 = b.size:=(by simpa using c1); omega
 have ha1:0 + 1 < a.size:=by have:¬ 0 + 1 = a.size:=(by simpa using c2); omega
 refine wpS_bind (wpS_mono (wpS_forRange (I:=fun x c st'=>SameSt st st' /\ Lo0 lt a b x c)
  (Q:=fun c st'=>SameSt st st' /\ Told lt a b c) ?step ?fin ⟨SameSt.refl _,_,_,_,_,rfl,m0,ha1,hb1,by omega⟩) ?post)
 case fin=>
  intro c st' hI
  obtain ⟨_,_,_,_,_,m,i1,i2,i3⟩:=hI.2
  clear hI
  omega
 case post=>
  intro c st' hI
  refine hI.2.elim fun m hm=>?_
  rw [hm.1]
  exact wpS_pure (h m st' hI.1 hm.2)
 case step=>
  intro x c st1 _ hx hI
  have hs1:=hI.1
  refine Lo0.el hI.2 fun out ia ib g m i1 i2 i3=>?_
  clear hI
  dsimp -zetaHave only
  have sa:=srt_arr hL ha
  have sb:=srt_arr hL hb
  have aT:∀ {i:Nat} {x:Keyed},a[i]? = some x -> a.toList[i]? = some x:=fun e=>by rw [Array.getElem?_toList]; exact e
  have bT:∀ {i:Nat} {x:Keyed},b[i]? = some x -> b.toList[i]? = some x:=fun e=>by rw [Array.getElem?_toList]; exact e
  refine wpS_bind (wpS_mono (wpS_forRange (I:=fun x c st'=>SameSt st st' /\ Lo1 lt a b (ia + ib + x) c)
   (Q:=fun c st'=>SameSt st st' /\ (Told lt a b c \/ Lo1 lt a b (ia + ib + 1) c))
   ?istep ?ifin ⟨hs1,out,ia,ib,0,0,rfl,m,i1,i2,Nat.le_refl _⟩) ?ipost)
  case ifin=>
   intro c st' hI
   obtain ⟨_,_,_,_,_,_,m,j1,j2,j3⟩:=hI.2
   clear hI
   omega
  case istep=>
   intro x' c st' _ hx' hI
   have hs':=hI.1
   refine Lo1.el hI.2 fun out' ia' ib' ac bc m' j1 j2 j3=>?_
   clear hI
   dsimp -zetaHave only
   refine at_el j2 fun y hy hy' hym=>?_
   refine at_el (show ia' < a.size by omega) fun z hz hz' hzm=>?_
   refine wpS_bind (wp_elem hy (wpS_bind (wp_elem hz (wpS_bind (hC y z _ _ (hSb y hym) (hSa z hzm) (hs'.k.trans hk) ?_)))))
   cases e:lt y z
   ·simp only [Bool.false_eq_true,if_false]
    refine wpS_bind (wp_elem hz ?_)
    have mz:=m'.a1 ha hz' fun v hv=>hL.tr _ _ _ e (srt_first hb rf hy' v hv)
    rw [<- push_list] at mz
    by_cases c3:(ia' + 1 + 1 == a.size) = true
    ·rw [if_pos c3]
     refine wpS_pure ⟨hs',.inl ⟨_,rfl,?_⟩⟩
     simpa only [app_list,extr_all,List.append_assoc] using lastA mz (by simpa using c3)
    ·rw [if_neg c3]
     have c3':¬ ia' + 1 + 1 = a.size:=by simpa using c3
     split
     ·exact wpS_pure ⟨hs',.inr ⟨_,_,_,_,_,rfl,mz,by omega,j2,by omega⟩⟩
     ·exact wpS_pure ⟨hs',_,_,_,_,_,rfl,mz,by omega,j2,by omega⟩
   ·simp only [if_true]
    refine wpS_bind (wp_elem hy ?_)
    have my:=m'.b1 hb hy' fun v hv=>hL.tr _ _ _ (hL.as _ _ e) (srt_first ha rf hz' v hv)
    rw [<- push_list] at my
    by_cases c3:(ib' + 1 == b.size) = true
    ·rw [if_pos c3]
     refine wpS_pure ⟨hs',.inl ⟨_,rfl,?_⟩⟩
     simpa only [app_list,extr_all,List.append_assoc] using my.done ha hb (.inr (by rw [lb]; simpa using c3))
    ·rw [if_neg c3]
     have c3':¬ ib' + 1 = b.size:=by simpa using c3
     split
     ·exact wpS_pure ⟨hs',.inr ⟨_,_,_,_,_,rfl,my,j1,by omega,by omega⟩⟩
     ·exact wpS_pure ⟨hs',_,_,_,_,_,rfl,my,j1,by omega,by omega⟩
  case ipost=>
   intro c st' hI
   have hs1:=hI.1
   refine hI.2.elim (fun hT=>hT.elim fun r hr=>?_) fun hT=>?_
   ·rw [hr.1]
    exact wpS_pure ⟨hs1,r,rfl,hr.2⟩
   refine Lo1.el hT fun out' ia' ib' ac bc m' j1 j2 j3=>?_
   clear hT hI
   dsimp -zetaHave only
   refine wpS_bind (wpS_lift (wpAny_rule ⟨rfl,?_⟩))
   refine wpS_bind (wpS_mono (wpS_forRange (I:=fun x c st2=>SameSt st st2 /\ Lo2 lt a b (ia' + ib' + x) c)
    (Q:=fun c st2=>SameSt st st2 /\ (Told lt a b c \/ Lo2 lt a b (ia' + ib') c))
    ?gstep ?gfin ⟨hs1,out',ia',ib',_,ac,bc,rfl,m',j1,j2,by omega⟩) ?gpost)
   case gfin=>
    intro c st2 hI
    obtain ⟨_,_,_,_,_,_,_,m2,k1,k2,k3⟩:=hI.2
    clear hI
    omega
   case gpost=>
    intro c st2 hI
    have hs2:=hI.1
    refine hI.2.elim (fun hT=>hT.elim fun r hr=>?_) fun hT=>?_
    ·rw [hr.1]
     exact wpS_pure ⟨hs2,r,rfl,hr.2⟩
    ·refine Lo2.el hT fun out2 ia2 ib2 g2 ac bc m2 k1 k2 k3=>?_
     clear hT hI
     dsimp only
     refine wpS_bind (wpS_modify (wpS_pure ⟨hs2.trans ⟨rfl,rfl,rfl,rfl⟩,_,_,_,_,rfl,m2,k1,k2,by omega⟩))
   case gstep=>
    intro x2 c st2 _ hx2 hI
    have hs2:=hI.1
    refine Lo2.el hI.2 fun out2 ia2 ib2 g2 ac bc m2 k1 k2 k3=>?_
    clear hI
    dsimp -zetaHave only
    lift_lets
    extract_lets v0 v1 v2 v3 v4 v5 v6 v7 v8 v9 v10 v11 jp v12
    subst v0 v1 v2 v3 v4 v5 v6 v7 v8 v9 v10 v11 v12
    refine at_el k2 fun y hy hy' hym=>?_
    refine use2 jp (fun _ st'=>SameSt st st') (fun _ g st' hs2=>?_) fun hjp=>?_
    rotate_left
    ·split
     ·exact hjp () _ _ hs2
     ·exact hjp () _ _ hs2
    subst jp
    dsimp -zetaHave only
    refine wpS_bind (wp_setG hs2 (fun _=>⟨rfl,rfl,rfl,rfl⟩) fun st3 hs3=>?_)
    refine wpS_bind (wp_elem hy ?_)
    refine wpS_bind (wp_gallopR hC hL (hs3.k.trans hk) (hSb y hym) hSa (by omega) (by omega) (fun i j x y _ hij _=>sa i j x y hij) fun k hkn r1 r2=>?_)
    dsimp -zetaHave only
    lift_lets
    extract_lets v0 jp v1 v2
    subst v0 v1 v2
    have r2:∀ (j:Nat) (x:Keyed),ia2 + k <= j -> j < a.size -> a[j]? = some x -> lt y x = true:=fun j x q1 q2 q3=>r2 j x q1 (by omega) q3
    refine use3 jp (fun o i st'=>SameSt st st' /\ MInv (leB lt) a.toList b.toList o.toList i ib2 /\ i + 1 < a.size /\ ia2 <= i /\ ∀ (j:Nat) (x:Keyed),i <= j -> j < a.size -> a[j]? = some x -> lt y x = true) (fun _ o ia st3 hR=>?_) fun hjp=>?_
    rotate_left
    ·have mk:=m2.as ha k (by rw [la]; omega) fun v hv u hu=>by
      obtain ⟨j,q1,q2,q3⟩:=mem_take_at hv
      exact hL.tr _ _ _ (r1 j v q1 q2 (by rw [<- Array.getElem?_toList]; exact q3)) (srt_first hb rf hy' u hu)
     have ek:out2.toList ++ (a.toList.drop ia2).take k = (out2 ++ a.extract ia2 (ia2 + k)).toList:=by rw [app_list,extr,Nat.add_sub_cancel_left]
     rw [ek] at mk
     by_cases c3:k > 0
     ·rw [if_pos c3]
      by_cases c4:(ia2 + k + 1 == a.size) = true
      ·rw [if_pos c4]
       refine wpS_pure ⟨hs3,.inl ⟨_,rfl,?_⟩⟩
       simpa only [app_list,extr_all,List.append_assoc] using lastA mk (by simpa using c4)
      rw [if_neg c4]
      by_cases c10:(ia2 + k == a.size) = true
      ·rw [if_pos c10]
       refine wpS_pure ⟨hs3,.inl ⟨_,rfl,?_⟩⟩
       simpa only [app_list,extr_all,List.append_assoc] using mk.done ha hb (.inl (by rw [la]; simpa using c10))
      rw [if_neg c10]
      have c4':¬ ia2 + k + 1 = a.size:=by simpa using c4
      have c10':¬ ia2 + k = a.size:=by simpa using c10
      exact hjp () _ _ _ ⟨hs3,mk,by omega,Nat.le_add_right _ _,r2⟩
     ·rw [if_neg c3]
      obtain rfl:k = 0:=by omega
      exact hjp () _ _ _ ⟨hs3,m2,k1,Nat.le_refl _,r2⟩
    subst jp
    clear hs3
    have hs3:=hR.1
    have mo:=hR.2.1
    have io:=hR.2.2.1
    have iq:=hR.2.2.2.1
    have ro:=hR.2.2.2.2
    clear hR
    clear r1 r2 m2 k1 hkn
    dsimp -zetaHave only
    lift_lets
    extract_lets v0
    subst v0
    refine wpS_bind (wp_elem hy ?_)
    have my:=mo.b1 hb hy' fun v hv=>by
     obtain ⟨j,q1,q2⟩:=mem_drop_at hv
     exact hL.as _ _ (ro j v q1 (by have:=(List.getElem?_eq_some_iff.mp q2).1; omega) (by rw [<- Array.getElem?_toList]; exact q2))
    rw [<- push_list] at my
    lift_lets
    extract_lets v0
    subst v0
    by_cases c5:(ib2 + 1 == b.size) = true
    ·rw [if_pos c5]
     refine wpS_pure ⟨hs3,.inl ⟨_,rfl,?_⟩⟩
     simpa only [app_list,extr_all,List.append_assoc] using my.done ha hb (.inr (by rw [lb]; simpa using c5))
    rw [if_neg c5]
    have c5':¬ ib2 + 1 = b.size:=by simpa using c5
    refine at_el (Nat.lt_of_succ_lt io) fun z3 hz3 hz3' hz3m=>?_
    refine wpS_bind (wp_elem hz3 ?_)
    refine wpS_bind (wp_gallopL hC hL (hs3.k.trans hk) (hSa z3 hz3m) hSb (by omega) (by omega) (fun i j x y _ hij _=>sb i j x y hij) fun k' hk' s1 s2=>?_)
    dsimp -zetaHave only
    lift_lets
    extract_lets v0 jp v1 v2
    subst v0 v1 v2
    have s2:∀ (j:Nat) (x:Keyed),ib2 + 1 + k' <= j -> j < b.size -> b[j]? = some x -> lt x z3 = false:=fun j x q1 q2 q3=>s2 j x q1 (by omega) q3
    refine use3 jp (fun o i st4=>SameSt st st4 /\ MInv (leB lt) a.toList b.toList o.toList ia i /\ i < b.size /\ ib2 < i /\ ∀ (j:Nat) (x:Keyed),i <= j -> j < b.size -> b[j]? = some x -> lt x z3 = false) (fun _ o4 ib st4 hR=>?_) fun hjp=>?_
    rotate_left
    ·have mb:=my.bs hb k' (by rw [lb]; omega) fun v hv u hu=>by
      obtain ⟨j,q1,q2,q3⟩:=mem_take_at hv
      exact hL.tr _ _ _ (hL.as _ _ (s1 j v q1 q2 (by rw [<- Array.getElem?_toList]; exact q3))) (srt_first ha rf hz3' u hu)
     have eb:(o.push y).toList ++ (b.toList.drop (ib2 + 1)).take k' = (o.push y ++ b.extract (ib2 + 1) (ib2 + 1 + k')).toList:=by rw [app_list,extr,Nat.add_sub_cancel_left]
     rw [eb] at mb
     by_cases c6:k' > 0
     ·rw [if_pos c6]
      by_cases c9:(ib2 + 1 + k' == b.size) = true
      ·rw [if_pos c9]
       refine wpS_pure ⟨hs3,.inl ⟨_,rfl,?_⟩⟩
       simpa only [app_list,extr_all,List.append_assoc] using mb.done ha hb (.inr (by rw [lb]; simpa using c9))
      rw [if_neg c9]
      have c9':¬ ib2 + 1 + k' = b.size:=by simpa using c9
      exact hjp () _ _ _ ⟨hs3,mb,by omega,by omega,s2⟩
     ·rw [if_neg c6]
      obtain rfl:k' = 0:=by omega
      exact hjp () _ _ _ ⟨hs3,my,by omega,by omega,s2⟩
    subst jp
    clear hs3
    have hs3:=hR.1
    have mo4:=hR.2.1
    have io4:=hR.2.2.1
    have iq4:=hR.2.2.2.1
    have ro4:=hR.2.2.2.2
    refine wpS_bind (wp_elem hz3 ?_)
    dsimp only
    have mz:=mo4.a1 ha hz3' fun v hv=>by
     obtain ⟨j,q1,q2⟩:=mem_drop_at hv
     exact ro4 j v q1 (by have:=(List.getElem?_eq_some_iff.mp q2).1; omega) (by rw [<- Array.getElem?_toList]; exact q2)
    rw [<- push_list] at mz
    by_cases c7:(ia + 1 + 1 == a.size) = true
    ·rw [if_pos c7]
     refine wpS_pure ⟨hs3,.inl ⟨_,rfl,?_⟩⟩
     simpa only [app_list,extr_all,List.append_assoc] using lastA mz (by simpa using c7)
    rw [if_neg c7]
    have c7':¬ ia + 1 + 1 = a.size:=by simpa using c7
    have e7:ia + 1 + 1 < a.size:=by omega
    have e8:ia' + ib' + (x2 + 1) <= ia + 1 + ib:=by omega
    split
    ·exact wpS_pure ⟨hs3,.inr ⟨_,_,_,_,_,_,rfl,mz,e7,io4,Nat.le_trans (Nat.le_add_right _ _) e8⟩⟩
    ·exact wpS_pure ⟨hs3,_,_,_,_,_,_,rfl,mz,e7,io4,e8⟩
end
theorem extr_0 {a:Array Keyed} (j:Nat):(a.extract 0 j).toList = a.toList.take j:=by
 rw [extr,List.drop_zero,Nat.sub_zero]
theorem extr_mid {a:Array Keyed} {i j:Nat}:(a.extract i j).reverse.toList = ((a.toList.take j).drop i).reverse:=by
 rw [Array.toList_reverse,extr,List.drop_take]
theorem HInv.a1m {α:Type} {le:α -> α -> Prop} {A B out:List α} {na nb:Nat} {x:α} (m:HInv le A B out na nb) (h0:0 < na) (hA:Srt le A) (hx:A[na - 1]? = some x) (h:∀ y ∈ B.take nb,le y x):HInv le A B (out ++ [x]) (na - 1) nb:=by
 obtain ⟨n,rfl⟩:∃ n,na = n + 1:=⟨na - 1,by omega⟩
 exact m.a1 hA hx h
theorem HInv.b1m {α:Type} {le:α -> α -> Prop} {A B out:List α} {na nb:Nat} {x:α} (m:HInv le A B out na nb) (h0:0 < nb) (hB:Srt le B) (hx:B[nb - 1]? = some x) (h:∀ y ∈ A.take na,le y x):HInv le A B (out ++ [x]) na (nb - 1):=by
 obtain ⟨n,rfl⟩:∃ n,nb = n + 1:=⟨nb - 1,by omega⟩
 exact m.b1 hB hx h
theorem srt_lastm {α:Type} {le:α -> α -> Prop} {A:List α} (h:Srt le A) (rf:∀ x,le x x) {i:Nat} {x:α} (h0:0 < i) (hx:A[i - 1]? = some x):∀ y ∈ A.take i,le y x:=by
 obtain ⟨n,rfl⟩:∃ n,i = n + 1:=⟨i - 1,by omega⟩
 exact srt_last h rf hx
section
variable {prog:Program} {w:World} {A:Around} {E:Value -> Shared -> Prop} {s:Shared}
abbrev Hi0 (lt:Keyed -> Keyed -> Bool) (a b:Array Keyed) (x n:Nat) (c:Option (Array Keyed) × Nat × Nat × Array Keyed × Nat):Prop:=∃ na nb out g,c = (none,na,nb,out,g) /\ HInv (leB lt) a.toList b.toList out.toList na nb /\ 0 < na /\ 1 < nb /\ na + nb + x < n
@[elab_as_elim] theorem Hi0.el {lt:Keyed -> Keyed -> Bool} {a b:Array Keyed} {x n:Nat} {motive:Option (Array Keyed) × Nat × Nat × Array Keyed × Nat -> Prop} {c:Option (Array Keyed) × Nat × Nat × Array Keyed × Nat} (h:Hi0 lt a b x n c) (k:∀ na nb out g,HInv (leB lt) a.toList b.toList out.toList na nb -> 0 < na -> 1 < nb -> na + nb + x < n -> motive (none,na,nb,out,g)):motive c:=by
 obtain ⟨na,nb,out,g,rfl,h1,h2,h3,h4⟩:=h
 exact k _ _ _ _ h1 h2 h3 h4
abbrev Hi1 (lt:Keyed -> Keyed -> Bool) (a b:Array Keyed) (x n:Nat) (c:Option (Array Keyed) × Nat × Nat × Array Keyed × Nat × Nat):Prop:=∃ na nb out ac bc,c = (none,na,nb,out,ac,bc) /\ HInv (leB lt) a.toList b.toList out.toList na nb /\ 0 < na /\ 1 < nb /\ na + nb + x <= n
@[elab_as_elim] theorem Hi1.el {lt:Keyed -> Keyed -> Bool} {a b:Array Keyed} {x n:Nat} {motive:Option (Array Keyed) × Nat × Nat × Array Keyed × Nat × Nat -> Prop} {c:Option (Array Keyed) × Nat × Nat × Array Keyed × Nat × Nat} (h:Hi1 lt a b x n c) (k:∀ na nb out ac bc,HInv (leB lt) a.toList b.toList out.toList na nb -> 0 < na -> 1 < nb -> na + nb + x <= n -> motive (none,na,nb,out,ac,bc)):motive c:=by
 obtain ⟨na,nb,out,ac,bc,rfl,h1,h2,h3,h4⟩:=h
 exact k _ _ _ _ _ h1 h2 h3 h4
abbrev Hi2 (lt:Keyed -> Keyed -> Bool) (a b:Array Keyed) (x n:Nat) (c:Option (Array Keyed) × Nat × Nat × Array Keyed × Nat × Nat × Nat):Prop:=∃ na nb out g ac bc,c = (none,na,nb,out,g,ac,bc) /\ HInv (leB lt) a.toList b.toList out.toList na nb /\ 0 < na /\ 1 < nb /\ na + nb + x <= n
@[elab_as_elim] theorem Hi2.el {lt:Keyed -> Keyed -> Bool} {a b:Array Keyed} {x n:Nat} {motive:Option (Array Keyed) × Nat × Nat × Array Keyed × Nat × Nat × Nat -> Prop} {c:Option (Array Keyed) × Nat × Nat × Array Keyed × Nat × Nat × Nat} (h:Hi2 lt a b x n c) (k:∀ na nb out g ac bc,HInv (leB lt) a.toList b.toList out.toList na nb -> 0 < na -> 1 < nb -> na + nb + x <= n -> motive (none,na,nb,out,g,ac,bc)):motive c:=by
 obtain ⟨na,nb,out,g,ac,bc,rfl,h1,h2,h3,h4⟩:=h
 exact k _ _ _ _ _ _ h1 h2 h3 h4
theorem wp_mergeHi {kd:SortKind} {S:Keyed -> Prop} {lt:Keyed -> Keyed -> Bool} (hC:CmpBy prog w A E s kd S lt) (hL:LtOk lt) {a b:Array Keyed} {st:SortSt} {Q:Array Keyed -> SortSt -> Prop}
  (hk:kindOf st = kd) (hSa:∀ x ∈ a.toList,S x) (hSb:∀ x ∈ b.toList,S x) (ha:Srt (leB lt) a.toList) (hb:Srt (leB lt) b.toList) (na:1 <= a.size) (nb:1 <= b.size)
  (first:∀ x,b[0]? = some x -> ∀ y ∈ a.toList,lt y x = false) (last:∀ x ∈ b.toList,∀ y,a[a.size - 1]? = some y -> lt y x = false)
  (h:∀ m st',SameSt st st' -> Merged (leB lt) a.toList b.toList m.toList -> Q m st'):wpS (model prog w) A E s (mergeHiX a b) Q st:=by
 have la:a.toList.length = a.size:=Array.length_toList
 have lb:b.toList.length = b.size:=Array.length_toList
 refine at_el (show a.size - 1 < a.size by omega) fun a0 ha0 ha0' ham=>?_
 have rf:∀ x,leB lt x x:=hL.rf
 have m0:HInv (leB lt) a.toList b.toList [a0] (a.size - 1) b.size:=by
  have:=HInv.start (le:=leB lt) (A:=a.toList) (B:=b.toList)
  rw [la,lb] at this
  obtain ⟨n,hn⟩:∃ n,a.size = n + 1:=⟨a.size - 1,by omega⟩
  rw [hn] at this
  rw [hn,Nat.add_sub_cancel] at ha0' ⊢
  exact this.a1 ha ha0' fun y hy=>last y (List.mem_of_mem_take hy) a0 ha0
 have firstB:∀ {out:List Keyed} {na:Nat},HInv (leB lt) a.toList b.toList out na 1 -> Merged (leB lt) a.toList b.toList (b.toList.take 1 ++ a.toList.take na ++ out.reverse):=fun {out na} m=>by
  refine m.first ha hb fun x hx y hy=>?_
  obtain ⟨j,j1,j2⟩:=mem_took_at hx
  obtain rfl:j = 0:=by omega
  exact first x (by rw [<- Array.getElem?_toList]; exact j2) y hy
 unfold mergeHiX
 refine wpS_bind (wpS_lift (wpAny_rule ⟨rfl,?_⟩))
 refine wpS_bind (wp_elem ha0 ?_)
 dsimp -zetaHave only
 by_cases c1:(a.size - 1 == 0) = true
 ·rw [if_pos c1]
  refine wpS_pure (h _ _ (SameSt.refl _) ?_)
  have:=m0.done ha hb (.inl (by simpa using c1))
  simpa only [app_list,extr_0,Array.toList_reverse] using this
 rw [if_neg c1]
 by_cases c2:(b.size == 1) = true
 ·rw [if_pos c2]
  refine wpS_pure (h _ _ (SameSt.refl _) ?_)
  have c2':b.size = 1:=by simpa using c2
  rw [c2'] at m0 ⊢
  have:=firstB m0
  simpa only [app_list,extr_0,Array.toList_reverse] using this
 rw [if_neg c2]
 refine wpS_bind (wpS_get ?_)
 have c1':¬ a.size - 1 = 0:=by simpa using c1
 have c2':¬ b.size = 1:=by simpa using c2
 refine wpS_bind (wpS_mono (wpS_forRange (I:=fun x c st'=>SameSt st st' /\ Hi0 lt a b x (a.size + b.size) c)
  (Q:=fun c st'=>SameSt st st' /\ Told lt a b c) ?step ?fin ⟨SameSt.refl _,_,_,_,_,rfl,m0,by omega,by omega,by omega⟩) ?post)
 case fin=>
  intro c st' hI
  obtain ⟨_,_,_,_,_,m,i1,i2,i3⟩:=hI.2
  clear hI
  omega
 case post=>
  intro c st' hI
  refine hI.2.elim fun m hm=>?_
  rw [hm.1]
  exact wpS_pure (h m st' hI.1 hm.2)
 case step=>
  intro x c st1 _ hx hI
  have hs1:=hI.1
  refine Hi0.el hI.2 fun na nb out g m i1 i2 i3=>?_
  clear hI
  dsimp -zetaHave only
  have sa:=srt_arr hL ha
  have sb:=srt_arr hL hb
  refine wpS_bind (wpS_mono (wpS_forRange (I:=fun x c st'=>SameSt st st' /\ Hi1 lt a b x (na + nb) c)
   (Q:=fun c st'=>SameSt st st' /\ (Told lt a b c \/ Hi1 lt a b 1 (na + nb) c))
   ?istep ?ifin ⟨hs1,na,nb,out,0,0,rfl,m,i1,i2,Nat.le_refl _⟩) ?ipost)
  case ifin=>
   intro c st' hI
   obtain ⟨_,_,_,_,_,_,m,j1,j2,j3⟩:=hI.2
   clear hI
   omega
  case istep=>
   intro x' c st' _ hx' hI
   have hs':=hI.1
   refine Hi1.el hI.2 fun na' nb' out' ac bc m' j1 j2 j3=>?_
   clear hI
   dsimp -zetaHave only
   have lA:=m'.ha
   have lB:=m'.hb
   refine at_el (show nb' - 1 < b.size by omega) fun y hy hy' hym=>?_
   refine at_el (show na' - 1 < a.size by omega) fun z hz hz' hzm=>?_
   refine wpS_bind (wp_elem hy (wpS_bind (wp_elem hz (wpS_bind (hC y z _ _ (hSb y hym) (hSa z hzm) (hs'.k.trans hk) ?_)))))
   cases e:lt y z
   ·simp only [Bool.false_eq_true,if_false]
    refine wpS_bind (wp_elem hy ?_)
    have my:=m'.b1m (by omega) hb hy' fun v hv=>hL.tr _ _ _ (srt_lastm ha rf j1 hz' v hv) e
    rw [<- push_list] at my
    by_cases c3:(nb' - 1 == 1) = true
    ·rw [if_pos c3]
     refine wpS_pure ⟨hs',.inl ⟨_,rfl,?_⟩⟩
     have c3':nb' - 1 = 1:=by simpa using c3
     rw [c3'] at my ⊢
     simpa only [app_list,extr_0,Array.toList_reverse] using firstB my
    ·rw [if_neg c3]
     have c3':¬ nb' - 1 = 1:=by simpa using c3
     split
     ·exact wpS_pure ⟨hs',.inr ⟨_,_,_,_,_,rfl,my,j1,by omega,by omega⟩⟩
     ·exact wpS_pure ⟨hs',_,_,_,_,_,rfl,my,j1,by omega,by omega⟩
   ·simp only [if_true]
    refine wpS_bind (wp_elem hz ?_)
    have mz:=m'.a1m j1 ha hz' fun v hv=>hL.tr _ _ _ (srt_lastm hb rf (by omega) hy' v hv) (hL.as _ _ e)
    rw [<- push_list] at mz
    by_cases c3:(na' - 1 == 0) = true
    ·rw [if_pos c3]
     refine wpS_pure ⟨hs',.inl ⟨_,rfl,?_⟩⟩
     simpa only [app_list,extr_0,Array.toList_reverse] using mz.done ha hb (.inl (by simpa using c3))
    ·rw [if_neg c3]
     have c3':¬ na' - 1 = 0:=by simpa using c3
     split
     ·exact wpS_pure ⟨hs',.inr ⟨_,_,_,_,_,rfl,mz,by omega,j2,by omega⟩⟩
     ·exact wpS_pure ⟨hs',_,_,_,_,_,rfl,mz,by omega,j2,by omega⟩
  case ipost=>
   intro c st' hI
   have hs1:=hI.1
   refine hI.2.elim (fun hT=>hT.elim fun r hr=>?_) fun hT=>?_
   ·rw [hr.1]
    exact wpS_pure ⟨hs1,r,rfl,hr.2⟩
   refine Hi1.el hT fun na' nb' out' ac bc m' j1 j2 j3=>?_
   clear hT hI
   dsimp -zetaHave only
   refine wpS_bind (wpS_lift (wpAny_rule ⟨rfl,?_⟩))
   refine wpS_bind (wpS_mono (wpS_forRange (I:=fun x c st2=>SameSt st st2 /\ Hi2 lt a b x (na' + nb') c)
    (Q:=fun c st2=>SameSt st st2 /\ (Told lt a b c \/ Hi2 lt a b 0 (na' + nb') c))
    ?gstep ?gfin ⟨hs1,na',nb',out',_,ac,bc,rfl,m',j1,j2,Nat.le_refl _⟩) ?gpost)
   case gfin=>
    intro c st2 hI
    obtain ⟨_,_,_,_,_,_,_,m2,k1,k2,k3⟩:=hI.2
    clear hI
    omega
   case gpost=>
    intro c st2 hI
    have hs2:=hI.1
    refine hI.2.elim (fun hT=>hT.elim fun r hr=>?_) fun hT=>?_
    ·rw [hr.1]
     exact wpS_pure ⟨hs2,r,rfl,hr.2⟩
    ·refine Hi2.el hT fun na2 nb2 out2 g2 ac bc m2 k1 k2 k3=>?_
     clear hT hI
     dsimp only
     refine wpS_bind (wpS_modify (wpS_pure ⟨hs2.trans ⟨rfl,rfl,rfl,rfl⟩,_,_,_,_,rfl,m2,k1,k2,by omega⟩))
   case gstep=>
    intro x2 c st2 _ hx2 hI
    have hs2:=hI.1
    refine Hi2.el hI.2 fun na2 nb2 out2 g2 ac bc m2 k1 k2 k3=>?_
    clear hI
    dsimp -zetaHave only
    have lA:=m2.ha
    have lB:=m2.hb
    lift_lets
    extract_lets v0 v1 v2 v3 v4 v5 v6 v7 v8 v9 v10 v11 jp v12
    subst v0 v1 v2 v3 v4 v5 v6 v7 v8 v9 v10 v11 v12
    refine at_el (show nb2 - 1 < b.size by omega) fun y hy hy' hym=>?_
    refine use2 jp (fun _ st'=>SameSt st st') (fun _ g st' hs2=>?_) fun hjp=>?_
    rotate_left
    ·split
     ·exact hjp () _ _ hs2
     ·exact hjp () _ _ hs2
    subst jp
    dsimp -zetaHave only
    refine wpS_bind (wp_setG hs2 (fun _=>⟨rfl,rfl,rfl,rfl⟩) fun st3 hs3=>?_)
    refine wpS_bind (wp_elem hy ?_)
    refine wpS_bind (wp_gallopR hC hL (hs3.k.trans hk) (hSb y hym) hSa (by omega) (by omega) (fun i j x y _ hij _=>sa i j x y hij) fun k hkn r1 r2=>?_)
    dsimp -zetaHave only
    lift_lets
    extract_lets v0 v1 jp v2 v3
    subst v0 v1 v2 v3
    have r1:∀ (j:Nat) (x:Keyed),j < k -> a[j]? = some x -> lt y x = false:=fun j x q1 q3=>r1 j x (by omega) (by omega) q3
    refine use3 jp (fun i o st'=>SameSt st st' /\ HInv (leB lt) a.toList b.toList o.toList i nb2 /\ 0 < i /\ i <= na2 /\ ∀ (j:Nat) (x:Keyed),j < i -> a[j]? = some x -> lt y x = false) (fun _ na o st3 hR=>?_) fun hjp=>?_
    rotate_left
    ·have mk:=m2.as ha k (by omega) fun v hv u hu=>by
      obtain ⟨j,q1,q2,q3⟩:=mem_mid_at hv
      exact hL.tr _ _ _ (srt_lastm hb rf (by omega) hy' u hu) (hL.as _ _ (r2 j v (by omega) (by omega) (by rw [<- Array.getElem?_toList]; exact q3)))
     rw [<- extr_mid,<- app_list] at mk
     by_cases c3:na2 - k > 0
     ·rw [if_pos c3]
      by_cases c4:(k == 0) = true
      ·rw [if_pos c4]
       refine wpS_pure ⟨hs3,.inl ⟨_,rfl,?_⟩⟩
       simpa only [app_list,extr_0,Array.toList_reverse] using mk.done ha hb (.inl (by simpa using c4))
      rw [if_neg c4]
      have c4':¬ k = 0:=by simpa using c4
      exact hjp () _ _ _ ⟨hs3,mk,Nat.pos_of_ne_zero c4',by omega,r1⟩
     ·rw [if_neg c3]
      obtain rfl:k = na2:=by omega
      exact hjp () _ _ _ ⟨hs3,m2,k1,Nat.le_refl _,r1⟩
    subst jp
    clear hs3 r1 r2 m2 k1 hkn
    have hs3:=hR.1
    have mo:=hR.2.1
    have io:=hR.2.2.1
    have iq:=hR.2.2.2.1
    have ro:=hR.2.2.2.2
    clear hR
    dsimp -zetaHave only
    lift_lets
    extract_lets v0
    subst v0
    dsimp -zetaHave only
    refine wpS_bind (wp_elem hy ?_)
    have my:=mo.b1m (Nat.lt_of_succ_lt k2) hb hy' fun v hv=>by
     obtain ⟨j,q1,q2⟩:=mem_took_at hv
     exact ro j v (by omega) (by rw [<- Array.getElem?_toList]; exact q2)
    rw [<- push_list] at my
    lift_lets
    extract_lets v0
    subst v0
    by_cases c5:(nb2 - 1 == 1) = true
    ·rw [if_pos c5]
     refine wpS_pure ⟨hs3,.inl ⟨_,rfl,?_⟩⟩
     have c5':nb2 - 1 = 1:=by simpa using c5
     rw [c5'] at my ⊢
     simpa only [app_list,extr_0,Array.toList_reverse] using firstB my
    rw [if_neg c5]
    have c5':¬ nb2 - 1 = 1:=by simpa using c5
    refine at_el (show na - 1 < a.size by omega) fun z3 hz3 hz3' hz3m=>?_
    refine wpS_bind (wp_elem hz3 ?_)
    refine wpS_bind (wp_gallopL hC hL (hs3.k.trans hk) (hSa z3 hz3m) hSb (by omega) (by omega) (fun i j x y _ hij _=>sb i j x y hij) fun k' hk' s1 s2=>?_)
    dsimp -zetaHave only
    lift_lets
    extract_lets v0 v1 jp v2 v3
    subst v0 v1 v2 v3
    have s1:∀ (j:Nat) (x:Keyed),j < k' -> b[j]? = some x -> lt x z3 = true:=fun j x q1 q3=>s1 j x (by omega) (by omega) q3
    refine use3 jp (fun i o st4=>SameSt st st4 /\ HInv (leB lt) a.toList b.toList o.toList na i /\ 1 < i /\ i < nb2 /\ ∀ (j:Nat) (x:Keyed),j < i -> b[j]? = some x -> lt x z3 = true) (fun _ nb o4 st4 hR=>?_) fun hjp=>?_
    rotate_left
    ·have mb:=my.bs hb k' (by omega) fun v hv u hu=>by
      obtain ⟨j,q1,q2,q3⟩:=mem_mid_at hv
      exact hL.tr _ _ _ (srt_lastm ha rf io hz3' u hu) (s2 j v (by omega) (by omega) (by rw [<- Array.getElem?_toList]; exact q3))
     rw [<- extr_mid,<- app_list] at mb
     by_cases c6:nb2 - 1 - k' > 0
     ·rw [if_pos c6]
      by_cases c9:(k' == 1) = true
      ·rw [if_pos c9]
       refine wpS_pure ⟨hs3,.inl ⟨_,rfl,?_⟩⟩
       obtain rfl:k' = 1:=by simpa using c9
       simpa only [app_list,extr_0,Array.toList_reverse] using firstB mb
      rw [if_neg c9]
      by_cases c11:(k' == 0) = true
      ·rw [if_pos c11]
       refine wpS_pure ⟨hs3,.inl ⟨_,rfl,?_⟩⟩
       simpa only [app_list,extr_0,Array.toList_reverse] using mb.done ha hb (.inr (by simpa using c11))
      rw [if_neg c11]
      have c9':¬ k' = 1:=by simpa using c9
      have c11':¬ k' = 0:=by simpa using c11
      exact hjp () _ _ _ ⟨hs3,mb,by omega,by omega,s1⟩
     ·rw [if_neg c6]
      obtain rfl:k' = nb2 - 1:=by omega
      exact hjp () _ _ _ ⟨hs3,my,by omega,by omega,s1⟩
    subst jp
    clear hs3 s1 s2 hk' c5 c5' my
    have hs3:=hR.1
    have mo4:=hR.2.1
    have io4:=hR.2.2.1
    have iq4:=hR.2.2.2.1
    have ro4:=hR.2.2.2.2
    refine wpS_bind (wp_elem hz3 ?_)
    dsimp only
    have mz:=mo4.a1m io ha hz3' fun v hv=>by
     obtain ⟨j,q1,q2⟩:=mem_took_at hv
     exact hL.as _ _ (ro4 j v q1 (by rw [<- Array.getElem?_toList]; exact q2))
    rw [<- push_list] at mz
    by_cases c7:(na - 1 == 0) = true
    ·rw [if_pos c7]
     refine wpS_pure ⟨hs3,.inl ⟨_,rfl,?_⟩⟩
     simpa only [app_list,extr_0,Array.toList_reverse] using mz.done ha hb (.inl (by simpa using c7))
    rw [if_neg c7]
    have c7':¬ na - 1 = 0:=by simpa using c7
    have e8:na - 1 + nb + (x2 + 1) <= na' + nb':=by omega
    split
    ·exact wpS_pure ⟨hs3,.inr ⟨_,_,_,_,_,_,rfl,mz,Nat.pos_of_ne_zero c7',io4,Nat.le_trans (Nat.le_add_right _ _) e8⟩⟩
    ·exact wpS_pure ⟨hs3,_,_,_,_,_,_,rfl,mz,Nat.pos_of_ne_zero c7',io4,e8⟩
end
def countRunX:Nat -> Nat -> StateT SortSt Sem (Option Nat):=sortPriv% PySem.Builtin.countRun
def binarySortX:Nat -> Nat -> Nat -> StateT SortSt Sem Bool:=sortPriv% PySem.Builtin.binarySort
def Apart (lt:Keyed -> Keyed -> Bool) (l:List Keyed):Prop:=l.Pairwise fun x y=>lt x y = true \/ lt y x = true
structure LocSt (kd:SortKind) (S:Keyed -> Prop) (lt:Keyed -> Keyed -> Bool) (lo:Nat) (a₀:Array Keyed) (st₀ st:SortSt):Prop where
 k:kindOf st = kd
 f:failedOf st = failedOf st₀
 p:pendingOf st = pendingOf st₀
 perm:(arrOf st).toList.Perm a₀.toList
 pre:∀ i:Nat,i < lo -> (arrOf st)[i]? = a₀[i]?
 s:∀ x ∈ a₀.toList,S x
 d:Apart lt a₀.toList
theorem LocSt.size {kd:SortKind} {S:Keyed -> Prop} {lt:Keyed -> Keyed -> Bool} {lo:Nat} {a₀:Array Keyed} {st₀ st:SortSt} (h:LocSt kd S lt lo a₀ st₀ st):(arrOf st).size = a₀.size:=by
 have:=h.perm.length_eq
 simpa using this
theorem LocSt.at_ {kd:SortKind} {S:Keyed -> Prop} {lt:Keyed -> Keyed -> Bool} {lo:Nat} {a₀:Array Keyed} {st₀ st:SortSt} (h:LocSt kd S lt lo a₀ st₀ st) {i:Nat} (hi:i < a₀.size):∃ x,(arrOf st)[i]? = some x /\ S x:=by
 obtain ⟨x,h1,_,h3⟩:=at_arr (show i < (arrOf st).size by rw [h.size]; exact hi)
 exact ⟨x,h1,h.s x (h.perm.mem_iff.mp h3)⟩
theorem LocSt.apart {kd:SortKind} {S:Keyed -> Prop} {lt:Keyed -> Keyed -> Bool} {lo:Nat} {a₀:Array Keyed} {st₀ st:SortSt} (h:LocSt kd S lt lo a₀ st₀ st) {i j:Nat} {x y:Keyed} (hij:i ≠ j) (hx:(arrOf st)[i]? = some x) (hy:(arrOf st)[j]? = some y):lt x y = true \/ lt y x = true:=by
 have hd:Apart lt (arrOf st).toList:=(h.perm.pairwise_iff (fun {a b} (q:lt a b = true \/ lt b a = true)=>q.symm)).mpr h.d
 rw [<- Array.getElem?_toList] at hx hy
 obtain ⟨hi,rfl⟩:=List.getElem?_eq_some_iff.mp hx
 obtain ⟨hj,rfl⟩:=List.getElem?_eq_some_iff.mp hy
 rcases Nat.lt_or_gt_of_ne hij with q | q
 ·exact List.pairwise_iff_getElem.mp hd i j hi hj q
 ·exact (List.pairwise_iff_getElem.mp hd j i hj hi q).symm
theorem LocSt.set {kd:SortKind} {S:Keyed -> Prop} {lt:Keyed -> Keyed -> Bool} {lo:Nat} {a₀:Array Keyed} {st₀ st:SortSt} (h:LocSt kd S lt lo a₀ st₀ st) {xs:Array Keyed} (hp:xs.Perm (arrOf st)) (hl:∀ i:Nat,i < lo -> xs[i]? = (arrOf st)[i]?):LocSt kd S lt lo a₀ st₀ (setArr st xs):=
 ⟨h.k,h.f,h.p,(Array.perm_iff_toList_perm.mp hp).trans h.perm,fun i hi=>(hl i hi).trans (h.pre i hi),h.s,h.d⟩
def UpIn (lt:Keyed -> Keyed -> Bool) (xs:Array Keyed) (lo n:Nat):Prop:=∀ (i j:Nat) (x y:Keyed),lo <= i -> i <= j -> j < lo + n -> xs[i]? = some x -> xs[j]? = some y -> lt y x = false
def DownIn (lt:Keyed -> Keyed -> Bool) (xs:Array Keyed) (lo n:Nat):Prop:=∀ (i j:Nat) (x y:Keyed),lo <= i -> i < j -> j < lo + n -> xs[i]? = some x -> xs[j]? = some y -> lt y x = true
theorem up_snoc {lt:Keyed -> Keyed -> Bool} (hL:LtOk lt) {xs:Array Keyed} {lo n:Nat} (h:UpIn lt xs lo n) (h1:1 <= n) {u v:Keyed} (hu:xs[lo + n - 1]? = some u) (hv:xs[lo + n]? = some v) (e:lt v u = false):UpIn lt xs lo (n + 1):=fun i j x y hi hij hj hx hy=>by
 by_cases hjn:j < lo + n
 ·exact h i j x y hi hij hjn hx hy
 ·obtain rfl:j = lo + n:=by omega
  rw [hv] at hy
  cases hy
  by_cases hin:i = lo + n
  ·rw [hin,hv] at hx
   cases hx
   exact hL.rf _
  ·exact hL.tr _ _ _ (h i (lo + n - 1) x u hi (by omega) (by omega) hx hu) e
theorem down_snoc {lt:Keyed -> Keyed -> Bool} (hL:LtOk lt) {xs:Array Keyed} {lo n:Nat} (h:DownIn lt xs lo n) (h1:1 <= n) {u v:Keyed} (hu:xs[lo + n - 1]? = some u) (hv:xs[lo + n]? = some v) (e:lt v u = true):DownIn lt xs lo (n + 1):=fun i j x y hi hij hj hx hy=>by
 by_cases hjn:j < lo + n
 ·exact h i j x y hi hij hjn hx hy
 ·obtain rfl:j = lo + n:=by omega
  rw [hv] at hy
  cases hy
  by_cases hin:i = lo + n - 1
  ·rw [hin,hu] at hx
   cases hx
   exact e
  ·have q:=h i (lo + n - 1) x u hi (by omega) (by omega) hx hu
   cases r:lt v x
   ·have:=hL.tr x v u r (hL.as _ _ e)
    rw [q] at this
    cases this
   ·rfl
theorem up_one {lt:Keyed -> Keyed -> Bool} (hL:LtOk lt) {xs:Array Keyed} {lo:Nat}:UpIn lt xs lo 1:=fun i j x y hi hij hj hx hy=>by
 obtain rfl:i = j:=by omega
 rw [hx] at hy
 cases hy
 exact hL.rf _
section
variable {prog:Program} {w:World} {A:Around} {E:Value -> Shared -> Prop} {s:Shared}
theorem wp_ltAt {kd:SortKind} {S:Keyed -> Prop} {lt:Keyed -> Keyed -> Bool} (hC:CmpBy prog w A E s kd S lt) {lo:Nat} {a₀:Array Keyed} {st₀ st:SortSt} (h:LocSt kd S lt lo a₀ st₀ st) {i j:Nat} {Q:Option Bool -> SortSt -> Prop} (hi:i < a₀.size) (hj:j < a₀.size)
  (q:∀ x y,(arrOf st)[i]? = some x -> (arrOf st)[j]? = some y -> Q (some (lt x y)) st):wpS (model prog w) A E s (ltAt' i j) Q st:=by
 obtain ⟨x,hx,sx⟩:=h.at_ hi
 obtain ⟨y,hy,sy⟩:=h.at_ hj
 rw [ltAt'_eq]
 refine wpS_bind (wpS_get ?_)
 exact wpS_bind (wp_elem hx (wpS_bind (wp_elem hy (hC x y _ _ sx sy h.k (q x y hx hy)))))
theorem wp_countRun {kd:SortKind} {S:Keyed -> Prop} {lt:Keyed -> Keyed -> Bool} (hC:CmpBy prog w A E s kd S lt) (hL:LtOk lt) {lo nrem:Nat} {a₀:Array Keyed} {st₀ st:SortSt} {Q:Option Nat -> SortSt -> Prop} (h:LocSt kd S lt lo a₀ st₀ st) (h1:1 <= nrem) (hn:lo + nrem <= a₀.size)
  (q:∀ n st',LocSt kd S lt lo a₀ st₀ st' -> 1 <= n -> n <= nrem -> UpIn lt (arrOf st') lo n -> Q (some n) st'):wpS (model prog w) A E s (countRunX lo nrem) Q st:=by
 unfold countRunX
 refine wpS_bind (wpS_mono (wpS_forRange (I:=fun x c st'=>st' = st /\ c = (none,x) /\ UpIn lt (arrOf st) lo x)
  (Q:=fun c st'=>st' = st /\ ∃ n,c = (none,n) /\ 1 <= n /\ n <= nrem /\ UpIn lt (arrOf st) lo n /\ (n = nrem \/ ∀ x y,(arrOf st)[lo + n]? = some x -> (arrOf st)[lo + n - 1]? = some y -> lt x y = true)) ?step ?fin ⟨rfl,rfl,up_one hL⟩) ?post)
 case fin=>
  rintro c st' ⟨rfl,rfl,hu⟩
  rw [show max 1 nrem = nrem by omega] at hu ⊢
  exact ⟨rfl,nrem,rfl,h1,Nat.le_refl _,hu,.inl rfl⟩
 case step=>
  rintro x c st' hx1 hx ⟨rfl,rfl,hu⟩
  dsimp only
  refine wpS_bind (wp_ltAt hC h (by omega) (by omega) fun u v hu' hv'=>?_)
  cases e:lt u v
  ·simp only [Bool.false_eq_true,if_false]
   exact wpS_pure ⟨rfl,rfl,up_snoc hL hu hx1 hv' hu' e⟩
  ·simp only [if_true]
   refine wpS_pure ⟨rfl,x,rfl,hx1,by omega,hu,.inr fun a b ha hb=>?_⟩
   rw [hu'] at ha
   rw [hv'] at hb
   cases ha
   cases hb
   exact e
 case post=>
  rintro c st' ⟨rfl,n,rfl,n1,n2,hu,hor⟩
  dsimp only
  by_cases c1:(n == nrem) = true
  ·rw [if_pos c1]
   exact wpS_pure (q n st' h n1 n2 hu)
  rw [if_neg c1]
  have c1':¬ n = nrem:=by simpa using c1
  have hlt:=hor.resolve_left c1'
  by_cases c2:n > 1
  ·rw [if_pos c2]
   refine wpS_bind (wp_ltAt hC h (by omega) (by omega) fun u v hu' hv'=>?_)
   have:lt u v = true:=by
    rcases h.apart (show lo ≠ lo + n - 1 by omega) hu' hv' with r | r
    ·exact r
    ·rw [hu lo (lo + n - 1) u v (Nat.le_refl _) (by omega) (by omega) hu' hv'] at r
     cases r
   rw [this]
   simp only [if_true]
   exact wpS_pure (q n st' h n1 n2 hu)
  ·rw [if_neg c2]
   obtain rfl:n = 1:=by omega
   refine wpS_bind (wpS_lift (wpAny_rule ⟨rfl,?_⟩))
   have d2:DownIn lt (arrOf st') lo (1 + 1):=fun i j x y hi hij hj hx hy=>by
    obtain rfl:i = lo:=by omega
    obtain rfl:j = i + 1:=by omega
    exact hlt y x hy (by rw [Nat.add_sub_cancel]; exact hx)
   refine wpS_bind (wpS_mono (wpS_forRange (I:=fun x c st''=>st'' = st' /\ c = (none,x,0) /\ DownIn lt (arrOf st') lo x)
    (Q:=fun c st''=>st'' = st' /\ ∃ n,c = (none,n,0) /\ 2 <= n /\ n <= nrem /\ DownIn lt (arrOf st') lo n) ?dstep ?dfin ⟨rfl,rfl,d2⟩) ?dpost)
   case dfin=>
    rintro c st'' ⟨rfl,rfl,hd⟩
    rw [show max (1 + 1) nrem = nrem by omega] at hd ⊢
    exact ⟨rfl,nrem,rfl,by omega,Nat.le_refl _,hd⟩
   case dstep=>
    rintro x c st'' hx1 hx ⟨rfl,rfl,hd⟩
    dsimp only
    refine wpS_bind (wp_ltAt hC h (by omega) (by omega) fun u v hu' hv'=>?_)
    cases e:lt u v
    ·simp only [Bool.false_eq_true,if_false]
     refine wpS_bind (wp_ltAt hC h (by omega) (by omega) fun u2 v2 hu2 hv2=>?_)
     have:lt u2 v2 = true:=by
      rw [hv'] at hu2
      rw [hu'] at hv2
      cases hu2
      cases hv2
      rcases h.apart (show lo + x ≠ lo + x - 1 by omega) hu' hv' with r | r
      ·rw [e] at r
       cases r
      ·exact r
     rw [this]
     simp only [if_true]
     exact wpS_pure ⟨rfl,x,rfl,by omega,by omega,hd⟩
    ·simp only [if_true]
     rw [if_neg (Nat.lt_irrefl 0)]
     exact wpS_pure ⟨rfl,rfl,down_snoc hL hd (by omega) hv' hu' e⟩
   case dpost=>
    rintro c st'' ⟨rfl,n,rfl,m1,m2,hd⟩
    dsimp only
    rw [if_neg (Nat.lt_irrefl 0)]
    refine wpS_bind (wpS_reverse ?_)
    have hsz:lo + n <= (arrOf st'').size:=by rw [h.size]; omega
    have h':LocSt kd S lt lo a₀ st₀ (setArr st'' (mirror (arrOf st'') lo (lo + n) ((lo + n - lo) / 2))):=h.set (mirror_perm _ _ _ _) fun i hi=>by rw [getElem?_mirror_all hsz,if_neg (by omega)]
    have hup:UpIn lt (mirror (arrOf st'') lo (lo + n) ((lo + n - lo) / 2)) lo n:=fun i j x y hi hij hj hx hy=>by
     rw [getElem?_mirror_all hsz,if_pos (by omega)] at hx hy
     by_cases e:i = j
     ·rw [e,hy] at hx
      cases hx
      exact hL.rf _
     ·exact hL.as _ _ (hd _ _ y x (by omega) (by omega) (by omega) hy hx)
    have hup:UpIn lt (arrOf (setArr st'' (mirror (arrOf st'') lo (lo + n) ((lo + n - lo) / 2)))) lo n:=hup
    generalize setArr st'' (mirror (arrOf st'') lo (lo + n) ((lo + n - lo) / 2)) = st3 at h' hup
    refine wpS_bind (wpS_mono (wpS_forRange (I:=fun x c st4=>st4 = st3 /\ c = (none,x) /\ UpIn lt (arrOf st3) lo x)
     (Q:=fun c st4=>st4 = st3 /\ ∃ n,c = (none,n) /\ 1 <= n /\ n <= nrem /\ UpIn lt (arrOf st3) lo n) ?estep ?efin ⟨rfl,rfl,hup⟩) ?epost)
    case efin=>
     rintro c st4 ⟨rfl,rfl,hu⟩
     rw [show max n nrem = nrem by omega] at hu ⊢
     exact ⟨rfl,nrem,rfl,h1,Nat.le_refl _,hu⟩
    case estep=>
     rintro x c st4 hx1 hx ⟨rfl,rfl,hu⟩
     dsimp only
     refine wpS_bind (wp_ltAt hC h' (by omega) (by omega) fun u v hu' hv'=>?_)
     cases e:lt u v
     ·simp only [Bool.false_eq_true,if_false]
      exact wpS_pure ⟨rfl,rfl,up_snoc hL hu (by omega) hv' hu' e⟩
     ·simp only [if_true]
      exact wpS_pure ⟨rfl,x,rfl,by omega,by omega,hu⟩
    case epost=>
     rintro c st4 ⟨rfl,n,rfl,k1,k2,hu⟩
     exact wpS_pure (q n st4 h' k1 k2 hu)
theorem wp_binarySort {kd:SortKind} {S:Keyed -> Prop} {lt:Keyed -> Keyed -> Bool} (hC:CmpBy prog w A E s kd S lt) (hL:LtOk lt) {lo n ok:Nat} {a₀:Array Keyed} {st₀ st:SortSt} {Q:Bool -> SortSt -> Prop} (h:LocSt kd S lt lo a₀ st₀ st) (hn:lo + n <= a₀.size) (hok:ok <= n) (h1:1 <= ok) (hs:UpIn lt (arrOf st) lo ok)
  (q:∀ st',LocSt kd S lt lo a₀ st₀ st' -> UpIn lt (arrOf st') lo n -> Q true st'):wpS (model prog w) A E s (binarySortX lo n ok) Q st:=by
 unfold binarySortX
 refine wpS_bind (wpS_mono (wpS_forRange (I:=fun k c st'=>c = (none,()) /\ LocSt kd S lt lo a₀ st₀ st' /\ UpIn lt (arrOf st') lo k)
  (Q:=fun c st'=>c = (none,()) /\ LocSt kd S lt lo a₀ st₀ st' /\ UpIn lt (arrOf st') lo n) ?step ?fin ?init) ?post)
 case post=>
  rintro c st' ⟨rfl,hB',hs'⟩
  exact wpS_pure (q st' hB' hs')
 case init=>exact ⟨rfl,h,by rw [show max ok 1 = ok by omega]; exact hs⟩
 case fin=>
  rintro c st' ⟨hc,hB',hs'⟩
  rw [show max (max ok 1) n = n by omega] at hs'
  exact ⟨hc,hB',hs'⟩
 case step=>
  rintro k c st' hak hkn ⟨rfl,hB',hs'⟩
  dsimp only
  obtain ⟨u,hu,_⟩:=hB'.at_ (show lo + k < a₀.size by omega)
  refine wpS_bind (wpS_mono (wpS_forRange (I:=fun x c st''=>st'' = st' /\ ∃ l r,c = (none,l,r) /\ l <= r /\ r <= k /\ r - l <= k - x /\
    (∀ (i:Nat) x,i < l -> (arrOf st')[lo + i]? = some x -> lt u x = false) /\ (∀ (i:Nat) x,r <= i -> i < k -> (arrOf st')[lo + i]? = some x -> lt u x = true))
   (Q:=fun c st''=>st'' = st' /\ ∃ l r,c = (none,l,r) /\ l <= k /\
    (∀ (i:Nat) x,i < l -> (arrOf st')[lo + i]? = some x -> lt u x = false) /\ (∀ (i:Nat) x,l <= i -> i < k -> (arrOf st')[lo + i]? = some x -> lt u x = true)) ?istep ?ifin ?iinit) ?ipost)
  case iinit=>exact ⟨rfl,0,k,rfl,by omega,by omega,by omega,fun i _ hi=>by omega,fun i _ h1 h2=>by omega⟩
  case ifin=>
   rintro c st'' ⟨rfl,l,r,rfl,hlr,hrk,hm,hlo,hhi⟩
   obtain rfl:l = r:=by omega
   exact ⟨rfl,l,l,rfl,hrk,hlo,hhi⟩
  case istep=>
   rintro x c st'' _ hxk ⟨rfl,l,r,rfl,hlr,hrk,hm,hlo,hhi⟩
   dsimp only
   by_cases hge:l >= r
   ·rw [if_pos hge]
    obtain rfl:l = r:=by omega
    exact wpS_pure ⟨rfl,l,l,rfl,hrk,hlo,hhi⟩
   ·rw [if_neg hge]
    refine wpS_bind (wp_ltAt hC hB' (by omega) (by omega) fun u' v hu' hv=>?_)
    rw [hu] at hu'
    cases hu'
    cases e:lt u v
    ·simp only [Bool.false_eq_true,if_false]
     refine wpS_pure ⟨rfl,(l + r) / 2 + 1,r,rfl,by omega,by omega,by omega,fun i z h1 hz=>?_,hhi⟩
     exact hL.tr _ _ _ (hs' (lo + i) (lo + (l + r) / 2) z v (by omega) (by omega) (by omega) hz hv) e
    ·simp only [if_true]
     refine wpS_pure ⟨rfl,l,(l + r) / 2,rfl,by omega,by omega,by omega,hlo,fun i z h1 h2 hz=>?_⟩
     have o:=hs' (lo + (l + r) / 2) (lo + i) v z (by omega) (by omega) (by omega) hv hz
     cases r':lt u z
     ·have:=hL.tr v z u o r'
      rw [e] at this
      cases this
     ·rfl
  case ipost=>
   rintro c st'' ⟨rfl,l,r,rfl,hlk,hlo,hhi⟩
   have hks:lo + k < (arrOf st'').size:=by rw [hB'.size]; omega
   have hat:∀ i:Nat,(bubble (arrOf st'') (lo + k) (lo + k - (lo + l)))[i]? = if i = lo + l then (arrOf st'')[lo + k]? else if lo + l < i /\ i <= lo + k then (arrOf st'')[i - 1]? else (arrOf st'')[i]?:=fun i=>by
    have:=getElem?_bubble hks (lo + k - (lo + l)) (by omega) i
    rwa [show lo + k - (lo + k - (lo + l)) = lo + l by omega] at this
   have mv:∀ (Q:PUnit -> SortSt -> Prop),Q ⟨⟩ (setArr st'' (bubble (arrOf st'') (lo + k) (lo + k - (lo + l)))) -> wpS (model prog w) A E s (moveDown' (lo + k) (lo + l)) Q st'':=fun Q hq=>by
    rw [moveDown'_eq]
    exact wpS_modify hq
   refine wpS_bind (mv _ (wpS_pure ⟨rfl,hB'.set (bubble_perm _ _ _) fun i hi=>?_,?_⟩))
   ·rw [hat,if_neg (by omega),if_neg (by omega)]
   ·intro i j x y hi hij hj hx hy
    have hx:(bubble (arrOf st'') (lo + k) (lo + k - (lo + l)))[i]? = some x:=hx
    have hy:(bubble (arrOf st'') (lo + k) (lo + k - (lo + l)))[j]? = some y:=hy
    rw [hat] at hx hy
    have sub:∀ {i:Nat},lo <= i -> lo + (i - lo) = i:=by omega
    by_cases ci:i = lo + l
    ·rw [if_pos ci,hu] at hx
     cases hx
     by_cases cj:j = lo + l
     ·rw [if_pos cj,hu] at hy
      cases hy
      exact hL.rf _
     ·rw [if_neg cj,if_pos (by omega)] at hy
      exact hL.as _ _ (hhi (j - 1 - lo) y (by omega) (by omega) (by rw [show lo + (j - 1 - lo) = j - 1 by omega]; exact hy))
    ·rw [if_neg ci] at hx
     by_cases cj:j = lo + l
     ·rw [if_pos cj,hu] at hy
      cases hy
      rw [if_neg (by omega)] at hx
      exact hlo (i - lo) x (by omega) (by rw [show lo + (i - lo) = i by omega]; exact hx)
     ·rw [if_neg cj] at hy
      by_cases di:lo + l < i /\ i <= lo + k
      ·rw [if_pos di] at hx
       rw [if_pos (by omega)] at hy
       exact hs' (i - 1) (j - 1) x y (by omega) (by omega) (by omega) hx hy
      ·rw [if_neg di] at hx
       by_cases dj:lo + l < j /\ j <= lo + k
       ·rw [if_pos dj] at hy
        exact hs' i (j - 1) x y (by omega) (by omega) (by omega) hx hy
       ·rw [if_neg dj] at hy
        exact hs' i j x y (by omega) (by omega) (by omega) hx hy
end
def mergeAtX:Nat -> StateT SortSt Sem Bool:=sortPriv% PySem.Builtin.mergeAt
noncomputable abbrev Runs:=List (List Keyed × Nat)
noncomputable def pendG:Nat -> Runs -> List (Nat × Nat × Nat)
 | _,[]=>[]
 | s,r :: rs=>(s,r.1.length,r.2) :: pendG (s + r.1.length) rs
noncomputable def allG (rs:Runs):List Keyed:=(rs.map (·.1)).flatten
theorem pend_app:∀ (us vs:Runs) (s:Nat),pendG s (us ++ vs) = pendG s us ++ pendG (s + (allG us).length) vs
 | [],vs,s=>rfl
 | u :: us,vs,s=>by
  show _ :: pendG _ (us ++ vs) = _ :: pendG _ us ++ _
  rw [pend_app us vs,List.cons_append]
  congr 3
  simp [allG,Nat.add_assoc]
theorem pend_len:∀ (us:Runs) (s:Nat),(pendG s us).length = us.length
 | [],s=>rfl
 | u :: us,s=>by
  show (_ :: pendG _ us).length = _
  rw [List.length_cons,pend_len us,List.length_cons]
theorem all_app (us vs:Runs):allG (us ++ vs) = allG us ++ allG vs:=by simp [allG]
theorem all_cons (u:List Keyed × Nat) (vs:Runs):allG (u :: vs) = u.1 ++ allG vs:=by simp [allG]
theorem written {c:Nat}:∀ (M:List Keyed) (off:Nat) (arr:Array Keyed),c + off + M.length <= arr.size ->
  ((M.zipIdx off).foldl (fun (a:Array Keyed) (x:Keyed × Nat)=>a.setIfInBounds (c + x.2) x.1) arr).toList = arr.toList.take (c + off) ++ M ++ arr.toList.drop (c + off + M.length)
 | [],off,arr,_=>by simp
 | x :: M,off,arr,h=>by
  rw [List.length_cons] at h
  rw [List.zipIdx_cons,List.foldl_cons,written M (off + 1) _ (by simp; omega)]
  have hl:c + off < arr.toList.length:=by simp; omega
  rw [Array.toList_setIfInBounds]
  generalize arr.toList = l at hl
  have e1:(l.set (c + off) x).take (c + (off + 1)) = l.take (c + off) ++ [x]:=by
   rw [show c + (off + 1) = c + off + 1 by omega,List.take_succ_eq_append_getElem (by rw [List.length_set]; exact hl),List.getElem_set_self,List.take_set_of_le (Nat.le_refl _)]
  have e2:(l.set (c + off) x).drop (c + (off + 1) + M.length) = l.drop (c + off + (x :: M).length):=by
   rw [List.drop_set_of_lt (by omega),List.length_cons]
   congr 1
   omega
  rw [e1,e2]
  simp
structure RunSt (kd:SortKind) (S:Keyed -> Prop) (lt:Keyed -> Keyed -> Bool) (a₀:List Keyed) (st:SortSt) (rs:Runs) (rest:List Keyed):Prop where
 k:kindOf st = kd
 f:failedOf st = none
 p:(pendingOf st).toList = pendG 0 rs
 a:(arrOf st).toList = allG rs ++ rest
 perm:(allG rs ++ rest).Perm a₀
 srt:∀ r ∈ rs,Srt (leB lt) r.1 /\ r.1 ≠ []
section
variable {prog:Program} {w:World} {A:Around} {E:Value -> Shared -> Prop} {s:Shared}
theorem wp_set {st st':SortSt} {Q:PUnit -> SortSt -> Prop} (h:Q ⟨⟩ st'):wpS (model prog w) A E s (set st':StateT SortSt Sem PUnit) Q st:=by
 unfold wpS
 rw [StateT.run_set]
 exact wpAny_pure ⟨rfl,h⟩
theorem wp_setP {P:SortSt -> Prop} {st st':SortSt} {Q:PUnit -> SortSt -> Prop} (hP:P st') (h:∀ st1,P st1 -> Q ⟨⟩ st1):wpS (model prog w) A E s (set st':StateT SortSt Sem PUnit) Q st:=wp_set (h _ hP)
theorem wp_modP {P:SortSt -> Prop} {f:SortSt -> SortSt} {st:SortSt} {Q:PUnit -> SortSt -> Prop} (hP:P (f st)) (h:∀ st1,P st1 -> Q ⟨⟩ st1):wpS (model prog w) A E s (modify f:StateT SortSt Sem PUnit) Q st:=wpS_modify (h _ hP)
theorem wp_mergeAt {kd:SortKind} {S:Keyed -> Prop} {lt:Keyed -> Keyed -> Bool} (hC:CmpBy prog w A E s kd S lt) (hL:LtOk lt) {a₀:List Keyed} {st:SortSt} {us vs:Runs} {X Y:List Keyed} {p q:Nat} {rest:List Keyed} {Q:Bool -> SortSt -> Prop} (hS:∀ x ∈ a₀,S x)
  (h:RunSt kd S lt a₀ st (us ++ (X,p) :: (Y,q) :: vs) rest)
  (hq:∀ st' M,RunSt kd S lt a₀ st' (us ++ (M,p) :: vs) rest -> M.length = X.length + Y.length -> Q true st'):wpS (model prog w) A E s (mergeAtX us.length) Q st:=by
 have hp:=h.p
 have hX:=h.srt (X,p) (by simp)
 have hY:=h.srt (Y,q) (by simp)
 rw [pend_app,Nat.zero_add] at hp
 have hp:(pendingOf st).toList = pendG 0 us ++ ((allG us).length,X.length,p) :: ((allG us).length + X.length,Y.length,q) :: pendG ((allG us).length + X.length + Y.length) vs:=hp
 have ha:=h.a
 rw [all_app,all_cons,all_cons] at ha
 have ha:(arrOf st).toList = allG us ++ (X ++ (Y ++ allG vs)) ++ rest:=ha
 generalize hsa:(allG us).length = sa at hp
 have p0:(pendingOf st)[us.length]? = some (sa,X.length,p):=by
  rw [<- Array.getElem?_toList,hp,List.getElem?_append_right (by rw [pend_len]; exact Nat.le_refl _),pend_len,Nat.sub_self]
  rfl
 have p1:(pendingOf st)[us.length + 1]? = some (sa + X.length,Y.length,q):=by
  rw [<- Array.getElem?_toList,hp,List.getElem?_append_right (by rw [pend_len]; omega),pend_len,Nat.add_sub_cancel_left]
  rfl
 unfold mergeAtX
 refine wpS_bind (wpS_get ?_)
 dsimp only
 rw [show (pendingOf st)[us.length]? = some (sa,X.length,p) from p0,show (pendingOf st)[us.length + 1]? = some (sa + X.length,Y.length,q) from p1]
 dsimp only
 have q1:(((pendingOf st).setIfInBounds us.length (sa,X.length + Y.length,p)).eraseIdxIfInBounds (us.length + 1)).toList = pendG 0 us ++ (sa,X.length + Y.length,p) :: pendG (sa + (X.length + Y.length)) vs:=by
  rw [Array.toList_eraseIdxIfInBounds,Array.toList_setIfInBounds,hp,List.set_append_right _ _ (by rw [pend_len]; exact Nat.le_refl _),pend_len,Nat.sub_self,List.set_cons_zero,List.eraseIdx_append_of_length_le (by rw [pend_len]; omega),pend_len,Nat.add_sub_cancel_left,Nat.add_assoc]
  rfl
 refine wpS_bind (wp_setP (P:=fun st1=>kindOf st1 = kd /\ failedOf st1 = none /\ arrOf st1 = arrOf st /\ (pendingOf st1).toList = pendG 0 us ++ (sa,X.length + Y.length,p) :: pendG (sa + (X.length + Y.length)) vs) ⟨h.k,h.f,rfl,q1⟩ fun st1 ⟨k1,f1,e1,q1⟩=>?_)
 have hS':∀ x ∈ (arrOf st).toList,S x:=fun x hx=>hS x (h.perm.mem_iff.mp (by rw [<- h.a]; exact hx))
 have rf:∀ x,leB lt x x:=hL.rf
 have ix:∀ {j:Nat},j < X.length -> (arrOf st)[sa + j]? = X[j]?:=fun {j} hj=>by
  rw [<- Array.getElem?_toList,ha,List.append_assoc,List.getElem?_append_right (by omega),hsa,Nat.add_sub_cancel_left,List.append_assoc,List.getElem?_append_left hj]
 have iy:∀ {j:Nat},j < Y.length -> (arrOf st)[sa + X.length + j]? = Y[j]?:=fun {j} hj=>by
  rw [<- Array.getElem?_toList,ha,List.append_assoc,List.getElem?_append_right (by omega),hsa,List.append_assoc,List.getElem?_append_right (by omega),List.append_assoc,show sa + X.length + j - sa - X.length = j by omega,List.getElem?_append_left hj]
 have hl:sa + X.length + Y.length <= (arrOf st).size:=by
  rw [<- Array.length_toList,ha]
  simp only [List.length_append]
  omega
 have x0:0 < X.length:=List.length_pos_iff.mpr hX.2
 have y0:0 < Y.length:=List.length_pos_iff.mpr hY.2
 obtain ⟨b0,hb0⟩:∃ b,Y[0]? = some b:=⟨_,List.getElem?_eq_getElem y0⟩
 obtain ⟨xl,hxl⟩:∃ b,X[X.length - 1]? = some b:=⟨_,List.getElem?_eq_getElem (by omega)⟩
 have mem:∀ {j:Nat} {x:Keyed},(arrOf st)[j]? = some x -> S x:=fun e=>hS' _ (by rw [<- Array.getElem?_toList] at e; exact List.mem_of_getElem? e)
 have eb0:(arrOf st)[sa + X.length]? = some b0:=by
  have:=iy y0
  rw [Nat.add_zero,hb0] at this
  exact this
 have exl:(arrOf st)[sa + X.length - 1]? = some xl:=by
  have:=ix (show X.length - 1 < X.length by omega)
  rw [hxl,show sa + (X.length - 1) = sa + X.length - 1 by omega] at this
  exact this
 have mk1:∀ (st3:SortSt) (M:List Keyed),kindOf st3 = kd -> failedOf st3 = none -> (pendingOf st3).toList = pendG 0 us ++ (sa,X.length + Y.length,p) :: pendG (sa + (X.length + Y.length)) vs -> (arrOf st3).toList = allG us ++ M ++ (allG vs ++ rest) -> Srt (leB lt) M -> M.Perm (X ++ Y) -> RunSt kd S lt a₀ st3 (us ++ (M,p) :: vs) rest:=fun st3 M k3 f3 q3 a3 sM pM=>by
  have hlen:M.length = X.length + Y.length:=by rw [pM.length_eq,List.length_append]
  refine ⟨k3,f3,?_,?_,?_,fun r hr=>?_⟩
  ·rw [q3,pend_app,hsa,Nat.zero_add]
   show _ = pendG 0 us ++ (sa,M.length,p) :: pendG (sa + M.length) vs
   rw [hlen]
  ·rw [a3,all_app,all_cons]
   simp
  ·refine List.Perm.trans ?_ h.perm
   rw [all_app,all_cons,all_app,all_cons,all_cons]
   refine List.Perm.append_right _ (List.Perm.append_left _ ?_)
   show (M ++ allG vs).Perm (X ++ (Y ++ allG vs))
   rw [<- List.append_assoc]
   exact pM.append_right _
  ·rcases List.mem_append.mp hr with hr | hr
   ·exact h.srt r (List.mem_append_left _ hr)
   ·rcases List.mem_cons.mp hr with rfl | hr
    ·exact ⟨sM,fun z=>by rw [show M = [] from z] at hlen; simp at hlen; omega⟩
    ·exact h.srt r (List.mem_append_right _ (List.mem_cons_of_mem _ (List.mem_cons_of_mem _ hr)))
 have a1:(arrOf st1).toList = allG us ++ (X ++ Y) ++ (allG vs ++ rest):=by
  rw [e1,ha]
  simp
 refine wpS_bind (wp_elem eb0 ?_)
 refine wpS_bind (wp_gallopR hC hL k1 (mem eb0) hS' (Nat.le_trans (Nat.le_add_right _ _) hl) x0 (fun i j x y hi hij hj hx hy=>?_) fun k hk r1 r2=>?_)
 ·rw [show i = sa + (i - sa) by omega,ix (by omega)] at hx
  rw [show j = sa + (j - sa) by omega,ix (by omega)] at hy
  exact srt_at hX.1 rf hx hy (by omega)
 dsimp only
 have r1:∀ x ∈ X.take k,lt b0 x = false:=fun x hx=>by
  obtain ⟨j,j1,j2⟩:=mem_took_at hx
  exact r1 (sa + j) x (by omega) (by omega) (by rw [ix (by omega)]; exact j2)
 have r2:∀ x ∈ X.drop k,lt b0 x = true:=fun x hx=>by
  obtain ⟨j,j1,j2⟩:=mem_drop_at hx
  have:=(List.getElem?_eq_some_iff.mp j2).1
  exact r2 (sa + j) x (by omega) (by omega) (by rw [ix (by omega)]; exact j2)
 have bY:∀ y ∈ Y,lt y b0 = false:=fun y hy=>srt_first hY.1 rf hb0 y (by rw [List.drop_zero]; exact hy)
 by_cases c1:(X.length - k == 0) = true
 ·rw [if_pos c1]
  have c1':k = X.length:=by have:X.length - k = 0:=(by simpa using c1); omega
  rw [c1',List.take_length] at r1
  exact wpS_pure (hq st1 (X ++ Y) (mk1 st1 _ k1 f1 q1 a1 (List.pairwise_append.mpr ⟨hX.1,hY.1,fun x hx y hy=>hL.tr _ _ _ (r1 x hx) (bY y hy)⟩) (List.Perm.refl _)) List.length_append)
 rw [if_neg c1]
 have c1':k < X.length:=by have:¬ X.length - k = 0:=(by simpa using c1); omega
 rw [show sa + k + (X.length - k) - 1 = sa + X.length - 1 by omega]
 refine wpS_bind (wp_elem exl ?_)
 refine wpS_bind (wp_gallopL hC hL k1 (mem exl) hS' hl (by omega) (fun i j x y hi hij hj hx hy=>?_) fun nb hnb s1 s2=>?_)
 ·rw [show i = sa + X.length + (i - sa - X.length) by omega,iy (by omega)] at hx
  rw [show j = sa + X.length + (j - sa - X.length) by omega,iy (by omega)] at hy
  exact srt_at hY.1 rf hx hy (by omega)
 dsimp only
 have s1:∀ x ∈ Y.take nb,lt x xl = true:=fun x hx=>by
  obtain ⟨j,j1,j2⟩:=mem_took_at hx
  exact s1 (sa + X.length + j) x (by omega) (by omega) (by rw [iy (by omega)]; exact j2)
 have s2:∀ x ∈ Y.drop nb,lt x xl = false:=fun x hx=>by
  obtain ⟨j,j1,j2⟩:=mem_drop_at hx
  have:=(List.getElem?_eq_some_iff.mp j2).1
  exact s2 (sa + X.length + j) x (by omega) (by omega) (by rw [iy (by omega)]; exact j2)
 have Xl:∀ x ∈ X,lt xl x = false:=fun x hx=>srt_lastm hX.1 rf x0 hxl x (by rw [List.take_length]; exact hx)
 by_cases c2:(nb == 0) = true
 ·rw [if_pos c2]
  obtain rfl:nb = 0:=by simpa using c2
  rw [List.drop_zero] at s2
  exact wpS_pure (hq st1 (X ++ Y) (mk1 st1 _ k1 f1 q1 a1 (List.pairwise_append.mpr ⟨hX.1,hY.1,fun x hx y hy=>hL.tr _ _ _ (Xl x hx) (s2 y hy)⟩) (List.Perm.refl _)) List.length_append)
 rw [if_neg c2]
 have c2':¬ nb = 0:=by simpa using c2
 have tX:((arrOf st).extract (sa + k) (sa + X.length)).toList = X.drop k:=by
  rw [extr,ha,List.append_assoc,<- List.drop_drop,List.drop_left' hsa,List.append_assoc,List.drop_append_of_le_length (by omega),List.take_left' (by rw [List.length_drop]; omega)]
 have tY:((arrOf st).extract (sa + X.length) (sa + X.length + nb)).toList = Y.take nb:=by
  rw [extr,ha,List.append_assoc,<- List.drop_drop,List.drop_left' hsa,List.append_assoc,List.drop_left' rfl,List.append_assoc,List.take_append_of_le_length (by omega),Nat.add_sub_cancel_left]
 have lX:((arrOf st).extract (sa + k) (sa + X.length)).size = X.length - k:=by rw [<- Array.length_toList,tX,List.length_drop]
 have lY:((arrOf st).extract (sa + X.length) (sa + X.length + nb)).size = nb:=by rw [<- Array.length_toList,tY,List.length_take]; omega
 have lX':((arrOf st).extract (sa + k) (sa + X.length)).toList.length = X.length - k:=by rw [tX,List.length_drop]
 have lY':((arrOf st).extract (sa + X.length) (sa + X.length + nb)).toList.length = nb:=by rw [tY,List.length_take]; omega
 have hx1:1 <= ((arrOf st).extract (sa + k) (sa + X.length)).size:=by rw [lX]; omega
 have hy1:1 <= ((arrOf st).extract (sa + X.length) (sa + X.length + nb)).size:=by rw [lY]; omega
 have memX:∀ x ∈ ((arrOf st).extract (sa + k) (sa + X.length)).toList,S x:=fun x hx=>hS' x (by
  rw [tX] at hx
  rw [ha]
  simp [List.mem_of_mem_drop hx])
 have memY:∀ x ∈ ((arrOf st).extract (sa + X.length) (sa + X.length + nb)).toList,S x:=fun x hx=>hS' x (by
  rw [tY] at hx
  rw [ha]
  simp [List.mem_of_mem_take hx])
 have sX:Srt (leB lt) ((arrOf st).extract (sa + k) (sa + X.length)).toList:=by rw [tX]; exact srt_drop hX.1 k
 have sY:Srt (leB lt) ((arrOf st).extract (sa + X.length) (sa + X.length + nb)).toList:=by rw [tY]; exact srt_take hY.1 nb
 have fst_:∀ x,((arrOf st).extract (sa + X.length) (sa + X.length + nb))[0]? = some x -> ∀ y ∈ ((arrOf st).extract (sa + k) (sa + X.length)).toList,lt y x = false:=fun x hx y hy=>by
  rw [<- Array.getElem?_toList,tY,List.getElem?_take,if_pos (by omega),hb0] at hx
  cases hx
  rw [tX] at hy
  exact hL.as _ _ (r2 y hy)
 have lst_:∀ x ∈ ((arrOf st).extract (sa + X.length) (sa + X.length + nb)).toList,∀ y,((arrOf st).extract (sa + k) (sa + X.length))[((arrOf st).extract (sa + k) (sa + X.length)).size - 1]? = some y -> lt y x = false:=fun x hx y hy=>by
  rw [lX,<- Array.getElem?_toList,tX,List.getElem?_drop,show k + (X.length - k - 1) = X.length - 1 by omega,hxl] at hy
  cases hy
  rw [tY] at hx
  exact hL.as _ _ (s1 x hx)
 have aM:∀ m:List Keyed,List.take (sa + k) (allG us ++ (X ++ (Y ++ allG vs)) ++ rest) ++ m ++ List.drop (sa + k + (((arrOf st).extract (sa + k) (sa + X.length)).toList ++ ((arrOf st).extract (sa + X.length) (sa + X.length + nb)).toList).length) (allG us ++ (X ++ (Y ++ allG vs)) ++ rest) = allG us ++ (X.take k ++ m ++ Y.drop nb) ++ (allG vs ++ rest):=fun m=>by
  have e1:List.take (sa + k) (allG us ++ (X ++ (Y ++ allG vs)) ++ rest) = allG us ++ X.take k:=by
   rw [List.append_assoc,<- hsa,List.take_length_add_append,List.append_assoc,List.take_append_of_le_length (by omega)]
  have e2:List.drop (sa + k + (((arrOf st).extract (sa + k) (sa + X.length)).toList ++ ((arrOf st).extract (sa + X.length) (sa + X.length + nb)).toList).length) (allG us ++ (X ++ (Y ++ allG vs)) ++ rest) = Y.drop nb ++ (allG vs ++ rest):=by
   rw [List.length_append,lX',lY',show sa + k + (X.length - k + nb) = sa + (X.length + nb) by omega,List.append_assoc,<- hsa,List.drop_length_add_append,List.append_assoc,List.drop_length_add_append,List.append_assoc,List.drop_append_of_le_length (by omega)]
  rw [e1,e2]
  simp
 have sMp:∀ m:List Keyed,Merged (leB lt) ((arrOf st).extract (sa + k) (sa + X.length)).toList ((arrOf st).extract (sa + X.length) (sa + X.length + nb)).toList m -> Srt (leB lt) (X.take k ++ m ++ Y.drop nb) /\ (X.take k ++ m ++ Y.drop nb).Perm (X ++ Y):=fun m hm=>by
  rw [tX,tY] at hm
  have inm:∀ z ∈ m,z ∈ X.drop k \/ z ∈ Y.take nb:=fun z hz=>List.mem_append.mp (hm.2.mem_iff.mp hz)
  have sX':=hX.1
  unfold Srt at sX'
  rw [<- List.take_append_drop k X,List.pairwise_append] at sX'
  have sY':=hY.1
  unfold Srt at sY'
  rw [<- List.take_append_drop nb Y,List.pairwise_append] at sY'
  constructor
  ·refine List.pairwise_append.mpr ⟨List.pairwise_append.mpr ⟨sX'.1,hm.1,fun x hx z hz=>?_⟩,sY'.2.1,fun x hx y hy=>?_⟩
   ·rcases inm z hz with q | q
    ·exact sX'.2.2 x hx z q
    ·exact hL.tr _ _ _ (r1 x hx) (bY z (List.mem_of_mem_take q))
   ·rcases List.mem_append.mp hx with q | q
    ·exact hL.tr _ _ _ (r1 x q) (bY y (List.mem_of_mem_drop hy))
    ·rcases inm x q with q | q
     ·exact hL.tr _ _ _ (Xl x (List.mem_of_mem_drop q)) (s2 y hy)
     ·exact sY'.2.2 x q y hy
  ·conv=>rhs; rw [<- List.take_append_drop k X,<- List.take_append_drop nb Y]
   rw [List.append_assoc,List.append_assoc]
   refine List.Perm.append_left _ ?_
   rw [<- List.append_assoc]
   exact hm.2.append_right _
 by_cases c3:X.length - k <= nb
 ·rw [if_pos c3]
  refine wpS_bind (wp_mergeLo hC hL k1 memX memY sX sY hx1 hy1 fst_ lst_ fun m st2 hs2 hm=>?_)
  refine wpS_bind (wp_modP (P:=fun st3=>kindOf st3 = kd /\ failedOf st3 = none /\ (pendingOf st3).toList = pendG 0 us ++ (sa,X.length + Y.length,p) :: pendG (sa + (X.length + Y.length)) vs /\ (arrOf st3).toList = allG us ++ (X.take k ++ m.toList ++ Y.drop nb) ++ (allG vs ++ rest)) ⟨hs2.k.trans k1,hs2.f.trans f1,(congrArg Array.toList hs2.p).trans q1,?_⟩ fun st3 ⟨k3,f3,q3,a3⟩=>?_)
  ·refine (written (c:=sa + k) m.toList 0 (arrOf st2) ?_).trans ?_
   ·have hml:m.toList.length = X.length - k + nb:=(hm.2.length_eq.trans List.length_append).trans (congr (congrArg HAdd.hAdd lX') lY')
    rw [hml,hs2.a,e1]
    exact Nat.le_trans (by omega) hl
   ·rw [hs2.a,e1,ha,hm.2.length_eq,Nat.add_zero]
    exact aM m.toList
  refine wpS_bind (wpS_get ?_)
  refine wpS_pure (?_:Q (Option.isNone (failedOf st3)) _)
  rw [f3]
  obtain ⟨sM,pM⟩:=sMp m.toList hm
  exact hq _ (X.take k ++ m.toList ++ Y.drop nb) (mk1 st3 _ k3 f3 q3 a3 sM pM) (by rw [pM.length_eq,List.length_append])
 ·rw [if_neg c3]
  refine wpS_bind (wp_mergeHi hC hL k1 memX memY sX sY hx1 hy1 fst_ lst_ fun m st2 hs2 hm=>?_)
  refine wpS_bind (wp_modP (P:=fun st3=>kindOf st3 = kd /\ failedOf st3 = none /\ (pendingOf st3).toList = pendG 0 us ++ (sa,X.length + Y.length,p) :: pendG (sa + (X.length + Y.length)) vs /\ (arrOf st3).toList = allG us ++ (X.take k ++ m.toList ++ Y.drop nb) ++ (allG vs ++ rest)) ⟨hs2.k.trans k1,hs2.f.trans f1,(congrArg Array.toList hs2.p).trans q1,?_⟩ fun st3 ⟨k3,f3,q3,a3⟩=>?_)
  ·refine (written (c:=sa + k) m.toList 0 (arrOf st2) ?_).trans ?_
   ·have hml:m.toList.length = X.length - k + nb:=(hm.2.length_eq.trans List.length_append).trans (congr (congrArg HAdd.hAdd lX') lY')
    rw [hml,hs2.a,e1]
    exact Nat.le_trans (by omega) hl
   ·rw [hs2.a,e1,ha,hm.2.length_eq,Nat.add_zero]
    exact aM m.toList
  refine wpS_bind (wpS_get ?_)
  refine wpS_pure (?_:Q (Option.isNone (failedOf st3)) _)
  rw [f3]
  obtain ⟨sM,pM⟩:=sMp m.toList hm
  exact hq _ (X.take k ++ m.toList ++ Y.drop nb) (mk1 st3 _ k3 f3 q3 a3 sM pM) (by rw [pM.length_eq,List.length_append])
end
def sortRunsX:StateT SortSt Sem Unit:=sortPriv% PySem.Builtin.sortRuns
theorem split2 {rs:Runs} {i:Nat} (h:i + 1 < rs.length):∃ us X p Y q vs,rs = us ++ (X,p) :: (Y,q) :: vs /\ us.length = i:=by
 refine ⟨rs.take i,rs[i].1,rs[i].2,rs[i + 1].1,rs[i + 1].2,rs.drop (i + 2),?_,by rw [List.length_take]; omega⟩
 show rs = rs.take i ++ rs[i] :: rs[i + 1] :: rs.drop (i + 2)
 rw [<- List.drop_eq_getElem_cons,<- List.drop_eq_getElem_cons,List.take_append_drop]
theorem all_len:∀ {rs:Runs},(∀ r ∈ rs,r.1 ≠ []) -> rs.length <= (allG rs).length
 | [],_=>Nat.le_refl _
 | r :: rs,h=>by
  rw [all_cons,List.length_append,List.length_cons]
  have:=all_len (rs:=rs) fun x hx=>h x (List.mem_cons_of_mem _ hx)
  have:=List.length_pos_iff.mpr (h r List.mem_cons_self)
  omega
section
variable {prog:Program} {w:World} {A:Around} {E:Value -> Shared -> Prop} {s:Shared}
theorem run_new {kd:SortKind} {S:Keyed -> Prop} {lt:Keyed -> Keyed -> Bool} {a₀:List Keyed} {st st':SortSt} {rs:Runs} {rest:List Keyed} {n:Nat} (h:RunSt kd S lt a₀ st rs rest) (l:LocSt kd S lt (allG rs).length (arrOf st) st st') (hn:n <= rest.length) (hu:UpIn lt (arrOf st') (allG rs).length n):
  ∃ R rest',R.length = n /\ Srt (leB lt) R /\ RunSt kd S lt a₀ st' rs (R ++ rest') /\ rest'.length + n = rest.length:=by
 have hl:(arrOf st').toList.length = (allG rs).length + rest.length:=by rw [l.perm.length_eq,h.a,List.length_append]
 have hpre:(arrOf st').toList.take (allG rs).length = allG rs:=by
  have:(arrOf st').toList.take (allG rs).length = (arrOf st).toList.take (allG rs).length:=by
   refine List.ext_getElem? fun i=>?_
   rw [List.getElem?_take,List.getElem?_take]
   split
   ·rename_i hi
    rw [Array.getElem?_toList,Array.getElem?_toList]
    exact l.pre i hi
   ·rfl
  rw [this,h.a,List.take_left' rfl]
 have e:(arrOf st').toList = allG rs ++ (((arrOf st').toList.drop (allG rs).length).take n ++ (arrOf st').toList.drop ((allG rs).length + n)):=by
  conv=>lhs; rw [<- List.take_append_drop (allG rs).length (arrOf st').toList,hpre]
  rw [<- List.drop_drop,List.take_append_drop]
 refine ⟨_,_,?_,?_,⟨l.k,l.f.trans h.f,by rw [l.p]; exact h.p,e,?_,h.srt⟩,?_⟩
 ·rw [List.length_take,List.length_drop]
  omega
 ·refine List.pairwise_iff_getElem.mpr fun i j hi hj hij=>?_
  rw [List.length_take,List.length_drop] at hi hj
  refine hu ((allG rs).length + i) ((allG rs).length + j) _ _ (by omega) (by omega) (by omega) ?_ ?_
  ·rw [<- Array.getElem?_toList,List.getElem?_eq_getElem (by omega)]
   simp
  ·rw [<- Array.getElem?_toList,List.getElem?_eq_getElem (by omega)]
   simp
 ·rw [<- e]
  refine l.perm.trans ?_
  rw [h.a]
  exact h.perm
 ·rw [List.length_drop]
  omega
theorem RunSt.len {kd:SortKind} {S:Keyed -> Prop} {lt:Keyed -> Keyed -> Bool} {a₀:List Keyed} {st:SortSt} {rs:Runs} {rest:List Keyed} (h:RunSt kd S lt a₀ st rs rest):(allG rs).length + rest.length = a₀.length:=by
 rw [<- h.perm.length_eq,List.length_append]
theorem RunSt.psize {kd:SortKind} {S:Keyed -> Prop} {lt:Keyed -> Keyed -> Bool} {a₀:List Keyed} {st:SortSt} {rs:Runs} {rest:List Keyed} (h:RunSt kd S lt a₀ st rs rest):(pendingOf st).size = rs.length:=by
 rw [<- Array.length_toList,h.p,pend_len]
theorem push_run {kd:SortKind} {S:Keyed -> Prop} {lt:Keyed -> Keyed -> Bool} {a₀:List Keyed} {st st':SortSt} {rs:Runs} {R rest:List Keyed} {lo n:Nat} (h:RunSt kd S lt a₀ st rs (R ++ rest)) (hR:Srt (leB lt) R) (hn:R.length = n) (h1:1 <= n) (hlo:(allG rs).length = lo)
  (k:kindOf st' = kindOf st) (f:failedOf st' = failedOf st) (a:arrOf st' = arrOf st) (p:pendingOf st' = (pendingOf st).push (lo,n,0)):RunSt kd S lt a₀ st' (rs ++ [(R,0)]) rest:=by
 refine ⟨k.trans h.k,f.trans h.f,?_,?_,?_,fun r hr=>?_⟩
 ·rw [p,Array.toList_push,h.p,pend_app,Nat.zero_add,hlo]
  show _ = pendG 0 rs ++ [(lo,R.length,0)]
  rw [hn]
 ·rw [a,h.a,all_app]
  simp [allG]
 ·refine List.Perm.trans ?_ h.perm
  rw [all_app]
  simp [allG]
 ·rcases List.mem_append.mp hr with hr | hr
  ·exact h.srt r hr
  ·rw [List.mem_singleton.mp hr]
   exact ⟨hR,fun z=>by rw [show R = [] from z] at hn; simp at hn; omega⟩
theorem modify_last {α:Type} (f:α -> α) (a:α):∀ l:List α,(l ++ [a]).modify l.length f = l ++ [f a]
 | []=>rfl
 | b :: l=>by
  rw [List.cons_append,List.length_cons,List.modify_succ_cons,modify_last f a l]
  rfl
theorem pow_run {kd:SortKind} {S:Keyed -> Prop} {lt:Keyed -> Keyed -> Bool} {a₀:List Keyed} {st st':SortSt} {rs:Runs} {rest:List Keyed} {pw:Nat} (h:RunSt kd S lt a₀ st rs rest)
  (k:kindOf st' = kindOf st) (f:failedOf st' = failedOf st) (a:arrOf st' = arrOf st) (p:pendingOf st' = (pendingOf st).modify ((pendingOf st).size - 1) fun x=>(x.1,x.2.1,pw)):∃ rs',RunSt kd S lt a₀ st' rs' rest:=by
 have hs:=h.psize
 rcases List.eq_nil_or_concat rs with rfl | ⟨us,r,rfl⟩
 ·refine ⟨[],k.trans h.k,f.trans h.f,?_,by rw [a]; exact h.a,h.perm,h.srt⟩
  have e:pendingOf st = #[]:=Array.eq_empty_of_size_eq_zero (by simpa using hs)
  rw [p,e]
  rfl
 ·rw [List.concat_eq_append] at h hs
  refine ⟨us ++ [(r.1,pw)],k.trans h.k,f.trans h.f,?_,?_,?_,fun x hx=>?_⟩
  ·rw [p,Array.toList_modify,h.p,hs,pend_app,pend_app,List.length_append,List.length_singleton,Nat.add_sub_cancel,<- pend_len us 0]
   exact modify_last _ _ _
  ·rw [a,h.a,all_app,all_app]
   rfl
  ·have:=h.perm
   rw [all_app] at this ⊢
   exact this
  ·rcases List.mem_append.mp hx with hx | hx
   ·exact h.srt x (List.mem_append_left _ hx)
   ·rw [List.mem_singleton.mp hx]
    exact h.srt r (List.mem_append_right _ List.mem_cons_self)
theorem mstep {kd:SortKind} {S:Keyed -> Prop} {lt:Keyed -> Keyed -> Bool} (hC:CmpBy prog w A E s kd S lt) (hL:LtOk lt) {a₀:List Keyed} {st:SortSt} {rs:Runs} {rest:List Keyed} {i:Nat} {Q:Bool -> SortSt -> Prop} (hS:∀ x ∈ a₀,S x) (h:RunSt kd S lt a₀ st rs rest) (hi:i + 1 < rs.length)
  (hq:∀ st' rs',RunSt kd S lt a₀ st' rs' rest -> rs'.length + 1 = rs.length -> Q true st'):wpS (model prog w) A E s (mergeAtX i) Q st:=by
 obtain ⟨us,X,p,Y,q,vs,rfl,rfl⟩:=split2 hi
 exact wp_mergeAt hC hL hS h fun st' M h' _=>hq st' _ h' (by simp; omega)
theorem mstep_ite {c:Prop} [Decidable c] {kd:SortKind} {S:Keyed -> Prop} {lt:Keyed -> Keyed -> Bool} (hC:CmpBy prog w A E s kd S lt) (hL:LtOk lt) {a₀:List Keyed} {st:SortSt} {rs:Runs} {rest:List Keyed} {i j:Nat} {Q:Bool -> SortSt -> Prop} (hS:∀ x ∈ a₀,S x) (h:RunSt kd S lt a₀ st rs rest) (hi:i + 1 < rs.length) (hj:j + 1 < rs.length)
  (hq:∀ st' rs',RunSt kd S lt a₀ st' rs' rest -> rs'.length + 1 = rs.length -> Q true st'):wpS (model prog w) A E s (mergeAtX (if c then i else j)) Q st:=by
 split
 ·exact mstep hC hL hS h hi hq
 ·exact mstep hC hL hS h hj hq
theorem wp_sortRuns {kd:SortKind} {S:Keyed -> Prop} {lt:Keyed -> Keyed -> Bool} (hC:CmpBy prog w A E s kd S lt) (hL:LtOk lt) {st:SortSt} {Q:Unit -> SortSt -> Prop} (hk:kindOf st = kd) (hf:failedOf st = none) (hp:pendingOf st = #[]) (hS:∀ x ∈ (arrOf st).toList,S x) (hd:Apart lt (arrOf st).toList)
  (h:∀ st',failedOf st' = none -> (arrOf st').toList.Perm (arrOf st).toList -> Srt (leB lt) (arrOf st').toList -> Q () st'):wpS (model prog w) A E s sortRunsX Q st:=by
 generalize ha₀:(arrOf st).toList = a₀ at hS hd h
 have hsz:(arrOf st).size = a₀.length:=by rw [<- ha₀]; simp
 have r0:RunSt kd S lt a₀ st [] a₀:=⟨hk,hf,by rw [hp]; rfl,ha₀,List.Perm.refl _,fun r hr=>absurd hr List.not_mem_nil⟩
 unfold sortRunsX
 refine wpS_bind (wpS_get ?_)
 dsimp -zetaHave only
 generalize (arrOf st).size = N at hsz ⊢
 subst hsz
 have split_ite:∀ {c:Prop} [Decidable c] {α:Type} {m1 m2:StateT SortSt Sem α} {st:SortSt} {Q:α -> SortSt -> Prop},(c -> wpS (model prog w) A E s m1 Q st) -> (¬ c -> wpS (model prog w) A E s m2 Q st) -> wpS (model prog w) A E s (if c then m1 else m2) Q st:=fun {c} _ {α m1 m2 st Q} h1 h2=>by
  by_cases hc:c
  ·rw [if_pos hc]; exact h1 hc
  ·rw [if_neg hc]; exact h2 hc
 refine wpS_bind (wpS_mono (wpS_forRange (I:=fun x c st'=>∃ lo rs rest,c = (none,lo) /\ RunSt kd S lt a₀ st' rs rest /\ lo = (allG rs).length /\ x <= lo)
  (Q:=fun c st'=>∃ lo rs,c = (none,lo) /\ RunSt kd S lt a₀ st' rs []) ?step ?fin ⟨0,[],a₀,rfl,r0,rfl,Nat.le_refl _⟩) ?post)
 case fin=>
  rintro c st' ⟨lo,rs,rest,rfl,r,hlo,hx⟩
  have:=r.len
  obtain rfl:rest = []:=List.length_eq_zero_iff.mp (by omega)
  exact ⟨lo,rs,rfl,r⟩
 case step=>
  rintro x c st' _ hx ⟨lo,rs,rest,rfl,r,hlo,hxl⟩
  subst hlo
  have hlen:=r.len
  dsimp -zetaHave only
  by_cases hge:(allG rs).length >= a₀.length
  ·rw [if_pos hge]
   obtain rfl:rest = []:=List.length_eq_zero_iff.mp (by omega)
   exact wpS_pure ⟨_,rs,rfl,r⟩
  rw [if_neg hge]
  have hsz':(arrOf st').size = a₀.length:=by rw [<- Array.length_toList,r.a,List.length_append]; exact hlen
  have l0:LocSt kd S lt (allG rs).length (arrOf st') st' st':=⟨r.k,rfl,rfl,List.Perm.refl _,fun _ _=>rfl,fun x hx=>hS x (r.perm.mem_iff.mp (by rw [<- r.a]; exact hx)),by
   rw [r.a]
   exact (r.perm.pairwise_iff (fun {a b} (q:lt a b = true \/ lt b a = true)=>q.symm)).mpr hd⟩
  refine wpS_bind (wp_countRun hC hL l0 (by omega) (by omega) fun n st2 l2 n1 n2 hu=>?_)
  dsimp -zetaHave only
  lift_lets
  extract_lets v0 jp v1 v2
  subst v0 v1 v2
  refine use2 jp (fun n st2=>LocSt kd S lt (allG rs).length (arrOf st') st' st2 /\ 1 <= n /\ (allG rs).length + n <= a₀.length /\ UpIn lt (arrOf st2) (allG rs).length n) (fun u n st2 hR=>?_) fun hjp=>?_
  ·subst jp
   clear l2 n1 n2 hu
   have l2:=hR.1
   have n1:=hR.2.1
   have n2:=hR.2.2.1
   have hu:=hR.2.2.2
   clear hR
   dsimp only
   obtain ⟨R,rest',hRn,hR,r2,hrl⟩:=run_new r l2 (by omega) hu
   refine wpS_bind (wpS_get ?_)
   cases hb:(pendingOf st2).back? with
   | none=>
    dsimp only
    refine wpS_bind (wp_modP (P:=fun st3=>RunSt kd S lt a₀ st3 (rs ++ [(R,0)]) rest') (push_run r2 hR hRn (by omega) rfl rfl rfl rfl rfl) fun st3 r3=>wpS_pure ⟨_,rs ++ [(R,0)],rest',rfl,r3,?_,?_⟩)
    ·rw [all_app,List.length_append]
     show _ = (allG rs).length + ([(R,0)].map (·.1)).flatten.length
     simp [hRn]
    ·omega
   | some v=>
    obtain ⟨s1,n1,p1⟩:=v
    dsimp only
    refine wpS_bind (wpS_mono (wpS_forRange (I:=fun x c st3=>c = (none,()) /\ ∃ rs3,RunSt kd S lt a₀ st3 rs3 (R ++ rest')) (Q:=fun c st3=>c = (none,()) /\ ∃ rs3,RunSt kd S lt a₀ st3 rs3 (R ++ rest')) ?mstep (fun c st3 q=>q) ⟨rfl,rs,r2⟩) ?mpost)
    case mstep=>
     rintro y c st3 _ _ ⟨rfl,rs3,r3⟩
     refine wpS_bind (wpS_get ?_)
     have hps:=r3.psize
     by_cases hgt:(pendingOf st3).size > 1
     ·rw [if_pos hgt]
      obtain ⟨u,hu⟩:∃ u,(pendingOf st3)[(pendingOf st3).size - 2]? = some u:=⟨_,getElem?_pos (pendingOf st3) ((pendingOf st3).size - 2) (by omega)⟩
      obtain ⟨u1,u2,older⟩:=u
      rw [show (pendingOf st3)[(pendingOf st3).size - 2]? = some (u1,u2,older) from hu]
      dsimp only
      refine split_ite (fun _=>wpS_pure ⟨rfl,rs3,r3⟩) fun _=>?_
      refine wpS_bind (mstep hC hL hS r3 (show (pendingOf st3).size - 2 + 1 < rs3.length by omega) fun st4 rs4 r4 _=>?_)
      simp only [Bool.not_true,Bool.false_eq_true,if_false]
      exact wpS_pure ⟨rfl,rs4,r4⟩
     ·rw [if_neg hgt]
      exact wpS_pure ⟨rfl,rs3,r3⟩
    case mpost=>
     rintro c st3 ⟨rfl,rs3,r3⟩
     dsimp only
     refine wpS_bind (wp_modP (P:=fun st4=>∃ rs4,RunSt kd S lt a₀ st4 rs4 (R ++ rest')) (pow_run r3 rfl rfl rfl rfl) fun st4 ⟨rs4,r4⟩=>?_)
     have l2:=r2.len
     have l4:=r4.len
     have hlo4:(allG rs4).length = (allG rs).length:=by omega
     refine wpS_bind (wp_modP (P:=fun st5=>RunSt kd S lt a₀ st5 (rs4 ++ [(R,0)]) rest') (push_run r4 hR hRn (by omega) hlo4 rfl rfl rfl rfl) fun st5 r5=>wpS_pure ⟨_,rs4 ++ [(R,0)],rest',rfl,r5,?_,?_⟩)
     ·rw [all_app,List.length_append]
      show _ = (allG rs4).length + ([(R,0)].map (·.1)).flatten.length
      simp [hRn,hlo4]
     ·omega
  refine split_ite (fun hlt=>?_) fun hlt=>hjp () n st2 ⟨l2,n1,by omega,hu⟩
  refine wpS_bind (wpS_lift (wpAny_rule ⟨rfl,?_⟩))
  refine wpS_bind (wp_binarySort hC hL l2 (by omega) (by omega) n1 hu fun st3 l3 hu3=>?_)
  simp only [Bool.not_true,Bool.false_eq_true,if_false]
  exact hjp () _ st3 ⟨l3,by omega,by omega,hu3⟩
 case post=>
  rintro c st' ⟨lo,rs,rfl,r⟩
  dsimp only
  have hle:=all_len fun x hx=>(r.srt x hx).2
  have hlen:=r.len
  refine wpS_bind (wpS_mono (wpS_forRange (I:=fun x c st2=>c = (none,()) /\ ∃ rs2,RunSt kd S lt a₀ st2 rs2 [] /\ (rs2.length <= 1 \/ rs2.length + x <= a₀.length)) (Q:=fun c st2=>c = (none,()) /\ ∃ rs2,RunSt kd S lt a₀ st2 rs2 [] /\ rs2.length <= 1) ?fstep ?ffin ⟨rfl,rs,r,.inr (by simp at hlen; omega)⟩) ?fpost)
  case ffin=>
   rintro c st2 ⟨rfl,rs2,r2,h2⟩
   exact ⟨rfl,rs2,r2,by omega⟩
  case fpost=>
   rintro c st2 ⟨rfl,rs2,r2,h2⟩
   refine wpS_pure (h st2 r2.f ?_ ?_)
   ·rw [r2.a]
    exact r2.perm
   ·rw [r2.a,List.append_nil]
    cases rs2 with
    | nil=>exact List.Pairwise.nil
    | cons u us=>
     cases us with
     | nil=>
      rw [all_cons]
      simpa [allG] using (r2.srt u List.mem_cons_self).1
     | cons v us=>simp at h2
  case fstep=>
   rintro y c st2 _ _ ⟨rfl,rs2,r2,h2⟩
   refine wpS_bind (wpS_get ?_)
   have hps:=r2.psize
   by_cases hle1:(pendingOf st2).size <= 1
   ·rw [if_pos hle1]
    exact wpS_pure ⟨rfl,rs2,r2,by omega⟩
   rw [if_neg hle1]
   refine wpS_bind (mstep_ite hC hL hS r2 (show (pendingOf st2).size - 2 - 1 + 1 < rs2.length by omega) (show (pendingOf st2).size - 2 + 1 < rs2.length by omega) fun st3 rs3 r3 l3=>?_)
   simp only [Bool.not_true,Bool.false_eq_true,if_false]
   exact wpS_pure ⟨rfl,rs3,r3,by omega⟩
end
noncomputable def txtLt (x y:Keyed):Bool:=strKind.blt ((strKind.keyOf x.1).getD []) ((strKind.keyOf y.1).getD [])
def IsTxt (x:Keyed):Prop:=∃ a u,x.1 = Value.str a u
theorem txtLt_ok:LtOk txtLt:=
 ⟨fun x=>strKind.irrefl _,fun x y z h k=>KeyOrd.kle_trans (O:=strKind.toKeyOrd) h k,fun x y h=>KeyOrd.kle_of_klt (O:=strKind.toKeyOrd) h⟩
section
variable {prog:Program} {w:World} {A:Around} {E:Value -> Shared -> Prop} {s:Shared}
theorem txt_cmp:CmpBy prog w A E s oneType' IsTxt txtLt:=fun x y st Q hx hy hk q=>by
 obtain ⟨x,p⟩:=x
 obtain ⟨y,r⟩:=y
 obtain ⟨a,u,rfl⟩:=hx
 obtain ⟨b,v,rfl⟩:=hy
 rw [lt'_eq]
 refine wpS_bind (wpS_get ?_)
 rw [hk,keyLt'_oneType]
 exact wpS_bind (wpS_lift (wpAny_attempt (strKind_oneLt _ _ _ _ _ _ _ _ _ rfl rfl ⟨rfl,wpS_pure q⟩)))
theorem txt_pairs:∀ {vs:List Value} {ss:List Str},StrsAre vs ss -> ss.Nodup -> (∀ x ∈ (pairsOf vs).toList,IsTxt x) /\ Apart txtLt (pairsOf vs).toList:=fun {vs ss} h nd=>by
 have e:(pairsOf vs).toList = vs.map fun v=>(v,v):=by
  unfold pairsOf
  have:∀ l:List Value,l.zip l = l.map fun v=>(v,v):=fun l=>by
   induction l with
   | nil=>rfl
   | cons x l ih=>rw [List.zip_cons_cons,ih,List.map_cons]
  simp [this]
 rw [e]
 clear e
 induction h with
 | nil=>exact ⟨fun x hx=>absurd hx List.not_mem_nil,List.Pairwise.nil⟩
 | cons y t r ih=>
  rename_i vs ss
  obtain ⟨n1,n2⟩:=List.nodup_cons.mp nd
  obtain ⟨i1,i2⟩:=ih n2
  refine ⟨fun x hx=>?_,List.pairwise_cons.mpr ⟨fun x hx=>?_,i2⟩⟩
  ·rcases List.mem_cons.mp hx with rfl | hx
   ·exact ⟨y,t,rfl⟩
   ·exact i1 x hx
  ·obtain ⟨v,hv,rfl⟩:=List.mem_map.mp hx
   obtain ⟨z,u,hz,rfl⟩:∃ z u,z ∈ ss /\ v = Value.str z u:=by
    clear i1 i2 ih n1 n2 nd hx
    induction r with
    | nil=>cases hv
    | cons y' t' r' ih'=>
     rcases List.mem_cons.mp hv with rfl | hv
     ·exact ⟨y',t',List.mem_cons_self,rfl⟩
     ·obtain ⟨z,u,a,b⟩:=ih' hv
      exact ⟨z,u,List.mem_cons_of_mem _ a,b⟩
   have ne:¬ y.cps.toList = z.cps.toList:=fun q=>n1 (by
    obtain ⟨y⟩:=y
    obtain ⟨z⟩:=z
    have:y = z:=Array.toList_inj.mp q
    rw [this]
    exact hz)
   show decide (y.cps.toList < z.cps.toList) = true \/ decide (z.cps.toList < y.cps.toList) = true
   rw [decide_eq_true_eq,decide_eq_true_eq]
   rcases Std.Trichotomous.rel_or_eq_or_rel_swap (r:=fun (a b:List Nat)=>a < b) (a:=y.cps.toList) (b:=z.cps.toList) with q | q | q
   ·exact .inl q
   ·exact absurd q ne
   ·exact .inr q
noncomputable def midHeap (h:Heap) (a:Addr) (vs:List Value):Heap:=((h.update a (Obj.mapSeq fun _=>#[])).push (seqObj "tuple" vs.toArray 0)).push
 (seqObj "list" #[] 0)
theorem mid_at {h:Heap} {a:Addr} {vs:List Value} {o:Obj} (hl:a < h.objs.size) (e:(h.update a (Obj.mapSeq fun _=>#[])).get? a = some o):(midHeap h a vs).get? a = some o:=by
 have k:∀ (g:Heap) (p:Obj),a < g.objs.size -> g.get? a = some o -> (g.push p).get? a = some o:=fun g p hg q=>
  (Heap.get?_push_ne _ _ _ (Nat.ne_of_lt hg)).trans q
 have hl1:a < (h.update a (Obj.mapSeq fun _=>#[])).objs.size:=Nat.lt_of_lt_of_eq hl (Heap.size_update ..).symm
 exact k _ _ (Nat.lt_of_lt_of_eq (Nat.lt_succ_of_lt hl1) (size_push' ..).symm) (k _ _ hl1 e)
theorem up_to {xs:Array Keyed} (h:Srt (leB txtLt) xs.toList):SortedToK strKind xs xs.size:=fun i j hij hj=>by
 obtain ⟨x,hx,hx',_⟩:=at_arr (show i < xs.size by omega)
 obtain ⟨y,hy,hy',_⟩:=at_arr hj
 have:=srt_at h txtLt_ok.rf hx' hy' hij
 unfold KK
 rw [hx,hy]
 exact this
theorem list_sort_big {a:Addr} {vs:List Value} {ss:List Str} {n:Nat} {P:Fin -> Shared -> Prop} (ho:s.heap.get? a = some (seqObj "list" vs.toArray n)) (hT:StrsAre vs ss) (nd:ss.Nodup) (hl:vs.length <= 10000)
  (h:∀ st':SortSt,(arrOf st').Perm (pairsOf vs) -> SortedToK strKind (arrOf st') (pairsOf vs).size -> P (.done (.ret .none)) { s with heap:=sortedHeap s.heap a vs ((arrOf st').map (·.2)) }):
  wpAny (model prog w) A (Builtin.«list.sort» ⟨[.ref a],[]⟩) P E s:=by
 by_cases few:vs.length < 64
 ·exact list_sort_treeK strKind_oneLt ho hT.keysOf (fun _ _ _ e=>keyKind_strs (e ▸ hT)) few h
 obtain ⟨v1,v2,more,rfl⟩:∃ v1 v2 more,vs = v1 :: v2 :: more:=by
  rcases vs with _ | ⟨v1,_ | ⟨v2,more⟩⟩
  ·simp at few
  ·simp at few
  ·exact ⟨v1,v2,more,rfl⟩
 have hlt:=Heap.lt_size ho
 rw [list_sort_plain]
 refine wpAny_bind (listItems_at ho rfl (wpAny_bind (listUpdate_at ho rfl ?_)))
 have o1:=get?_update_seq ho fun _=>(#[]:Array Value)
 refine wpAny_bind (seqEpoch_at o1 rfl (wpAny_bind (wpAny_newTuple (wpAny_bind (wpAny_newList (wpAny_holding ?_))))))
 show wpAny (model prog w) A _ P E { s with heap:=midHeap s.heap a (v1 :: v2 :: more) }
 have o6:=mid_at (vs:=v1 :: v2 :: more) hlt o1
 obtain ⟨ht,hap⟩:=txt_pairs hT nd
 have two:¬ (v1 :: v2 :: more).toArray.size < 2:=by simp
 dsimp only
 rw [if_neg two,if_neg two,keyKind_strs hT]
 refine wpAny_bind (wpAny_pure (wpAny_bind ?_))
 refine wpAny_mono (wp_sortRuns (Q:=fun _ st'=>failedOf st' = none /\ (arrOf st').Perm (pairsOf (v1 :: v2 :: more)) /\ Srt (leB txtLt) (arrOf st').toList) txt_cmp txtLt_ok rfl rfl rfl ht hap fun st' f p u=>⟨f,Array.perm_iff_toList_perm.mpr p,u⟩) ?_ fun _ _ z=>z
 rintro ⟨⟨⟩,st'⟩ s' ⟨rfl,f,p,u⟩
 dsimp only
 have hsz:(arrOf st').size = (pairsOf (v1 :: v2 :: more)).size:=p.size_eq
 have hle:((arrOf st').map (·.2)).size <= sizeLine + 1:=by
  rw [Array.size_map,hsz,pairsOf_size,sizeLine_eq]
  omega
 refine wpAny_bind (seqEpoch_at o6 rfl (wpAny_bind (listUpdate_at o6 rfl ?_ (hsz2:=hle))))
 rw [f]
 simp only [bne_self_eq_false,Bool.false_eq_true,if_false]
 exact wpAny_pure (h st' p (hsz ▸ up_to u))
end
end L2
namespace L2
open PySem PySem.Spec PyProof.Rows
noncomputable def ins (x:List Nat):List (List Nat) -> List (List Nat)
 | []=>[x]
 | y :: r=>if x = y then y :: r else if x < y then x :: y :: r else y :: ins x r
noncomputable def srt (l:List (List Nat)):List (List Nat):=l.foldr ins []
theorem lt_ir (a:List Nat):¬ a < a:=List.lt_irrefl a
theorem lt_tr {a b c:List Nat} (h:a < b) (k:b < c):a < c:=List.lt_trans h k
theorem lt_tri (a b:List Nat) (h:¬ a = b) (k:¬ a < b):b < a:=by
 rcases Std.Trichotomous.rel_or_eq_or_rel_swap (r:=fun (a b:List Nat)=>a < b) (a:=a) (b:=b) with q | q | q
 ·exact absurd q k
 ·exact absurd q h
 ·exact q
theorem ins_mem (x:List Nat):∀ (l:List (List Nat)) (y:List Nat),y ∈ ins x l ↔ y = x \/ y ∈ l
 | [],y=>by simp [ins]
 | z :: r,y=>by
  unfold ins
  split
  ·rename_i e; subst e; simp
  ·split
   ·simp
   ·rw [List.mem_cons,ins_mem x r y,List.mem_cons]
    constructor
    ·rintro (q | q | q)
     ·exact .inr (.inl q)
     ·exact .inl q
     ·exact .inr (.inr q)
    ·rintro (q | q | q)
     ·exact .inr (.inl q)
     ·exact .inl q
     ·exact .inr (.inr q)
theorem srt_mem {l:List (List Nat)} {y:List Nat}:y ∈ srt l ↔ y ∈ l:=by
 induction l with
 | nil=>simp [srt]
 | cons x l ih=>
  show y ∈ ins x (srt l) ↔ _
  rw [ins_mem,ih,List.mem_cons]
theorem ins_sorted (x:List Nat):∀ l:List (List Nat),l.Pairwise (· < ·) -> (ins x l).Pairwise (· < ·)
 | [],_=>by simp [ins]
 | z :: r,h=>by
  obtain ⟨h1,h2⟩:=List.pairwise_cons.mp h
  unfold ins
  split
  ·exact h
  ·rename_i ne
   split
   ·rename_i lt
    refine List.pairwise_cons.mpr ⟨fun y hy=>?_,h⟩
    rcases List.mem_cons.mp hy with rfl | hy
    ·exact lt
    ·exact lt_tr lt (h1 y hy)
   ·rename_i nlt
    refine List.pairwise_cons.mpr ⟨fun y hy=>?_,ins_sorted x r h2⟩
    rcases (ins_mem x r y).mp hy with rfl | hy
    ·exact lt_tri _ _ ne nlt
    ·exact h1 y hy
theorem srt_sorted (l:List (List Nat)):(srt l).Pairwise (· < ·):=by
 induction l with
 | nil=>exact List.Pairwise.nil
 | cons x l ih=>exact ins_sorted x _ ih
theorem sorted_uniq:∀ (l m:List (List Nat)),l.Pairwise (· < ·) -> m.Pairwise (· < ·) -> (∀ x,x ∈ l ↔ x ∈ m) -> l = m
 | [],[],_,_,_=>rfl
 | [],y :: m,_,_,h=>by have:=(h y).mpr List.mem_cons_self; cases this
 | x :: l,[],_,_,h=>by have:=(h x).mp List.mem_cons_self; cases this
 | x :: l,y :: m,hl,hm,h=>by
  obtain ⟨l1,l2⟩:=List.pairwise_cons.mp hl
  obtain ⟨m1,m2⟩:=List.pairwise_cons.mp hm
  have e:x = y:=by
   rcases List.mem_cons.mp ((h x).mp List.mem_cons_self) with q | q
   ·exact q
   ·rcases List.mem_cons.mp ((h y).mpr List.mem_cons_self) with q' | q'
    ·exact q'.symm
    ·exact absurd (lt_tr (m1 x q) (l1 y q')) (lt_ir _)
  subst e
  rw [sorted_uniq l m l2 m2 fun z=>⟨fun q=>?_,fun q=>?_⟩]
  ·rcases List.mem_cons.mp ((h z).mp (List.mem_cons_of_mem _ q)) with e | q'
   ·exact absurd (e ▸ l1 z q) (lt_ir _)
   ·exact q'
  ·rcases List.mem_cons.mp ((h z).mpr (List.mem_cons_of_mem _ q)) with e | q'
   ·exact absurd (e ▸ m1 z q) (lt_ir _)
   ·exact q'
theorem rising_pairwise:∀ (p:Str) (l:List Str),risingS p l = true -> (p :: l).Pairwise fun a b=>¬ b.cps.toList < a.cps.toList
 | p,[],_=>by simp
 | p,x :: r,h=>by
  unfold risingS at h
  rw [Bool.and_eq_true,ltCps_eq] at h
  have h1:¬ x.cps.toList < p.cps.toList:=by simpa using h.1
  have h2:=rising_pairwise x r h.2
  refine List.pairwise_cons.mpr ⟨fun y hy=>?_,h2⟩
  rcases List.mem_cons.mp hy with rfl | hy
  ·exact h1
  ·intro z
   have h3:=(List.pairwise_cons.mp h2).1 y hy
   by_cases e:y.cps.toList = x.cps.toList
   ·exact h1 (e ▸ z)
   ·exact h1 (lt_tr (lt_tri _ _ e h3) z)
theorem sortedS_pairwise (l:List Str) (h:sortedS l = true):l.Pairwise fun a b=>¬ b.cps.toList < a.cps.toList:=by
 cases l with
 | nil=>exact List.Pairwise.nil
 | cons x r=>exact rising_pairwise x r h
theorem sorted_is {ls:List (List Nat)} {ss':List Str} (hp:ss'.Perm (dd (ls.map st))) (hs:sortedS ss' = true):ss' = (srt ls).map st:=by
 have nd:ss'.Nodup:=hp.nodup_iff.mpr (dd_nodup _)
 have back:ss' = (ss'.map fun x=>x.cps.toList).map st:=by
  rw [List.map_map]
  conv=>lhs; rw [<- List.map_id ss']
  rfl
 rw [back]
 congr 1
 refine sorted_uniq _ _ ?_ (srt_sorted ls) fun x=>?_
 ·rw [List.pairwise_map]
  refine (List.Pairwise.and (sortedS_pairwise ss' hs) nd).imp fun {a b} ⟨h1,h2⟩=>?_
  refine lt_tri _ _ (fun e=>h2 ?_) h1
  obtain ⟨a⟩:=a
  obtain ⟨b⟩:=b
  exact congrArg Str.mk (Array.toList_inj.mp e).symm
 ·rw [srt_mem,List.mem_map]
  constructor
  ·rintro ⟨y,hy,rfl⟩
   have:=dd_mem.mp (hp.mem_iff.mp hy)
   obtain ⟨z,hz,rfl⟩:=List.mem_map.mp this
   exact hz
  ·intro hx
   exact ⟨st x,hp.mem_iff.mpr (dd_mem.mpr (List.mem_map.mpr ⟨x,hx,rfl⟩)),rfl⟩
section
variable {prog:Program} {w:World} {A:Around} {E:Value -> Shared -> Prop} {s:Shared}
theorem strs_of_texts:∀ {vs:List Value},(∀ v ∈ vs,∃ x u,v = Value.str x u) -> StrsAre vs (vs.map txtOf)
 | [],_=>.nil
 | v :: vs,h=>by
  obtain ⟨x,u,rfl⟩:=h v List.mem_cons_self
  exact .cons x u (strs_of_texts fun v hv=>h v (List.mem_cons_of_mem _ hv))
theorem sorted_texts {a:Addr} {ss:List Str} {Q:Value -> Shared -> Prop} (hh:A.handled = none) (hS:IsTexts w s.heap a (ledW w) ss) (hb:ss.length < 1024) (hn:ss.Nodup)
  (h:∀ (D:Addr) (h':Heap) (tk:Nat) (d:Drawn) (out:List Value) (ss':List Str) (e:Nat),(∀ b o,s.heap.get? b = some o -> h'.get? b = some o) -> s.heap.objs.size <= D -> h'.get? D = some (seqObj "list" out.toArray e) ->
   StrsAre out ss' -> ss'.Perm ss -> sortedS ss' = true -> Q (.ref D) { s with heap:=h',toks:=tk,drawn:=d }):
  wpAny (model prog w) A (call (.builtin "sorted") [.ref a]) Q E s:=by
 refine Calls.call_function_entry kind_sorted plain_sorted entry_sorted (args_sorted1 _) ?_
 unfold Builtin.«sorted»
 refine wpAny_bind (m:=checkCount "sorted" 1 1 _) (wpAny_pure ?_)
 refine wpAny_bind (collect_texts (A:=A.in1) hh hS (by omega) fun h1 tk d vs more old hv hp=>?_)
 have hl:vs.length = ss.length:=by have:=hp.length_eq; simpa using this
 refine wpAny_bind (wpAny_newList ?_ (by rw [hl,sizeLine_eq]; omega))
 have hD:(h1.push (seqObj "list" vs.toArray 0)).get? h1.objs.size = some (seqObj "list" vs.toArray 0):=Heap.get?_push_size _ rfl
 have hSA:=strs_of_texts hv
 refine wpAny_bind (wpAny_holding (wpAny_call_entry slot_list_sort ⟨_,hD,rfl⟩ entry_list_sort (list_sort_big hD hSA (hp.nodup_iff.mpr hn) (by omega) fun st' a1 a2=>⟨_,rfl,?_⟩) (args_list_sort _)))
 obtain ⟨ss',b1,b2,b3⟩:=sorted_out_str hSA a1 a2
 obtain ⟨e,he⟩:=sortedHeap_at (out:=(arrOf st').map (·.2)) hD
 refine wpAny_pure ⟨_,rfl,h _ _ tk d ((arrOf st').map (·.2)).toList ss' e (fun b o q=>?_) ?_ (by rw [Array.toArray_toList]; exact he) b1 (b2.trans hp) b3⟩
 ·have hb1:=Heap.lt_size (old b o q)
  rw [sortedHeap_old (Nat.ne_of_lt hb1) (by rw [size_push']; exact Nat.lt_succ_of_lt hb1)]
  exact Heap.get?_push_of_some _ (old b o q)
 ·exact Nat.le_of_lt more
end
section
variable {X:Cx}
theorem Inv.drew {pins:List (Addr × Obj)} {σ:St} {H:Hp} {s:Shared} (I:Inv X pins σ H s) (d:Drawn):Inv X pins σ H { s with drawn:=d }:=
 ⟨I.ok,I.os,I.bare,I.base,I.loc,I.cell,I.free,I.freeC,I.pin,I.hok,I.len,I.tk⟩
theorem vals_strs:∀ {out:List Value} {ys:List Str},StrsAre out ys -> Vals (ys.map V.str) out
 | _,_,.nil=>.nil
 | _,_,.cons y t r=>.cons ⟨t,rfl⟩ (vals_strs r)
theorem strs_at:∀ {vs:List Value} {ys:List Str},StrsAre vs ys -> ∀ (i:Nat) (v:Value),vs[i]? = some v -> ∃ x t,ys[i]? = some x /\ v = .str x t
 | _,_,.nil,i,v,h=>by simp at h
 | _,_,.cons y t r,0,v,h=>by simp at h; exact ⟨y,t,rfl,h.symm⟩
 | _,_,.cons y t r,i + 1,v,h=>by simpa using strs_at r i v (by simpa using h)
noncomputable def cSortSet (K:Frag) (te:TE):TE:=fun σ H Q=>te σ H fun x H1=>match x with
 | .ref p=>∃ ls:List (List Nat),SqL K H1 p (ls.map fun l=>V.str (st l)) /\ ls.length <= 4000 /\ (srt ls).length < 1024 /\ ∀ q,H1 q = none -> Q (.ref q) (upd H1 q (.lst ((srt ls).map fun l=>V.str (st l))))
 | _=>False
theorem call_set_sorted {K:Frag} (hK:X.K = K) (hc:X.calm = true) {pins:List (Addr × Obj)} {s:Shared} {σ:St} {H:Hp} {p:Addr} {ls:List (List Nat)} {Q:VK} (I:Inv X pins σ H s)
  (h:SqL K H p (ls.map fun l=>V.str (st l))) (h1:ls.length <= 4000) (h2:(srt ls).length < 1024) (q:∀ q,H q = none -> Q (.ref q) (upd H q (.lst ((srt ls).map fun l=>V.str (st l))))):
  wpAny (model X.prog X.w) X.A (call (.type "set") [.ref p]) (fun v s1=>wpAny (model X.prog X.w) X.A (call (.builtin "sorted") [v]) (EP X pins σ Q) X.xe s1) X.xe s:=by
 subst hK
 obtain ⟨its,rv,pl,_⟩:=I.list h
 have hss:StrsAre its (ls.map st):=strsAre_of (by rw [List.map_map]; exact rv)
 have hlen:its.length = ls.length:=by have:=rv.length; simpa using this.symm
 have e63:scanBound = 4096:=rfl
 refine tokQ I.tk (set_of_texts (items:=its.toArray) (ss:=ls.map st) (I.ok.hd hc) pl.isList (by simp [hlen]) (fun i v hv=>strs_at hss i v (by simpa using hv)) (by simp only [List.size_toArray,hlen,e63]; omega) fun h' tk hS old (htk:0 < tk)=>?_)
 have I1:Inv X pins σ H { s with heap:=h',toks:=tk }:=I.kept old
 have hperm:∀ ss':List Str,ss'.Perm (dd (ls.map st)) -> sortedS ss' = true -> ss' = (srt ls).map st:=fun ss' a b=>sorted_is a b
 have hdl:(dd (ls.map st)).length = (srt ls).length:=by
  have a:((srt ls).map st).Perm (dd (ls.map st)):=by
   refine (List.perm_ext_iff_of_nodup ?_ (dd_nodup _)).mpr fun x=>?_
   ·refine List.pairwise_map.mpr ((srt_sorted ls).imp fun {a b} z e=>?_)
    have e:=st_inj.mp e
    exact lt_ir _ (e ▸ z)
   ·rw [dd_mem,List.mem_map,List.mem_map]
    exact ⟨fun ⟨y,hy,e⟩=>⟨y,srt_mem.mp hy,e⟩,fun ⟨y,hy,e⟩=>⟨y,srt_mem.mpr hy,e⟩⟩
  rw [<- a.length_eq,List.length_map]
 refine tokQ I1.tk (sorted_texts (s:={ s with heap:=h',toks:=tk }) (I.ok.hd hc) hS (by rw [hdl]; exact h2) (dd_nodup _) fun D h2 tk2 d out ss' e old2 hD ho hso hp hsd (htk2:0 < tk2)=>?_)
 have e1:=hperm ss' hp hsd
 subst e1
 have hv:Vals ((srt ls).map fun l=>V.str (st l)) out:=by
  have:=vals_strs hso
  rwa [List.map_map] at this
 have I2:=I1.laid (a:=D) (o:=.lst ((srt ls).map fun l=>V.str (st l))) (t':=tk2) old2 hD ⟨by rw [List.length_map,sizeLine_eq]; omega,out,e,hv,ho⟩
 exact ⟨.ref D,_,I2.drew d,rfl,q D (I1.hok.fresh hD)⟩
theorem qe_sortset {K:Frag} {e:Expr} {te:TE} {p p2 pos pos2:Pos} (hK:X.K = K) (hc:X.calm = true) (hg:Gl X "sorted") (hm:X.mg "sorted" = none) (hg2:Gl X "set") (hm2:X.mg "set" = none) (he:PE X e te)
  (hs:starEach [e] X.env = [(false,eval e X.env)]:=by rfl)
  (hs2:starEach [Expr.Call (.Name "set" p2) [e] [] pos2] X.env = [(false,eval (Expr.Call (.Name "set" p2) [e] [] pos2) X.env)]:=by rfl):
  PE X (.Call (.Name "sorted" p) [.Call (.Name "set" p2) [e] [] pos2] [] pos) (cSortSet K te):=by
 intro pins s σ H Q I h
 refine wpAny_Call_Name_kw (ld_blt I hg hm bb_sorted ?_ (by decide) (by decide))
 refine PyProof.Rows.callWith_builtin1 ?_ hs2 rfl
 rw [hs2]
 show wpAny _ _ (spliced [(false,eval (Expr.Call (.Name "set" p2) [e] [] pos2) X.env)]) _ _ s
 refine Calls.spliced_cons ?_
 refine wpAny_Call_Name_kw (ld_blt I hg2 hm2 bb_set ?_ (by decide) (by decide))
 refine PyProof.Rows.callWith_type1 ?_ hs rfl
 rw [hs]
 show wpAny _ _ (spliced [(false,eval e X.env)]) _ _ s
 refine Calls.spliced_cons (thn (he pins s σ H _ I h) fun u s1 ⟨x,H1,I1,r1,q1⟩=>Calls.spliced_nil ?_)
 match x,r1,q1 with
 | .ref p,rfl,⟨ls,a1,a2,a3,a4⟩=>exact thn (call_set_sorted hK hc I1 a1 a2 a3 a4) fun v s2 q=>Calls.spliced_nil q
theorem a_cSortSet {K:Frag} {te:TE} {σ:St} {H:Hp} {Q:VK}:cSortSet K te σ H Q = te σ H fun x H1=>match x with
 | .ref p=>∃ ls:List (List Nat),SqL K H1 p (ls.map fun l=>V.str (st l)) /\ ls.length <= 4000 /\ (srt ls).length < 1024 /\ ∀ q,H1 q = none -> Q (.ref q) (upd H1 q (.lst ((srt ls).map fun l=>V.str (st l))))
 | _=>False:=rfl
end
inductive D where
 | f (v:V) | l (xs:List D) | t (xs:List D)
mutual
noncomputable def eqD:D -> D -> Bool
 | .f x,.f y=>eqV x y
 | .l xs,.l ys=>eqDs xs ys
 | .t xs,.t ys=>eqDs xs ys
 | .f _,.l _=>false
 | .f _,.t _=>false
 | .l _,.f _=>false
 | .l _,.t _=>false
 | .t _,.f _=>false
 | .t _,.l _=>false
noncomputable def eqDs:List D -> List D -> Bool
 | [],[]=>true
 | x :: xs,y :: ys=>eqD x y && eqDs xs ys
 | [],_ :: _=>false
 | _ :: _,[]=>false
end
noncomputable def Deep (K:Frag) (H:Hp):Nat -> V -> D -> Prop
 | 0,v,d=>d = .f v /\ flatV v = true
 | n + 1,v,d=>(d = .f v /\ flatV v = true) \/ (∃ a vs ds,v = .ref a /\ d = .l ds /\ SqL K H a vs /\ Paired (Deep K H n) vs ds) \/ (∃ a vs ds,v = .ref a /\ d = .t ds /\ SqT K H a vs /\ Paired (Deep K H n) vs ds)
theorem eqDs_len:∀ {xs ys:List D},xs.length ≠ ys.length -> eqDs xs ys = false
 | [],[],h=>absurd rfl h
 | [],_ :: _,_=>by rw [eqDs]
 | _ :: _,[],_=>by rw [eqDs]
 | x :: xs,y :: ys,h=>by
  rw [eqDs,eqDs_len (xs:=xs) (ys:=ys) (fun e=>h (by simp [e])),Bool.and_false]
theorem eqV_refl {v:V} (h:flatV v = true):eqV v v = true:=by
 cases v <;> simp_all [flatV,eqV]
section
variable {X:Cx} {pins:List (Addr × Obj)} {σ:St} {H:Hp} {s:Shared}
theorem list_flat {A:Around} {l:Addr} {items:Array Value} {y:V} {v:Value} (hl:s.heap.IsList l items) (hu:A.units < cLine) (r:RelV y v) (f:flatV y = true):SeqAt.EqAt A s (.ref l) v false:=by
 cases y with
 | non=>cases r; exact .list_none hl hu
 | bl b=>cases r; exact .list_bool b hl hu
 | int i=>obtain ⟨t,rfl⟩:=r; exact .list_int i t hl hu
 | str x=>obtain ⟨t,rfl⟩:=r; exact .list_str x t hl hu
 | _=>exact absurd (show false = true from f) Bool.false_ne_true
theorem flat_list {A:Around} {l:Addr} {items:Array Value} {y:V} {v:Value} (hl:s.heap.IsList l items) (hu:A.units < cLine) (r:RelV y v) (f:flatV y = true):SeqAt.EqAt A s v (.ref l) false:=by
 cases y with
 | non=>cases r; exact .none_list hl hu
 | bl b=>cases r; exact .bool_list b hl hu
 | int i=>obtain ⟨t,rfl⟩:=r; exact .int_list i t hl hu
 | str x=>obtain ⟨t,rfl⟩:=r; exact .str_list x t hl hu
 | _=>exact absurd (show false = true from f) Bool.false_ne_true
theorem tuple_flat {A:Around} {l:Addr} {items:Array Value} {y:V} {v:Value} (hl:s.heap.IsTuple l items) (hu:A.units < cLine) (r:RelV y v) (f:flatV y = true):SeqAt.EqAt A s (.ref l) v false:=by
 cases y with
 | non=>cases r; exact .tuple_none hl hu
 | bl b=>cases r; exact .tuple_bool b hl hu
 | int i=>obtain ⟨t,rfl⟩:=r; exact .tuple_int i t hl hu
 | str x=>obtain ⟨t,rfl⟩:=r; exact .tuple_str x t hl hu
 | _=>exact absurd (show false = true from f) Bool.false_ne_true
theorem flat_tuple {A:Around} {l:Addr} {items:Array Value} {y:V} {v:Value} (hl:s.heap.IsTuple l items) (hu:A.units < cLine) (r:RelV y v) (f:flatV y = true):SeqAt.EqAt A s v (.ref l) false:=by
 cases y with
 | non=>cases r; exact .none_tuple hl hu
 | bl b=>cases r; exact .bool_tuple b hl hu
 | int i=>obtain ⟨t,rfl⟩:=r; exact .int_tuple i t hl hu
 | str x=>obtain ⟨t,rfl⟩:=r; exact .str_tuple x t hl hu
 | _=>exact absurd (show false = true from f) Bool.false_ne_true
theorem apart_lt (I:Inv X pins σ H s) {a:Addr} {vs ws:List V} (h:SqL X.K H a vs) (k:SqT X.K H a ws):False:=by
 obtain ⟨_,_,p1,_⟩:=I.list h
 obtain ⟨_,_,p2,_⟩:=I.tuple k
 exact SeqAt.ne_of_list_tuple p1.isList p2 rfl
theorem deep_same (I:Inv X pins σ H s):∀ (n:Nat) (v:V) (d d':D),Deep X.K H n v d -> Deep X.K H n v d' -> eqD d d' = true
 | 0,v,d,d',⟨e,f⟩,⟨e',_⟩=>by subst e; subst e'; rw [eqD]; exact eqV_refl f
 | n + 1,v,d,d',h,h'=>by
  have pr:∀ (vs:List V) (ds ds':List D),Paired (Deep X.K H n) vs ds -> Paired (Deep X.K H n) vs ds' -> eqDs ds ds' = true:=by
   intro vs
   induction vs with
   | nil=>intro ds ds' p q; cases p; cases q; rw [eqDs]
   | cons v vs ih=>
    intro ds ds' p q
    cases p with
    | cons p1 p2=>cases q with
     | cons q1 q2=>rw [eqDs,deep_same I n v _ _ p1 q1,ih _ _ p2 q2]; rfl
  rcases h with ⟨e,f⟩ | ⟨a,vs,ds,rfl,rfl,ha,p⟩ | ⟨a,vs,ds,rfl,rfl,ha,p⟩
  ·rcases h' with ⟨e',_⟩ | ⟨a',vs',ds',rfl,_⟩ | ⟨a',vs',ds',rfl,_⟩
   ·subst e; subst e'; rw [eqD]; exact eqV_refl f
   ·exact absurd (show false = true from f) Bool.false_ne_true
   ·exact absurd (show false = true from f) Bool.false_ne_true
  ·rcases h' with ⟨_,f⟩ | ⟨a',vs',ds',e,rfl,ha',p'⟩ | ⟨a',vs',ds',e,rfl,ha',p'⟩
   ·exact absurd (show false = true from f) Bool.false_ne_true
   ·cases e
    obtain rfl:=I.list_inj ha ha'
    rw [eqD]; exact pr vs ds ds' p p'
   ·cases e
    exact (apart_lt I ha ha').elim
  ·rcases h' with ⟨_,f⟩ | ⟨a',vs',ds',e,rfl,ha',p'⟩ | ⟨a',vs',ds',e,rfl,ha',p'⟩
   ·exact absurd (show false = true from f) Bool.false_ne_true
   ·cases e
    exact (apart_lt I ha' ha).elim
   ·cases e
    obtain rfl:=I.tuple_inj ha ha'
    rw [eqD]; exact pr vs ds ds' p p'
noncomputable def eqNth (ds ds':List D) (j:Nat):Bool:=match ds[j]?,ds'[j]? with
 | some d,some d'=>eqD d d'
 | _,_=>true
theorem all_eqNth:∀ {ds ds':List D},ds.length = ds'.length -> (List.range ds.length).all (eqNth ds ds') = eqDs ds ds'
 | [],[],_=>by rw [eqDs]; rfl
 | d :: ds,d' :: ds',h=>by
  have ih:=all_eqNth (ds:=ds) (ds':=ds') (by simpa using h)
  rw [List.length_cons,List.range_succ_eq_map,List.all_cons,List.all_map,eqDs]
  have e:eqNth (d :: ds) (d' :: ds') 0 = eqD d d':=rfl
  have e2:(eqNth (d :: ds) (d' :: ds') ∘ Nat.succ) = eqNth ds ds':=funext fun j=>by simp [eqNth]
  rw [e,e2,ih]
theorem paired_at {α β:Type} {F:α -> β -> Prop}:∀ {l:List α} {m:List β},Paired F l m -> ∀ {j:Nat} {x:α},l[j]? = some x -> ∃ y,m[j]? = some y /\ F x y
 | _,_,.nil,j,x,h=>by simp at h
 | _,_,.cons p r,0,x,h=>by simp at h; subst h; exact ⟨_,rfl,p⟩
 | _,_,.cons p r,j + 1,x,h=>by simpa using paired_at r (j:=j) (by simpa using h)
theorem deep_eqAt (I:Inv X pins σ H s):∀ (n:Nat) (A:Around) (x y:V) (dx dy:D) (u v:Value),A.units + n < cLine -> Deep X.K H n x dx -> Deep X.K H n y dy -> RelV x u -> RelV y v -> SeqAt.EqAt A s u v (eqD dx dy)
 | 0,A,x,y,dx,dy,u,v,_,⟨e,f⟩,⟨e',f'⟩,ru,rv=>by subst e; subst e'; rw [eqD]; exact eqAt_V ru rv f f'
 | n + 1,A,x,y,dx,dy,u,v,hu,hx,hy,ru,rv=>by
  have hu0:A.units < cLine:=by omega
  have items:∀ (vs ws:List V) (ds ds':List D) (us us':List Value),Paired (Deep X.K H n) vs ds -> Paired (Deep X.K H n) ws ds' -> Vals vs us -> Vals ws us' ->
    ∀ j (h1:j < us.toArray.size) (h2:j < us'.toArray.size),SeqAt.EqAt A.in1 s us.toArray[j] us'.toArray[j] (eqNth ds ds' j):=by
   intro vs ws ds ds' us us' p q r r' j h1 h2
   have l1:=r.length
   have l2:=r'.length
   simp only [List.size_toArray] at h1 h2
   have g1:vs[j]? = some (vs[j]'(by omega)):=List.getElem?_eq_getElem _
   have g2:ws[j]? = some (ws[j]'(by omega)):=List.getElem?_eq_getElem _
   obtain ⟨d,hd,fd⟩:=paired_at p g1
   obtain ⟨d',hd',fd'⟩:=paired_at q g2
   obtain ⟨c,hc,rc⟩:=r.get g1
   obtain ⟨c',hc',rc'⟩:=r'.get g2
   have e1:us.toArray[j] = c:=by rw [List.getElem?_eq_getElem h1] at hc; simpa using hc
   have e2:us'.toArray[j] = c':=by rw [List.getElem?_eq_getElem h2] at hc'; simpa using hc'
   rw [e1,e2]
   unfold eqNth
   rw [hd,hd']
   exact deep_eqAt I n A.in1 _ _ d d' c c' (by rw [Around.in1_units]; omega) fd fd' rc rc'
  rcases hx with ⟨e,f⟩ | ⟨a,vs,ds,rfl,rfl,ha,p⟩ | ⟨a,vs,ds,rfl,rfl,ha,p⟩
  ·subst e
   rcases hy with ⟨e',f'⟩ | ⟨b,ws,ds',rfl,rfl,hb,q⟩ | ⟨b,ws,ds',rfl,rfl,hb,q⟩
   ·subst e'; rw [eqD]; exact eqAt_V ru rv f f'
   ·cases rv
    obtain ⟨_,_,pl,_⟩:=I.list hb
    rw [eqD]; exact flat_list pl.isList hu0 ru f
   ·cases rv
    obtain ⟨_,_,pl,_⟩:=I.tuple hb
    rw [eqD]; exact flat_tuple pl hu0 ru f
  ·cases ru
   obtain ⟨us,r1,pl,_⟩:=I.list ha
   rcases hy with ⟨e',f'⟩ | ⟨b,ws,ds',rfl,rfl,hb,q⟩ | ⟨b,ws,ds',rfl,rfl,hb,q⟩
   ·subst e'; rw [eqD]; exact list_flat pl.isList hu0 rv f'
   ·cases rv
    by_cases eab:a = b
    ·subst eab
     have:=deep_same I (n + 1) (.ref a) (.l ds) (.l ds') (.inr (.inl ⟨a,vs,ds,rfl,rfl,ha,p⟩)) (.inr (.inl ⟨a,ws,ds',rfl,rfl,hb,q⟩))
     rw [this]
     exact SeqAt.EqAt.same _
    ·obtain ⟨us',r2,pl2,_⟩:=I.list hb
     have l1:=r1.length
     have l2:=r2.length
     have l3:=p.length
     have l4:=q.length
     rw [eqD]
     by_cases el:ds.length = ds'.length
     ·rw [<- all_eqNth el,show ds.length = us.toArray.size by simp only [List.size_toArray]; omega]
      exact .of_refs eab (.lists pl.isList pl2.isList (by simp only [List.size_toArray]; omega) hu0 (items vs ws ds ds' us us' p q r1 r2))
     ·rw [eqDs_len el]
      exact .of_refs eab (.lists_lengths pl.isList pl2.isList (by simp only [List.size_toArray,bne_iff_ne,ne_eq]; omega) hu0)
   ·cases rv
    obtain ⟨_,_,pl2,_⟩:=I.tuple hb
    rw [eqD]; exact .list_tuple pl.isList pl2 hu0
  ·cases ru
   obtain ⟨us,r1,pl,_⟩:=I.tuple ha
   rcases hy with ⟨e',f'⟩ | ⟨b,ws,ds',rfl,rfl,hb,q⟩ | ⟨b,ws,ds',rfl,rfl,hb,q⟩
   ·subst e'; rw [eqD]; exact tuple_flat pl hu0 rv f'
   ·cases rv
    obtain ⟨_,_,pl2,_⟩:=I.list hb
    rw [eqD]; exact .tuple_list pl pl2.isList hu0
   ·cases rv
    by_cases eab:a = b
    ·subst eab
     have:=deep_same I (n + 1) (.ref a) (.t ds) (.t ds') (.inr (.inr ⟨a,vs,ds,rfl,rfl,ha,p⟩)) (.inr (.inr ⟨a,ws,ds',rfl,rfl,hb,q⟩))
     rw [this]
     exact SeqAt.EqAt.same _
    ·obtain ⟨us',r2,pl2,_⟩:=I.tuple hb
     have l1:=r1.length
     have l2:=r2.length
     have l3:=p.length
     have l4:=q.length
     rw [eqD]
     have key:eqDs ds ds' = ((List.range (min us.toArray.size us'.toArray.size)).all (eqNth ds ds') && us.toArray.size == us'.toArray.size):=by
      by_cases el:ds.length = ds'.length
      ·rw [<- all_eqNth el,show min us.toArray.size us'.toArray.size = ds.length by simp only [List.size_toArray]; omega,show (us.toArray.size == us'.toArray.size) = true by simp only [List.size_toArray,beq_iff_eq]; omega,Bool.and_true]
      ·rw [eqDs_len el,show (us.toArray.size == us'.toArray.size) = false by simp only [List.size_toArray,beq_eq_false_iff_ne,ne_eq]; omega,Bool.and_false]
     rw [key]
     exact .of_refs eab (.tuples pl pl2 hu0 (items vs ws ds ds' us us' p q r1 r2))
end
section
variable {X:Cx} {pins:List (Addr × Obj)} {σ:St} {H:Hp} {s:Shared}
theorem deep_items (I:Inv X pins σ H s) {n:Nat} {A:Around} (hu:A.units + n + 1 < cLine) {vs ws:List V} {ds ds':List D} {us us':List Value} (p:Paired (Deep X.K H n) vs ds) (q:Paired (Deep X.K H n) ws ds') (r:Vals vs us) (r':Vals ws us'):
  ∀ j (h1:j < us.toArray.size) (h2:j < us'.toArray.size),SeqAt.EqAt A.in1 s us.toArray[j] us'.toArray[j] (eqNth ds ds' j):=by
 intro j h1 h2
 have l1:=r.length
 have l2:=r'.length
 simp only [List.size_toArray] at h1 h2
 have g1:vs[j]? = some (vs[j]'(by omega)):=List.getElem?_eq_getElem _
 have g2:ws[j]? = some (ws[j]'(by omega)):=List.getElem?_eq_getElem _
 obtain ⟨d,hd,fd⟩:=paired_at p g1
 obtain ⟨d',hd',fd'⟩:=paired_at q g2
 obtain ⟨c,hc,rc⟩:=r.get g1
 obtain ⟨c',hc',rc'⟩:=r'.get g2
 have e1:us.toArray[j] = c:=by rw [List.getElem?_eq_getElem h1] at hc; simpa using hc
 have e2:us'.toArray[j] = c':=by rw [List.getElem?_eq_getElem h2] at hc'; simpa using hc'
 rw [e1,e2]
 unfold eqNth
 rw [hd,hd']
 exact deep_eqAt I n A.in1 _ _ d d' c c' (by rw [Around.in1_units]; omega) fd fd' rc rc'
noncomputable def kEqD (K:Frag) (neg:Bool):R2:=fun x y H Q=>match x,y with
 | .ref a,.ref b=>∃ n dx dy,n <= 100 /\ Deep K H n (.ref a) dx /\ Deep K H n (.ref b) dy /\ Q (.bl (neg ^^ eqD dx dy)) H
 | _,_=>False
theorem tuple_key {us us':List Value} {ds ds':List D} (l1:ds.length = us.length) (l2:ds'.length = us'.length):((List.range (min us.toArray.size us'.toArray.size)).all (eqNth ds ds') && us.toArray.size == us'.toArray.size) = eqDs ds ds':=by
 by_cases el:ds.length = ds'.length
 ·rw [<- all_eqNth el,show min us.toArray.size us'.toArray.size = ds.length by simp only [List.size_toArray]; omega,show (us.toArray.size == us'.toArray.size) = true by simp only [List.size_toArray,beq_iff_eq]; omega,Bool.and_true]
 ·rw [eqDs_len el,show (us.toArray.size == us'.toArray.size) = false by simp only [List.size_toArray,beq_eq_false_iff_ne,ne_eq]; omega,Bool.and_false]
theorem eqDE (K:Frag) (hK:X.K = K) {k:Nat} (hr:Room k X.A):OpR X (compareOp .Eq) (kEqD K false):=by
 subst hK
 intro pins s σ H x y v u Q I rx ry h
 unfold kEqD at h
 split at h
 ·rename_i a b
  obtain ⟨n,dx,dy,hn,hx,hy,q⟩:=h
  cases rx
  cases ry
  simp only [Bool.false_bne] at q
  have hu:=hr.un
  cases n with
  | zero=>exact absurd (show false = true from hx.2) Bool.false_ne_true
  | succ n=>
   rcases hx with ⟨_,f⟩ | ⟨a',vs,ds,e,rfl,ha,p⟩ | ⟨a',vs,ds,e,rfl,ha,p⟩
   ·exact absurd (show false = true from f) Bool.false_ne_true
   ·cases e
    obtain ⟨us,r1,pl,_⟩:=I.list ha
    have l1:=r1.length
    have l3:=p.length
    rcases hy with ⟨_,f⟩ | ⟨b',ws,ds',e,rfl,hb,p'⟩ | ⟨b',ws,ds',e,rfl,hb,p'⟩
    ·exact absurd (show false = true from f) Bool.false_ne_true
    ·cases e
     obtain ⟨us',r2,pl2,_⟩:=I.list hb
     have l2:=r2.length
     have l4:=p'.length
     rw [eqD] at q
     by_cases el:ds.length = ds'.length
     ·refine SeqAt.eq_listAt (e:=eqNth ds ds') pl.isList pl2.isList (by simp only [List.size_toArray]; omega) (by omega) (deep_items I (by omega) p p' r1 r2) ?_
      rw [show us.toArray.size = ds.length by simp only [List.size_toArray]; omega,all_eqNth el]
      exact ⟨.bl _,H,I,rfl,q⟩
     ·refine SeqAt.eq_list_lengthsAt pl.isList pl2.isList (by simp only [List.size_toArray,bne_iff_ne,ne_eq]; omega) (by omega) ?_
      rw [eqDs_len el] at q
      exact ⟨.bl _,H,I,rfl,q⟩
    ·cases e
     obtain ⟨us',r2,pl2,_⟩:=I.tuple hb
     rw [eqD] at q
     exact SeqAt.RcAt.list_tuple pl.isList pl2 (by omega) _ _ _ _ ⟨.bl _,H,I,rfl,q⟩
   ·cases e
    obtain ⟨us,r1,pl,_⟩:=I.tuple ha
    have l1:=r1.length
    have l3:=p.length
    rcases hy with ⟨_,f⟩ | ⟨b',ws,ds',e,rfl,hb,p'⟩ | ⟨b',ws,ds',e,rfl,hb,p'⟩
    ·exact absurd (show false = true from f) Bool.false_ne_true
    ·cases e
     obtain ⟨us',r2,pl2,_⟩:=I.list hb
     rw [eqD] at q
     exact SeqAt.RcAt.tuple_list pl pl2.isList (by omega) _ _ _ _ ⟨.bl _,H,I,rfl,q⟩
    ·cases e
     obtain ⟨us',r2,pl2,_⟩:=I.tuple hb
     have l2:=r2.length
     have l4:=p'.length
     rw [eqD] at q
     refine SeqAt.eq_tupleAt (e:=eqNth ds ds') pl pl2 (by omega) (deep_items I (by omega) p p' r1 r2) ?_
     rw [tuple_key (by omega) (by omega)]
     exact ⟨.bl _,H,I,rfl,q⟩
 ·exact h.elim
theorem neDE (K:Frag) (hK:X.K = K) {k:Nat} (hr:Room k X.A):OpR X (compareOp .NotEq) (kEqD K true):=by
 subst hK
 intro pins s σ H x y v u Q I rx ry h
 unfold kEqD at h
 split at h
 ·rename_i a b
  obtain ⟨n,dx,dy,hn,hx,hy,q⟩:=h
  cases rx
  cases ry
  simp only [Bool.true_bne] at q
  have hu:=hr.un
  cases n with
  | zero=>exact absurd (show false = true from hx.2) Bool.false_ne_true
  | succ n=>
   rcases hx with ⟨_,f⟩ | ⟨a',vs,ds,e,rfl,ha,p⟩ | ⟨a',vs,ds,e,rfl,ha,p⟩
   ·exact absurd (show false = true from f) Bool.false_ne_true
   ·cases e
    obtain ⟨us,r1,pl,_⟩:=I.list ha
    have l1:=r1.length
    have l3:=p.length
    rcases hy with ⟨_,f⟩ | ⟨b',ws,ds',e,rfl,hb,p'⟩ | ⟨b',ws,ds',e,rfl,hb,p'⟩
    ·exact absurd (show false = true from f) Bool.false_ne_true
    ·cases e
     obtain ⟨us',r2,pl2,_⟩:=I.list hb
     have l2:=r2.length
     have l4:=p'.length
     rw [eqD] at q
     by_cases el:ds.length = ds'.length
     ·refine SeqAt.RcNeAt.lists (e:=eqNth ds ds') pl.isList pl2.isList (by simp only [List.size_toArray]; omega) (by omega) (deep_items I (by omega) p p' r1 r2) _ _ _ _ ?_
      rw [show us.toArray.size = ds.length by simp only [List.size_toArray]; omega,all_eqNth el]
      exact ⟨.bl _,H,I,rfl,q⟩
     ·refine SeqAt.RcNeAt.lists_lengths pl.isList pl2.isList (by simp only [List.size_toArray,bne_iff_ne,ne_eq]; omega) (by omega) _ _ _ _ ?_
      rw [eqDs_len el] at q
      exact ⟨.bl _,H,I,rfl,q⟩
    ·cases e
     obtain ⟨us',r2,pl2,_⟩:=I.tuple hb
     rw [eqD] at q
     exact SeqAt.RcNeAt.list_tuple pl.isList pl2 (by omega) _ _ _ _ ⟨.bl _,H,I,rfl,q⟩
   ·cases e
    obtain ⟨us,r1,pl,_⟩:=I.tuple ha
    have l1:=r1.length
    have l3:=p.length
    rcases hy with ⟨_,f⟩ | ⟨b',ws,ds',e,rfl,hb,p'⟩ | ⟨b',ws,ds',e,rfl,hb,p'⟩
    ·exact absurd (show false = true from f) Bool.false_ne_true
    ·cases e
     obtain ⟨us',r2,pl2,_⟩:=I.list hb
     rw [eqD] at q
     exact SeqAt.RcNeAt.tuple_list pl pl2.isList (by omega) _ _ _ _ ⟨.bl _,H,I,rfl,q⟩
    ·cases e
     obtain ⟨us',r2,pl2,_⟩:=I.tuple hb
     have l2:=r2.length
     have l4:=p'.length
     rw [eqD] at q
     refine SeqAt.RcNeAt.tuples (e:=eqNth ds ds') pl pl2 (by omega) (deep_items I (by omega) p p' r1 r2) _ _ _ _ ?_
     rw [tuple_key (by omega) (by omega)]
     exact ⟨.bl _,H,I,rfl,q⟩
 ·exact h.elim
end
section
variable {X:Cx}
noncomputable def kNeNil (K:Frag):R2:=fun x y H Q=>match x,y with
 | .ref a,.ref b=>∃ xs,SqL K H a xs /\ SqL K H b [] /\ Q (.bl (!decide (xs = []))) H
 | _,_=>False
theorem neNilE (K:Frag) (hK:X.K = K) (hu:X.A.units < cLine):OpR X (compareOp .NotEq) (kNeNil K):=by
 subst hK
 intro pins s σ H x y v u Q I rx ry h
 unfold kNeNil at h
 split at h
 ·obtain ⟨xs,ha,hb,q⟩:=h
  cases rx
  cases ry
  obtain ⟨its,r1,p1,_⟩:=I.list ha
  obtain ⟨its2,r2,p2,_⟩:=I.list hb
  cases r2
  cases r1 with
  | nil=>exact SeqAt.RcNeAt.lists (e:=fun _=>true) p1.isList p2.isList rfl hu (fun j h1 _=>absurd h1 (by simp)) _ _ _ _ ⟨.bl false,H,I,rfl,by simpa using q⟩
  | cons rx rr=>exact SeqAt.RcNeAt.lists_lengths p1.isList p2.isList (by simp) hu _ _ _ _ ⟨.bl true,H,I,rfl,by simpa using q⟩
 ·exact h.elim
theorem a_kNeNil {K:Frag} {a b:Addr} {H:Hp} {Q:VK}:kNeNil K (.ref a) (.ref b) H Q = ∃ xs,SqL K H a xs /\ SqL K H b [] /\ Q (.bl (!decide (xs = []))) H:=rfl
theorem a_kEqD {K:Frag} {n:Bool} {a b:Addr} {H:Hp} {Q:VK}:kEqD K n (.ref a) (.ref b) H Q = ∃ k dx dy,k <= 100 /\ Deep K H k (.ref a) dx /\ Deep K H k (.ref b) dy /\ Q (.bl (n ^^ eqD dx dy)) H:=rfl
noncomputable def kAny (K:Frag):List V -> Hp -> VK -> Prop:=fun xs H Q=>match xs with
 | [.ref p]=>∃ bs:List Bool,SqL K H p (bs.map V.bl) /\ Q (.bl (bs.any id)) H
 | _=>False
theorem vals_bools {bs:List Bool}:∀ {us:List Value},Vals (bs.map V.bl) us -> us = bs.map Value.bool:=by
 induction bs with
 | nil=>intro us h; cases h; rfl
 | cons b bs ih=>
  intro us h
  cases h with
  | cons r t=>cases r; rw [ih t]; rfl
theorem call_anyK (K:Frag) (hK:X.K = K) (hc:X.calm = true):CallR X (.builtin "any") (kAny K):=by
 subst hK
 intro pins s σ H xs us Q I r q
 unfold kAny at q
 split at q
 ·rename_i p
  obtain ⟨bs,hq,q⟩:=q
  obtain ⟨u,rfl,ru⟩:=vals1 r
  cases ru
  obtain ⟨its,rv,pl,_⟩:=I.list hq
  obtain rfl:=vals_bools rv
  have hl:s.heap.IsList p (bs.map Value.bool).toArray:=pl.isList
  have hp:p < s.heap.objs.size:=by obtain ⟨o,ho,_⟩:=hl; exact Heap.lt_size ho
  refine tokQ I.tk (call_any_walk (wpAny_pyIter_list hl ?_))
  refine ⟨_,_,_,_,_,_,fun i=>(bs[i]?).getD false,rfl,Walks.list (A:=X.A.in1) (I.ok.hd hc) _ p (Nat.ne_of_lt hp) (bs.map Value.bool).toArray,⟨⟨_,Heap.get?_push_size _ rfl,rfl,rfl⟩,hl.push _⟩,?_,fun h' tk k (htk:0 < tk)=>?_⟩
  ·intro i v s' Q' E' hP hQ'
   have hi:bs[i]?.map Value.bool = some v:=by simpa using hP
   cases hb:bs[i]? with
   | none=>rw [hb] at hi; cases hi
   | some b=>
    have e:(fun i=>(bs[i]?).getD false) i = b:=by simp [hb]
    rw [e] at hQ'
    rw [hb] at hi
    cases hi
    exact wpAny_truthy_bool hQ'
  ·have e:((List.range (bs.map Value.bool).toArray.size).any fun i=>(bs[i]?).getD false) = bs.any id:=by
    simp only [List.size_toArray,List.length_map]
    rw [Bool.eq_iff_iff,List.any_eq_true,List.any_eq_true]
    constructor
    ·rintro ⟨i,hi,h⟩
     have hi:i < bs.length:=by simpa using hi
     rw [List.getElem?_eq_getElem hi] at h
     exact ⟨bs[i],List.getElem_mem hi,h⟩
    ·rintro ⟨b,hb,h⟩
     obtain ⟨i,hi,rfl⟩:=List.getElem_of_mem hb
     exact ⟨i,by simpa using hi,by rw [List.getElem?_eq_getElem hi]; exact h⟩
   rw [e]
   refine ⟨.bl _,H,I.kept (fun b o q=>k b o ?_ (Heap.get?_push_of_some _ q)),rfl,q⟩
   intro z
   have:=Heap.lt_size q
   rw [List.mem_singleton.mp z] at this
   exact Nat.lt_irrefl _ this
 ·exact q.elim
theorem a_kAny {K:Frag} {p:Addr} {H:Hp} {Q:VK}:kAny K [.ref p] H Q = ∃ bs:List Bool,SqL K H p (bs.map V.bl) /\ Q (.bl (bs.any id)) H:=rfl
noncomputable def insI (x:Int):List Int -> List Int
 | []=>[x]
 | y :: r=>if x <= y then x :: y :: r else y :: insI x r
noncomputable def srtI (l:List Int):List Int:=l.foldr insI []
theorem insI_perm (x:Int):∀ l:List Int,(insI x l).Perm (x :: l)
 | []=>List.Perm.refl _
 | y :: r=>by
  unfold insI
  split
  ·exact List.Perm.refl _
  ·exact ((insI_perm x r).cons y).trans (List.Perm.swap x y r)
theorem srtI_perm:∀ l:List Int,(srtI l).Perm l
 | []=>List.Perm.refl _
 | x :: l=>(insI_perm x (srtI l)).trans ((srtI_perm l).cons x)
theorem insI_sorted (x:Int):∀ l:List Int,l.Pairwise (· <= ·) -> (insI x l).Pairwise (· <= ·)
 | [],_=>by simp [insI]
 | y :: r,h=>by
  obtain ⟨h1,h2⟩:=List.pairwise_cons.mp h
  unfold insI
  split
  ·rename_i le
   refine List.pairwise_cons.mpr ⟨fun z hz=>?_,h⟩
   rcases List.mem_cons.mp hz with rfl | hz
   ·exact le
   ·exact Int.le_trans le (h1 z hz)
  ·rename_i nle
   refine List.pairwise_cons.mpr ⟨fun z hz=>?_,insI_sorted x r h2⟩
   rcases List.mem_cons.mp ((insI_perm x r).mem_iff.mp hz) with rfl | hz
   ·omega
   ·exact h1 z hz
theorem srtI_sorted:∀ l:List Int,(srtI l).Pairwise (· <= ·)
 | []=>List.Pairwise.nil
 | x :: l=>insI_sorted x _ (srtI_sorted l)
theorem sortedI_is {ns ns':List Int} (hp:ns'.Perm ns) (hs:ns'.Pairwise (· <= ·)):ns' = srtI ns:=
 List.Perm.eq_of_pairwise (fun a b _ _ h k=>Int.le_antisymm h k) hs (srtI_sorted ns) (hp.trans (srtI_perm ns).symm)
noncomputable def kSorted (K:Frag):List V -> Hp -> VK -> Prop:=fun xs H Q=>match xs with
 | [.ref p]=>∃ ns:List Int,SqL K H p (ns.map V.int) /\ ns.length < 64 /\ ∀ q,H q = none -> Q (.ref q) (upd H q (.lst ((srtI ns).map V.int)))
 | _=>False
theorem call_sortedI (K:Frag) (hK:X.K = K):CallR X (.builtin "sorted") (kSorted K):=by
 subst hK
 intro pins s σ H xs us Q I r q
 unfold kSorted at q
 split at q
 ·rename_i p
  obtain ⟨ns,hq,hn,q⟩:=q
  obtain ⟨u,rfl,ru⟩:=vals1 r
  cases ru
  obtain ⟨its,rv,pl,_⟩:=I.list hq
  have hl:=rv.length
  rw [List.length_map] at hl
  refine PyProof.Rows.sorted_ints (vs:=its) (ns:=ns) pl.isList (intsAre_of rv) (by omega) fun out ns' a1 a2 a3=>?_
  obtain ⟨e,he⟩:=sortedAll_at s.heap its out
  obtain rfl:=sortedI_is a2 a3
  have hle:s.heap.objs.size <= s.heap.objs.size + 1:=Nat.le_succ _
  exact ⟨.ref (s.heap.objs.size + 1),_,I.laid (a:=s.heap.objs.size + 1) (o:=.lst ((srtI ns).map V.int)) (fun _ _ q=>sortedAll_old q) hle
   ⟨by rw [List.length_map,(srtI_perm ns).length_eq,sizeLine_eq]; omega,out.toList,e,vals_ints a1,by simpa using he⟩,rfl,q _ (I.hok.fresh hle)⟩
 ·exact q.elim
theorem a_kSorted {K:Frag} {p:Addr} {H:Hp} {Q:VK}:kSorted K [.ref p] H Q = ∃ ns:List Int,SqL K H p (ns.map V.int) /\ ns.length < 64 /\ ∀ q,H q = none -> Q (.ref q) (upd H q (.lst ((srtI ns).map V.int))):=rfl
end
section
variable {X:Cx}
noncomputable def cListRng (te:TE):TE:=fun σ H Q=>te σ H fun x H1=>match x with
 | .int j=>-(2 ^ 62) <= j /\ j <= 10000 /\ ∀ p,H1 p = none -> Q (.ref p) (upd H1 p (.lst ((List.range j.toNat).map fun (i:Nat)=>V.int i)))
 | _=>False
theorem vals_range {acc:Array Value} {n:Nat} (h:ItemsOf (fun i v=>∃ t,v = Value.int ((0:Int) + (i:Int) * 1) t) acc n):Vals ((List.range n).map fun (i:Nat)=>V.int i) acc.toList:=by
 obtain ⟨hs,hi⟩:=h
 have key:∀ (l:List Value) (k:Nat),(∀ (j:Nat) (v:Value),l[j]? = some v -> ∃ t,v = Value.int ((k + j:Nat):Int) t) -> Vals ((List.range' k l.length).map fun (i:Nat)=>V.int i) l:=by
  intro l
  induction l with
  | nil=>intro k _; exact .nil
  | cons v l ih=>
   intro k h
   obtain ⟨t,e⟩:=h 0 v rfl
   rw [List.length_cons,List.range'_succ,List.map_cons]
   refine .cons ⟨t,by simpa using e⟩ (ih (k + 1) fun j v hj=>?_)
   obtain ⟨t,e⟩:=h (j + 1) v (by simpa using hj)
   exact ⟨t,by rw [e]; congr 1; omega⟩
 have:=key acc.toList 0 fun j v hj=>by
  obtain ⟨t,e⟩:=hi j v (by simpa using hj)
  exact ⟨t,by rw [e]; congr 1; omega⟩
 rw [Array.length_toList,hs,<- List.range_eq_range'] at this
 exact this
theorem qe_listrng {e:Expr} {te:TE} {p p2 pos pos2:Pos} (hc:X.calm = true) (hg:Gl X "list") (hm:X.mg "list" = none) (hg2:Gl X "range") (hm2:X.mg "range" = none) (he:PE X e te)
  (hs:starEach [e] X.env = [(false,eval e X.env)]:=by rfl)
  (hs2:starEach [Expr.Call (.Name "range" p2) [e] [] pos2] X.env = [(false,eval (Expr.Call (.Name "range" p2) [e] [] pos2) X.env)]:=by rfl):
  PE X (.Call (.Name "list" p) [.Call (.Name "range" p2) [e] [] pos2] [] pos) (cListRng te):=by
 intro pins s σ H Q I h
 refine wpAny_Call_Name_kw (ld_blt I hg hm bb_list ?_ (by decide) (by decide))
 refine PyProof.Rows.callWith_type1 ?_ hs2 rfl
 rw [hs2]
 show wpAny _ _ (spliced [(false,eval (Expr.Call (.Name "range" p2) [e] [] pos2) X.env)]) _ _ s
 refine Calls.spliced_cons ?_
 refine wpAny_Call_Name_kw (ld_blt I hg2 hm2 boot_range ?_ (by decide) (by decide))
 refine PyProof.Rows.callWith_type1 ?_ hs rfl
 rw [hs]
 show wpAny _ _ (spliced [(false,eval e X.env)]) _ _ s
 refine Calls.spliced_cons (thn (he pins s σ H _ I h) fun u s1 ⟨x,H1,I1,r1,q1⟩=>Calls.spliced_nil ?_)
 match x,r1,q1 with
 | .int j,⟨t,ht⟩,⟨a1,a2,a3⟩=>
  subst ht
  refine call_range_1 (Calls.spliced_nil ?_)
  have I2:Inv X pins σ H1 { s1 with heap:=s1.heap.push { cls:=.type "range",data:=.fields #[.int 0 s1.toks,.int j t,.int 1 (s1.toks + 1)] },toks:=s1.toks + 1 + 1 }:=I1.kept fun b o q=>Heap.get?_push_of_some _ q
  have hsz:Builtin.Range.rangeSize 0 j 1 = ((j.toNat:Nat):Int):=by rw [rangeSize_one]; split <;> omega
  refine tokQ I2.tk (call_list_range (n:=j.toNat) (I.ok.hd hc) (IsRange.new ..) (small_one (by decide) (by decide) a1 (by omega)) hsz (by omega) fun h' tk acc c' old ho hi (htk:0 < tk)=>?_)
  exact ⟨.ref _,_,I2.laid (o:=.lst ((List.range j.toNat).map fun (i:Nat)=>V.int i)) (t':=tk) old (Nat.le_refl _) ⟨by rw [List.length_map,List.length_range,sizeLine_eq]; omega,acc.toList,c',vals_range hi,by simpa using ho⟩,rfl,a3 _ I2.fresh⟩
theorem a_cListRng {te:TE} {σ:St} {H:Hp} {Q:VK}:cListRng te σ H Q = te σ H fun x H1=>match x with
 | .int j=>-(2 ^ 62) <= j /\ j <= 10000 /\ ∀ p,H1 p = none -> Q (.ref p) (upd H1 p (.lst ((List.range j.toNat).map fun (i:Nat)=>V.int i)))
 | _=>False:=rfl
end
theorem deep_flat {K:Frag} {H:Hp} {v:V} (n:Nat) (f:flatV v = true):Deep K H n v (.f v):=by
 cases n with
 | zero=>exact ⟨rfl,f⟩
 | succ n=>exact .inl ⟨rfl,f⟩
noncomputable abbrev tx (l:List Nat):V:=V.str (st l)
section
variable {K:Frag} {g:TG} {tc:TT} {te:TE} {σc:St} {D:Addr} {Q:VK} {H:Hp}
end
section
variable {X:Cx}
end
theorem a_gSub {to ti:TE} {t:TSet} {v:V} {σ:St} {H:Hp} {Q:St -> Hp -> Prop}:gSub to ti t v σ H Q = to σ H fun o H1=>ti σ H1 fun i H2=>t o i v H2 fun H3=>Q σ H3:=rfl
theorem a_rSetL {p:Addr} {k:Int} {v:V} {H:Hp} {Q:Hp -> Prop}:rSetL (.ref p) (.int k) v H Q = ∃ xs j,H p = some (.lst xs) /\ ixN xs.length k = some j /\ Q (upd H p (.lst (xs.set j v))):=by
 refine propext ⟨?_,?_⟩
 ·rintro ⟨p',xs,k',j,e1,e2,h⟩
  cases e1
  cases e2
  exact ⟨xs,j,h⟩
 ·rintro ⟨xs,j,h⟩
  exact ⟨p,xs,k,j,rfl,rfl,h⟩
section
variable {X:Cx} {o e:Expr} {to te:TE} {apos cpos:Pos}
end
section
variable {X:Cx} {tg a b c:Expr} {ta tb tc:TE} {pos p:Pos}
end
section
variable {g:TG} {tb:TS} {D:Ends} {σ:St} {H:Hp}
end
section
variable {X:Cx} {a:Expr} {ta:TE} {p pos:Pos}
end
theorem rev_no_len:typeLookup (.type "list_reverseiterator") "__len__" = pure none:=by rw [typeLookup_type,builtinLookup_eq_fast]; kernel_rfl
theorem rev_hint_slot:typeLookup (.type "list_reverseiterator") "__length_hint__" = pure (some (.builtin "list_reverseiterator.__length_hint__")):=by rw [typeLookup_type,builtinLookup_eq_fast]; kernel_rfl
section
variable {prog:Program} {w:World} {A:Around} {E:Value -> Shared -> Prop} {s:Shared}
theorem rev_hint {I l:Addr} {i:Int} {Q:Bool -> Shared -> Prop} (hit:s.heap.IsRevIter I l i) (h:Q false s):wpAny (model prog w) A (Builtin.List.listLengthHint (.ref I)) Q E s:=by
 unfold Builtin.List.listLengthHint
 apply wpAny_bind
 apply wpAny_specialOf hit.typeIs rev_no_len
 show wpAny _ A (specialOf (Value.ref I) (Str.ofString "__length_hint__") >>= _) _ _ _
 apply wpAny_bind
 apply wpAny_specialOf hit.typeIs rev_hint_slot
 generalize hid:("list_reverseiterator.__length_hint__" : String) = id0
 wp_delta
 rw [show splitId id0 = some ("list_reverseiterator", "__length_hint__") from by subst hid; decide +kernel]
 subst hid
 apply wpAny_bind
 apply wpAny_isInstance (T := "list_reverseiterator") (b:=true) hit.typeIs (by rw [isSubtype_type]; kernel_rfl)
 refine wpAny_ite_split (fun z=>absurd z (by decide)) fun _=>?_
 refine wpAny_ite_split (fun _=>?_) fun z=>absurd (by decide +kernel) z
 refine wpAny_ite_split (fun z=>absurd z (by decide)) fun _=>?_
 exact wpAny_pure h
theorem list_of_rev {I l:Addr} {items:Array Value} {Q:Value -> Shared -> Prop} (hh:A.handled = none) (hne:l ≠ I) (hit:s.heap.IsRevIter I l ((items.size:Int) - 1)) (hl:s.heap.IsList l items) (hz:items.size <= sizeLine)
  (hQ:∀ h' tk acc c,(∀ b o,b ≠ I -> s.heap.get? b = some o -> h'.get? b = some o) -> h'.get? s.heap.objs.size = some { cls:=.type "list",dict:=none,data:=.seq acc c,slots:=#[] } ->
   ItemsOf (fun i v=>items[items.size - 1 - i]? = some v) acc items.size -> Q (.ref s.heap.objs.size) { s with heap:=h',toks:=tk }):
  wpAny (model prog w) A (call (.type "list") [.ref I]) Q E s:=by
 have W:=(Walks.listRev (prog:=prog) (w:=w) (A:=A.in1.in1) (by simp [hh]) I l hne items).toS
 have hI:I < s.heap.objs.size:=by
  obtain ⟨o,ho,_⟩:=hit
  exact Heap.lt_size ho
 have hL:l < s.heap.objs.size:=by
  obtain ⟨o,ho,_⟩:=hl
  exact Heap.lt_size ho
 apply callType_codes (Q₁:=fun obj s₁=>obj = .ref s.heap.objs.size /\ s₁ = { s with heap:=s.heap.push { cls:=.type "list",data:=.seq #[] } }) PySem.F.called_list (PySem.F.typeCall_list_1 _) PySem.F.entry_list_init (code_list_new _ ⟨rfl,rfl⟩)
 rintro obj s₁ ⟨rfl,rfl⟩
 have hS:(s.heap.push { cls:=.type "list",data:=.seq #[] }).get? s.heap.objs.size = some { cls:=.type "list",data:=.seq #[] }:=Heap.get?_push_size _ rfl
 refine ⟨⟨_,hS,rfl⟩,PySem.F.args_list_init_2 _ _,?_⟩
 change wpAny _ _ (Builtin.List.listItems (.ref s.heap.objs.size) >>= _) _ _ _
 apply wpAny_bind
 unfold Builtin.List.listItems
 apply wpAny_bind
 apply wpAny_seqItems hS rfl
 apply wpAny_pure
 change wpAny _ _ (updateSeq s.heap.objs.size (fun _=>#[]) >>= _) _ _ _
 apply wpAny_bind
 apply wpAny_updateSeq hS rfl
 have o2:=Heap.get?_update_self (Obj.mapSeq fun _=>(#[]:Array Value)) hS rfl
 have k2:∀ b o,s.heap.get? b = some o -> ((s.heap.push { cls:=.type "list",data:=.seq #[] }).update s.heap.objs.size (Obj.mapSeq fun _=>(#[]:Array Value))).get? b = some o:=fun b o e=>by
  rw [Heap.get?_update_other _ _ (Nat.ne_of_gt (Heap.lt_size e))]
  exact Heap.get?_push_of_some _ e
 generalize (s.heap.push { cls:=.type "list",data:=.seq #[] }).update s.heap.objs.size (Obj.mapSeq fun _=>(#[]:Array Value)) = H2 at o2 k2 ⊢
 apply wpAny_bind
 apply wpAny_letGo
 unfold Builtin.List.listExtendWith
 have it2:H2.IsRevIter I l ((items.size:Int) - 1):=hit.at fun o e=>k2 _ _ e
 have l2:H2.IsList l items:=hl.at fun o e=>k2 _ _ e
 apply wpAny_bind
 apply wpAny_typeOf (T := "list_reverseiterator") it2.typeIs
 refine wpAny_ite_split (fun z=>?_) fun _=>?_
 ·exfalso
  have n1:(s.heap.objs.size == I) = false:=by rw [beq_eq_false_iff_ne]; exact Nat.ne_of_gt hI
  have n2:Builtin.List.listSameRef (.ref s.heap.objs.size) (.ref I) = false:=n1
  rw [n2] at z
  exact absurd z (by decide)
 apply wpAny_bind
 apply wpAny_pyIter_revIter it2
 apply wpAny_bind
 apply wpAny_holding
 apply rev_hint it2
 refine wpAny_ite_split (fun z=>absurd z (by decide +kernel)) fun _=>?_
 apply wpAny_pure
 refine ⟨plainId_quiet PySem.F.plain_extend_loop _,?_⟩
 refine codeAny_extend_loopS W hz _ ?_ _ items.size 0 _ _ _ rfl (Nat.zero_le _) ⟨Nat.zero_le _,?_,l2⟩ o2 (ItemsOf.nil _) fun s' acc c hm hS' hacc=>?_
 ·intro z
  rcases List.mem_cons.mp z with z | z
  ·exact Nat.ne_of_gt hI z
  ·exact Nat.ne_of_gt hL (List.mem_singleton.mp z)
 ·simpa using it2
 ·rw [Moved.eq_with hm]
  refine ⟨rfl,hQ s'.heap s'.toks acc c (fun b o hb e=>hm.heap b o (fun z=>?_) (k2 b o e)) hS' hacc⟩
  rcases List.mem_cons.mp z with z | z
  ·exact Nat.ne_of_lt (Heap.lt_size e) z
  ·exact hb (List.mem_singleton.mp z)
end
section
variable {X:Cx}
noncomputable def cListRev (K:Frag) (te:TE):TE:=fun σ H Q=>te σ H fun x H1=>match x with
 | .ref a=>∃ ys,SqL K H1 a ys /\ ∀ p,H1 p = none -> Q (.ref p) (upd H1 p (.lst ys.reverse))
 | _=>False
theorem vals_rev {ys:List V} {us:List Value} (r:Vals ys us) {acc:Array Value} (h:ItemsOf (fun i v=>us.toArray[us.toArray.size - 1 - i]? = some v) acc us.toArray.size):Vals ys.reverse acc.toList:=by
 obtain ⟨hs,hi⟩:=h
 have e:acc.toList = us.reverse:=by
  apply List.ext_getElem?
  intro i
  by_cases hlt:i < us.length
  ·have h1:i < acc.size:=by rw [hs]; simpa using hlt
   have:=hi i acc[i] (by simp [h1])
   rw [List.getElem?_reverse hlt]
   simp only [List.size_toArray,List.getElem?_toArray] at this
   rw [this]
   simp [h1]
  ·rw [List.getElem?_eq_none (l:=acc.toList) (by simp [hs]; omega),List.getElem?_eq_none (by rw [List.length_reverse]; omega)]
 rw [e]
 clear e hi hs
 have app:∀ {a b:List V} {c d:List Value},Vals a c -> Vals b d -> Vals (a ++ b) (c ++ d):=fun p q=>by
  induction p with
  | nil=>exact q
  | cons r _ ih=>exact .cons r ih
 induction r with
 | nil=>exact .nil
 | cons r _ ih=>
  rw [List.reverse_cons,List.reverse_cons]
  exact app ih (.cons r .nil)
theorem qe_listrev {K:Frag} (hK:X.K = K) {e:Expr} {te:TE} {p p2 pos pos2:Pos} (hc:X.calm = true) (hg:Gl X "list") (hm:X.mg "list" = none) (hg2:Gl X "reversed") (hm2:X.mg "reversed" = none) (he:PE X e te)
  (hs:starEach [e] X.env = [(false,eval e X.env)]:=by rfl)
  (hs2:starEach [Expr.Call (.Name "reversed" p2) [e] [] pos2] X.env = [(false,eval (Expr.Call (.Name "reversed" p2) [e] [] pos2) X.env)]:=by rfl):
  PE X (.Call (.Name "list" p) [.Call (.Name "reversed" p2) [e] [] pos2] [] pos) (cListRev K te):=by
 subst hK
 intro pins s σ H Q I h
 refine wpAny_Call_Name_kw (ld_blt I hg hm bb_list ?_ (by decide) (by decide))
 refine PyProof.Rows.callWith_type1 ?_ hs2 rfl
 rw [hs2]
 show wpAny _ _ (spliced [(false,eval (Expr.Call (.Name "reversed" p2) [e] [] pos2) X.env)]) _ _ s
 refine Calls.spliced_cons ?_
 refine wpAny_Call_Name_kw (ld_blt I hg2 hm2 boot_reversed ?_ (by decide) (by decide))
 refine PyProof.Rows.callWith_type1 ?_ hs rfl
 rw [hs]
 show wpAny _ _ (spliced [(false,eval e X.env)]) _ _ s
 refine Calls.spliced_cons (thn (he pins s σ H _ I h) fun u s1 ⟨x,H1,I1,r1,q1⟩=>Calls.spliced_nil ?_)
 match x,r1,q1 with
 | .ref a,r1,⟨ys,hq,a3⟩=>
  cases r1
  obtain ⟨its,rv,pl,hz⟩:=I1.list hq
  have hl:=rv.length
  have ha:a < s1.heap.objs.size:=by
   obtain ⟨o,ho,_⟩:=pl.isList
   exact Heap.lt_size ho
  refine call_reversed_list pl.isList (Calls.spliced_nil ?_)
  refine tokQ I1.tk (list_of_rev (I1.ok.hd hc) (Nat.ne_of_lt ha) ⟨_,Heap.get?_push_size _ rfl,rfl,rfl⟩ (pl.isList.push _) (by simp only [List.size_toArray]; omega) fun h' tk acc c old ho hi (htk:0 < tk)=>?_)
  have old':∀ b o,s1.heap.get? b = some o -> h'.get? b = some o:=fun b o e=>old b o (Nat.ne_of_lt (Heap.lt_size e)) (Heap.get?_push_of_some _ e)
  have fr:H1 (s1.heap.push (revObj a ((its.toArray.size:Int) - 1))).objs.size = none:=I1.hok.fresh (by rw [Heap.size_push]; exact Nat.le_succ _)
  refine ⟨.ref _,_,I1.laid (o:=.lst ys.reverse) (t':=tk) old' (by rw [Heap.size_push]; exact Nat.le_succ _) ⟨by rw [List.length_reverse]; exact hz,acc.toList,c,vals_rev rv hi,by simpa using ho⟩,rfl,a3 _ fr⟩
theorem a_cListRev {K:Frag} {te:TE} {σ:St} {H:Hp} {Q:VK}:cListRev K te σ H Q = te σ H fun x H1=>match x with
 | .ref a=>∃ ys,SqL K H1 a ys /\ ∀ p,H1 p = none -> Q (.ref p) (upd H1 p (.lst ys.reverse))
 | _=>False:=rfl
end
end L2
namespace L2
open PySem PySem.Spec PyProof.Rows PySem.Builtin PySem.Builtin.Str
section
variable {X:Cx}
end
end L2
namespace L2
open PySem PySem.Spec PyProof.Rows
section
variable {X:Cx}
theorem ps_setC {i:Nat} {x:Str} {pos' spos:Pos} {elt tg iter:Expr} {ifs:List Expr} {scope:Scope} {pos:Pos} {wi:TI} {g:TG} {tc:TT} {te:TE} {nt:Nat} {fi:List Nat} {N':List Str} (hN:X.N.Nodup) (hi0:X.N[i]? = some x) (hx:Loc X.env.scope x) (hcalm:X.calm = true)
  (S:CScope scope) (cn:CNames X scope nt fi N') (gk:GK nt g) (hi:PI X tg iter wi)
  (hg:∀ cl C s H ex,PG (cxC X scope cl N' C s H ex) tg g) (hc:∀ cl C s H ex,PIf (cxC X scope cl N' C s H ex) ifs tc) (he:∀ cl C s H ex,PE (cxC X scope cl N' C s H ex) elt te)
  (hsw:swapsWith (.ListComp elt [⟨tg,iter,ifs,0⟩] scope pos) (some (.Name x pos')) spos.line X.env = pure true:=by rfl)
  (hs:∀ x,foldedSetIterable iter X.env x = pure x:=by intro _; rfl) (hf:X.fn x = true \/ X.env.scope.names.lookup x = some .local:=by first | exact .inl rfl | exact .inr rfl | assumption):
  PS X (.Assign [.Name x pos'] (.ListComp elt [⟨tg,iter,ifs,0⟩] scope pos) spos) (tAsg (cComp nt fi wi g tc te) (gName i)):=by
 intro pins s σ H D I h
 have hfr:∀ y ∈ scope.names,y.2 = .free -> ∃ c,X.env.cells.lookup y.1 = some c:=fun y hy e=>I.ok.has y.1 (cn.fre y hy e)
 rw [exec_Assign_Name_used _ _ _ _ hsw]
 refine wpAny_bind (wpAny_standAt (wpAny_bind ?_))
 change wpAny _ X.A (do let _ <- comprehension (.ListComp elt [⟨tg,iter,ifs,0⟩] scope pos) scope X.env _ (newList []) false (eval iter X.env) (some (assign (.Name x pos') X.env))) _ _ s
 refine wpAny_bind (thn (Q:=fun _ s'=>∃ σ' H',Inv X pins σ' H' s' /\ D.nx σ' H') ?_ fun _ s' q=>wpAny_pure (wpAny_pure q))
 refine wpAny_comprehension_free (use:=some (assign (.Name x pos') X.env)) rfl hs (closureFor_some hfr) S.kind S.loc (thn (hi pins s σ H _ I h) fun v s1 h1=>thn h1 fun itv s2 h2=>?_)
 obtain ⟨it,fp,tn,J,H2,e,I2,T,st2,f2,hW⟩:=h2
 subst e
 have fD:H2 s2.heap.objs.size = none:=I2.hok.fresh (Nat.le_refl _)
 obtain ⟨W,⟨m0,w0⟩,turn⟩:=hW s2.heap.objs.size fD
 refine wpAny_newObj_type (wpAny_newFunctionEnv S.nocell (by intro y hy; simp at hy) (fun h₁ hns₁ hsb₁=>?_) S.kind)
 have I3:Inv X pins σ (upd H2 s2.heap.objs.size (.lst [])) { s2 with heap:=s2.heap.push { cls:=.type "list",dict:=none,data:=.seq ([]:List Value).toArray } }:=I2.lnew (its:=[]) (t':=s2.toks) .nil (Nat.zero_le _)
 generalize hs3:({ s2 with heap:=s2.heap.push { cls:=.type "list",dict:=none,data:=.seq ([]:List Value).toArray } }:Shared) = s3 at I3 hns₁ hsb₁ ⊢
 have hsz:s3.heap.objs.size = s2.heap.objs.size + 1:=by rw [<- hs3]; exact Heap.size_push ..
 have ob2:∀ b ∈ fp,∃ o,s3.heap.get? b = some o:=fun b hb=>by
  obtain ⟨o,e,_⟩:=T.obj _ _ st2 b hb
  rw [<- hs3]
  exact ⟨o,Heap.get?_push_of_some _ e⟩
 have f3:∀ b ∈ fp,FpOk X pins (upd H2 s2.heap.objs.size (.lst [])) b:=fun b hb=>by
  obtain ⟨o,e,_⟩:=T.obj _ _ st2 b hb
  refine ⟨?_,(f2 b hb).2⟩
  rw [upd_ne (Nat.ne_of_lt (Heap.lt_size e))]
  exact (f2 b hb).1
 have kp:∀ b o,s3.heap.get? b = some o -> h₁.get? b = some o:=fun b o e=>hsb₁.extBut b o (Nat.ne_of_lt (Heap.lt_size e)) (Heap.get?_push_of_some _ e)
 have st3:tn 0 h₁:=T.keep _ _ _ st2 fun b _ o e=>kp b o (by rw [<- hs3]; exact Heap.get?_push_of_some _ e)
 have J4:Inv (cxC X scope (clOf X.env.cells scope.names []) N' s3.heap.objs.size s3 (upd H2 s2.heap.objs.size (.lst [])) fp) (X.pn ++ pins) (compσ nt fi σ) (upd H2 s2.heap.objs.size (.lst [])) { s3 with heap:=h₁,toks:=s3.toks + ([]:List (Str × Value)).length }:=
  inv_comp I3 S cn f3 ob2 hns₁ kp I3.tk
 generalize hcl:clOf X.env.cells scope.names [] = cl at J4 ⊢
 generalize hH3:upd H2 s2.heap.objs.size (.lst []) = H3 at J4 I3 f3 w0
 have stat:∀ {H':Hp},(∀ b ∈ fp,H' b = none) -> ∀ b ∈ fp,FpOk (cxC X scope cl N' s3.heap.objs.size s3 H3 fp) (X.pn ++ pins) H' b:=fun {H'} hn b hb=>by
  obtain ⟨g0,g1,g2,g3,g4,g5⟩:=f3 b hb
  have ok:=J4.ok
  refine ⟨hn b hb,(ok.exf b hb).1,ok.exfs b hb,.inl hb,(ok.exf b hb).2,fun p hp=>g5 p ?_⟩
  have hp':p ∈ ([]:List (Addr × Obj)) ++ (X.pn ++ pins):=hp
  simpa using hp'
 have loop:∀ s₃:Shared,s₃ = { s3 with heap:=h₁,toks:=s3.toks + ([]:List (Str × Value)).length } ->
   codeAny (model X.prog X.w) X.A (.compLoop (.ListComp elt [⟨tg,iter,ifs,0⟩] scope pos) 0 (.ref it) (.ref s2.heap.objs.size) (compEnvC scope cl s3.heap.objs.size X.env))
    (compPost (model X.prog X.w) X.A X.xe (some (assign (.Name x pos') X.env)) (fun _ s'=>∃ σ' H',Inv X pins σ' H' s' /\ D.nx σ' H') (.ref s2.heap.objs.size) s3.heap.objs.size) s₃:=by
  rintro s₃ rfl
  refine compLoop_any (fun n s'=>∃ i acc H',Inv (cxC X scope cl N' s3.heap.objs.size s3 H3 fp) (X.pn ++ pins) (compσ nt fi σ) H' s' /\ tn i s'.heap /\ (∀ b ∈ fp,H' b = none) /\ W i n acc H') ?_ m0
   ⟨0,[],H3,J4,st3,fun b hb=>(f3 b hb).1,w0⟩
  rintro n s5 ⟨ii,acc,H5,I5,st5,fr5,w5⟩
  rcases turn ii n acc H5 w5 with ⟨stop,qn⟩ | ⟨go,step⟩
  ·refine thn (T.done (cxC X scope cl N' s3.heap.objs.size s3 H3 fp) rfl rfl rfl hcalm ii (X.pn ++ pins) s5 (compσ nt fi σ) H5 (fun _ _=>False) I5 (stat fr5) st5 stop) fun r s6 ⟨hr,I6⟩=>?_
   subst hr
   obtain ⟨m6,hn6,_⟩:=I6.loc
   have I7:Inv X pins σ H5 s6:=inv_back I3 f3 (Nat.le_refl _) I6 (Heap.SameBut.refl _ s6.heap)
   have fC:FpOk X pins H5 s3.heap.objs.size:=I3.fpOk (Nat.le_refl _) I6.free
   obtain ⟨c0,c1,c2,c3,c4,c5⟩:=fC
   refine wpAny_assign_Name (store_ok2 I7 hN hi0 hx (v:=.ref s2.heap.objs.size) rfl (fun s8 I8 ⟨a,sb,ha⟩=>?_) hf)
   have na:a ≠ s3.heap.objs.size:=by
    rcases ha with rfl | ha
    ·exact c1.symm
    ·exact c4 x a ha
   refine ⟨m6,hn6.sameBut sb na.symm,fun h' sb'=>⟨_,H5,?_,qn⟩⟩
   exact I8.turned (t':=s8.toks) (fun b o nb e=>(sb'.2 b nb).trans e) c0 c1 c3 c4 c5
  ·refine thn (T.item (cxC X scope cl N' s3.heap.objs.size s3 H3 fp) rfl rfl rfl hcalm ii (X.pn ++ pins) s5 (compσ nt fi σ) H5 (fun _ _=>False) I5 (stat fr5) st5 go) fun r s6 ⟨u,hr,h6⟩=>?_
   subst hr
   refine thn h6 fun _ s7 ⟨y,H7,I7,r7,y7,st7,fr7⟩=>?_
   have I7':=I7.pinned (stat fr7) (T.obj _ _ st7)
   refine thn (hg _ _ _ _ _ _ s7 (compσ nt fi σ) H7 y u _ I7' r7 (gk _ _ _ _ (step y H7 y7))) fun _ s8 ⟨σ8,H8,I8,q8,l8,d8⟩=>?_
   refine thn (hc _ _ _ _ _ _ s8 σ8 H8 _ I8 q8) fun b s9 ⟨H9,I9,q9⟩=>?_
   have again:∀ {s':Shared} {H':Hp} {m':Nat} {acc':List V},Inv (cxC X scope cl N' s3.heap.objs.size s3 H3 fp) ((X.pn ++ pins) ++ pinsAt fp s7.heap) σ8 H' s' -> m' < n -> W (ii + 1) m' acc' H' ->
     ∃ m,m < n /\ ∃ i acc H',Inv (cxC X scope cl N' s3.heap.objs.size s3 H3 fp) (X.pn ++ pins) (compσ nt fi σ) H' s' /\ tn i s'.heap /\ (∀ b ∈ fp,H' b = none) /\ W i m acc H':=fun {s' H' m' acc'} I' hm w'=>by
    refine ⟨m',hm,ii + 1,acc',H',I'.unpinned.weak l8.symm (compσ_weak l8 d8),T.keep _ _ _ st7 fun b hb o e=>(I'.pin (b,o) (List.mem_append_right _ (List.mem_append_right _ (mem_pinsAt hb e)))).1,fun b hb=>?_,w'⟩
    obtain ⟨o,e,d⟩:=T.obj _ _ st7 b hb
    exact (I'.pin (b,o) (List.mem_append_right _ (List.mem_append_right _ (mem_pinsAt hb e)))).2.1
   cases b with
   | false=>
    rw [if_neg Bool.false_ne_true] at q9 ⊢
    obtain ⟨m',hm,w'⟩:=q9
    exact again I9 hm w'
   | true=>
    rw [if_pos rfl] at q9 ⊢
    refine thn (he _ _ _ _ _ _ s9 σ8 H9 _ I9 q9) fun uv s10 ⟨v10,H10,I10,r10,hD,hlt,m',hm,w'⟩=>?_
    refine thn (mt_append (X:=cxC X scope cl N' s3.heap.objs.size s3 H3 fp) _ s10 σ8 H10 (.ref s2.heap.objs.size) [v10] (.ref s2.heap.objs.size) [uv] (fun _ H'=>H' = upd H10 s2.heap.objs.size (.lst (acc ++ [v10]))) I10 rfl (.cons r10 .nil) ⟨_,acc,v10,rfl,rfl,hD,hlt,rfl⟩) fun _ s11 ⟨_,H11,I11,_,e11⟩=>?_
    subst e11
    exact again I11 hm w'
 exact codeAny_compStart_list (loop _ rfl) (T.self _ 0 _ _ _ st3 (loop _ rfl))
end
structure Fly (P:Program) (w:World) (outer:List Env) (H H':Hp) (h h':Heap) (ea C:Addr):Prop where
 un:Un (frs outer) [] H H' h h'
 hok:HOk P w H' h'
 new:∀ b o,h.get? b = some o -> b ≠ ea
 fr:H' ea = none
 fl:∃ B a0,Heap.FlyingW B outer ea (.ref C) a0 h' /\ ∀ b,((∃ o,h.get? b = some o) /\ b ∉ frs outer) \/ H' b ≠ none -> ∃ o,B.get? b = some o
noncomputable def XR (P:Program) (w:World):CXT:=fun outer H s E e s'=>
 ∃ ea C H',e = .ref ea /\ 0 < s'.toks /\ s'.os = s.os /\ AllBare s'.gens /\ Fly P w outer H H' s.heap s'.heap ea C /\ E (.ref C) none H'
theorem Fly.on {P:Program} {w:World} {outer:List Env} {H H':Hp} {h h' h2:Heap} {ea C:Addr} (F:Fly P w outer H H' h h' ea C) {B:Heap} {a0:Value}
  (fl1:Heap.FlyingW B outer ea (.ref C) a0 h') (inB:∀ b,((∃ o,h.get? b = some o) /\ b ∉ frs outer) \/ H' b ≠ none -> ∃ o,B.get? b = some o)
  (ff:∀ b ∈ frs outer,H b = none) (fl2:Heap.FlyingW B outer ea (.ref C) a0 h2) (up:h'.UpToSlots h2):Fly P w outer H H' h h2 ea C:=by
 have same:∀ b o,((∃ o,h.get? b = some o) /\ b ∉ frs outer) \/ H' b ≠ none -> h'.get? b = some o -> h2.get? b = some o:=fun b o hb e=>by
  obtain ⟨o',eB⟩:=inB b hb
  have e1:=fl1.1 b o' eB
  rw [e] at e1; cases e1
  exact fl2.1 b o eB
 have sl:∀ b o,b ∈ frs outer -> h'.get? b = some o -> ∃ sl,h2.get? b = some { o with slots:=sl }:=fun b o hb e=>by
  obtain ⟨_,o',ho',hd⟩:=fl1.2.2.1.mem hb
  rw [e] at ho'; cases ho'
  exact up b o e hd
 refine ⟨⟨fun b o e n hf hx=>same b o (.inl ⟨⟨o,e⟩,hf⟩) (F.un.keep b o e n hf hx),fun b o e n hf hx=>?_,F.un.free,fun b o e hx=>?_,F.un.tups,F.un.frzs,F.un.tbls⟩,fun a o e=>?_,F.new,F.fr,B,a0,fl2,inB⟩
 ·obtain ⟨s1,e1⟩:=F.un.slot b o e n hf hx
  obtain ⟨s2,e2⟩:=sl b _ hf e1
  exact ⟨s2,e2⟩
 ·obtain ⟨o1,e1⟩:=F.un.there b o e hx
  by_cases hf:b ∈ frs outer
  ·obtain ⟨s2,e2⟩:=sl b _ hf e1
   exact ⟨_,e2⟩
  ·exact ⟨o1,same b o1 (.inl ⟨⟨o,e⟩,hf⟩) e1⟩
 ·refine (F.hok a o e).stay (fun b u hb q=>same b u (.inr ?_) q) (fun _ q=>q) fun _ _ q=>q
  rcases hb with rfl | hb
  ·rw [e]; simp
  ·rw [hb]; simp
section
variable {X:Cx} {pins:List (Addr × Obj)} {σ:St} {H:Hp} {s:Shared}
end
section
variable {P:Program} {w:World} {K:Frag} {mg:Str -> Option Value} {base:Heap} {N:List Str} {qual:Str} {scope:Scope} {f:Addr} {cd:Value} {A:Around} {outer:List Env} {s₀:Shared} {H₀:Hp} {E:XK}
end
noncomputable abbrev bmV:List Value:=[.type "ValueError",.type "Exception",.type "BaseException",.type "object"]
structure XCl (K:Frag) (C:Addr):Prop where
 ex:PySem.W.excIn K C bmV "ValueError.__new__" = true
 ty:PySem.W.typeIn K (.ref C) = some (.type "type")
 mb:PySem.W.mroIn K C (.type "BaseException") = some true
 ga:findIn K (.ref C) "__getattribute__" = some (some (.builtin "BaseException.__getattribute__"))
 gh:findIn K (.ref C) "__getattr__" = some none
 ca:findIn K (.ref C) "__class__" = some (some (.builtin "object.__class__"))
 gt:PySem.W.specialIn K (.builtin "object.__class__") "__get__" = some (some (.builtin "getset_descriptor.__get__"))
 tk:PySem.W.takesIn K (.builtin "object.__class__") = some true
 mo:PySem.W.mroIn K C (.type "object") = some true
theorem XCl.own {K:Frag} {h:Heap} {C:Addr} (c:XCl K C) (X:K.In h):OwnCls "x" C bmV "ValueError.__new__" (fun _=>some (.ref C)) h:=by
 have q:=c.ex
 refine ⟨rfl,?_⟩
 revert q
 unfold PySem.W.excIn
 rcases hk:K.lookup C with _ | ⟨oc,odd,oda,osl⟩
 ·intro q; cases q
 ·intro q
  split at q
  case h_2=>cases q
  case h_1 dd cdt sl eo=>
   cases eo
   split at q
   case h_2=>cases q
   case h_1 C' bm a0 a1 a2 a3 n a5 em es=>
    simp only [Bool.and_eq_true,beq_iff_eq,Bool.not_eq_true'] at q
    obtain ⟨⟨⟨⟨⟨e1,e2⟩,e3⟩,e4⟩,e5⟩,e6⟩:=q
    subst e1 e2
    obtain ⟨f1,f2,f3,f4,f5,f6,f7,f8,f9,f10,f11⟩:=cdt
    dsimp only at em e3 e5 e6
    subst em e3
    have el:osl = #[a0,a1,a2,a3,some (.builtin "ValueError.__new__"),a5]:=by
     rcases osl with ⟨l⟩
     simp only at es
     rw [es]
    subst el
    exact ⟨bm,f4,f1,f5,f2,f6,f7,f8,f9,f10,odd,a0,a1,a2,a3,a5,_,X _ _ hk,.of_isNs (PySem.W.isNs_of_in X e5),PySem.W.nsMap_none_of_in X e5 e6,PySem.W.tail_of_in X e4⟩
section
variable {X:Cx} {x:Str} {C:Addr} {np cpos pos:Pos} {e:Expr} {es:List Expr} {t:TA} {E:XK}
end
section
variable {K:Frag} {M:Model} {h:Heap} {C D e:Addr}
end
section
variable {X:Cx} {W:St -> XK} {p pins:List (Addr × Obj)} {σ:St} {H:Hp} {s:Shared}
end
section
variable {X:Cx} {CX:CXT} {k:Nat} {f:Addr} {fd:FuncData} {ps:List Str} {sp:Sp} {dvs:List V} {ds:List Value} {W:St -> XK} {x:Str} {p pos:Pos} {e:Expr} {es:List Expr} {t:TA}
end
noncomputable def XO (C ea:Addr):HO:=.ext fun h=>∃ o,h.get? ea = some o /\ o.cls = .ref C
theorem XO.ok {P:Program} {w:World} {H:Hp} {h:Heap} {C ea:Addr} (e:∃ o,h.get? ea = some o /\ o.cls = .ref C):ObjOk P w H h ea (XO C ea):=
 ⟨e,let ⟨o,e1,_⟩:=e; ⟨o,e1⟩,fun _ _ ⟨o,e1,e2⟩ k=>⟨o,k o e1,e2⟩⟩
structure Caught (K:Frag) (C D:Addr):Prop where
 sub:PySem.W.mroIn K C (.ref D) = some true
end L2
namespace L2
open PySem PySem.Spec PySem.Calls PyProof.Rows PySem.W Builtin Builtin.ObjectAttr Builtin.Getset_descriptor
section
variable {prog:Program} {w:World} {A:Around} {E:Value -> Shared -> Prop} {K:Frag} {x C:Addr} {o:Obj} {h:Heap} {g:Array GenState} {d:Drawn} {t:Nat} {os:OsState}
end
section
variable {X:Cx} {pins:List (Addr × Obj)} {σ:St} {H:Hp} {s:Shared}
end
end L2
namespace L2
open PySem PySem.Spec PyProof.Rows
def CalleeX (P:Program) (w:World) (K:Frag) (mg:Str -> Option Value) (base:Heap) (k:Nat) (x:Str) (ps:List Str) (sp:Sp):Prop:=
 ∃ f fd,FnOk P w K mg base (XR P w) k f fd ps sp /\ Binds K fd ps [] /\ keepIn K (.ref f) = true /\ mg x = some (.ref f)
section
variable {X:Cx} {k:Nat} {x:Str} {ps:List Str} {sp:Sp} {p pos:Pos} {e:Expr} {es:List Expr} {t:TA} {E:XK} {W:St -> XK}
theorem CalleeX.calm {P:Program} {w:World} {K:Frag} {mg:Str -> Option Value} {base:Heap} {k:Nat} {x:Str} {ps:List Str} {sp:Sp} (C:CalleeX P w K mg base k x ps sp):
  Callee P w K mg base k x ps (fun vs H Q _=>sp vs H Q E0):=by
 obtain ⟨f,fd,F,b,kp,m⟩:=C
 refine ⟨f,fd,⟨fun vs H Q _ h=>F.len vs H Q E0 h,fun A outer s H args us vs Q E hr e0 hb hv h=>?_⟩,b,kp,m⟩
 refine codeAny_mono (F.run A outer s H args us vs Q E0 hr e0 hb hv h) fun r s' q=>?_
 rcases r with er | fl
 ·obtain ⟨_,_,_,_,_,_,_,_,z⟩:=q
  exact z.elim
 ·cases fl with
  | ret u=>exact q
  | _=>exact q.elim
end
theorem PS.nox {X:Cx} {st:Stmt} {t:TS} (h:PS X.nox st t):PS X st t:=fun pins s σ H D I hw=>
 wpAny_mono (h pins s σ H D (I.wish _) hw) (fun _ _ q=>q.unwish) fun _ _ z=>z.elim
theorem PS.calm {X:Cx} {st:Stmt} {t:TS} (h:PS X.nox st t):PS X st t:=PS.nox h
section
variable {X:Cx} {a c:Expr} {es:List Expr} {ta:TE} {pos p tpos:Pos} {x1:Nat}
end
noncomputable abbrev TJ:=Nat -> St -> Hp -> (Hp -> Prop) -> Prop
section
variable {X:Cx} {e v1 v2:Expr} {es rest:List Expr} {te:TE} {tj:TJ} {pos:Pos}
end
noncomputable def xA (K:Frag) (x:Str):Addr:=match nsIn K mainGlobals x with
 | some (some (.ref a))=>a
 | _=>0
theorem xA_eq {K:Frag} {x:Str} {C:Addr} (e:nsIn K mainGlobals x = some (some (.ref C))):xA K x = C:=by unfold xA; rw [e]
def Xn (K:Frag) (mg:Str -> Option Value) (x:Str):Prop:=mg x = some (.ref (xA K x)) /\ XCl K (xA K x)
def Xm (K:Frag) (x y:Str) (b:Bool):Prop:=PySem.W.mroIn K (xA K x) (.ref (xA K y)) = some b /\ (b = false -> xA K x ≠ xA K y)
theorem Xm.caught {K:Frag} {x y:Str} (m:Xm K x y true):Caught K (xA K x) (xA K y):=⟨m.1⟩
section
variable {K:Frag} {h:Heap} {mg:Str -> Option Value} {x y:Str} {C D:Addr}
end
end L2
namespace L2
open PySem PySem.Spec PyProof.Rows PySem.Builtin PySem.Builtin.Str
section
variable {X:Cx}
end
end L2
namespace L2
open PySem PySem.Spec PyProof.Rows
section
variable {K:Frag} {g:TG} {tc:TT} {te:TE} {σc:St} {D:Addr} {Q:VK} {H:Hp}
theorem paired_snoc' {α β:Type} {F:α -> β -> Prop} {l:List α} {m:List β} {x:α} {y:β} (h:Paired F l m) (r:F x y):Paired F (l ++ [x]) (m ++ [y]):=by
 induction h with
 | nil=>exact .cons r .nil
 | cons r' _ ih=>exact .cons r' ih
end
structure RoomH (k:Nat) (A:Around):Prop where
 dp:A.depth + 3 * k + 5 < recursionLimit
 un:A.units + 16 * k + 200 < cLine
theorem Room.h {k:Nat} {A:Around} (r:Room k A):RoomH k A:=⟨r.dp,r.un⟩
theorem RoomH.mono {j k:Nat} {A:Around} (r:RoomH k A) (h:j <= k):RoomH j A:=⟨by have:=r.dp; omega,by have:=r.un; omega⟩
structure FnOkH (P:Program) (w:World) (K:Frag) (mg:Str -> Option Value) (base:Heap) (k:Nat) (f:Addr) (fd:FuncData) (ps:List Str) (sp:Sp):Prop where
 len:∀ vs H Q E,sp vs H Q E -> vs.length = ps.length
 run:∀ (A:Around) (outer:List Env) (s:Shared) (H:Hp) (args:Args) (us:List Value) (vs:List V) (Q:VK) (E:XK),RoomH k A -> Env0 P w K mg base A outer s H -> BindsTo s fd args (ps.zip us) -> Vals vs us -> sp vs H Q E ->
  codeAny (model P w) A (.call (.ref f) args) (CR CX0 outer P w H s Q E) s
section
variable {X:Cx} {k:Nat} {x:Str} {ps:List Str} {sp:Sp} {p pos:Pos} {e:Expr} {es:List Expr} {t:TA}
end
section
variable {κ:Type} [DecidableEq κ]
noncomputable def valV (kvs:List (κ × V)) (k:κ):Option V:=(kvs.find? fun kv=>decide (kv.1 = k)).map (·.2)
noncomputable def putK (kvs:List (κ × V)) (k:κ) (v:V):List (κ × V):=
 if (kvs.any fun kv=>decide (kv.1 = k)) = true then kvs.map (fun kv=>if kv.1 = k then (kv.1,v) else kv) else kvs ++ [(k,v)]
noncomputable def dropK (kvs:List (κ × V)) (k:κ):List (κ × V):=kvs.filter fun kv=>decide (kv.1 ≠ k)
theorem valV_pos {p:κ × V} {r:List (κ × V)} {k:κ} (e:p.1 = k):valV (p :: r) k = some p.2:=by simp [valV,List.find?_cons,e]
theorem valV_neg {p:κ × V} {r:List (κ × V)} {k:κ} (e:¬ p.1 = k):valV (p :: r) k = valV r k:=by simp [valV,List.find?_cons,e]
theorem valV_any (k:κ):∀ kvs:List (κ × V),(kvs.any fun kv=>decide (kv.1 = k)) = (valV kvs k).isSome
 | []=>rfl
 | p :: r=>by
  rw [List.any_cons]
  by_cases e:p.1 = k
  ·simp only [valV_pos e,decide_eq_true e,Bool.true_or,Option.isSome_some]
  ·rw [valV_neg e,decide_eq_false e,Bool.false_or]; exact valV_any k r
theorem length_putK (kvs:List (κ × V)) (k:κ) (v:V):(putK kvs k v).length <= kvs.length + 1:=by
 unfold putK
 split
 ·rw [List.length_map]; omega
 ·rw [List.length_append,List.length_cons,List.length_nil]; omega
theorem RelO.isSome_eq {o:Option V} {u:Option Value} (r:RelO o u):o.isSome = u.isSome:=by
 cases o with
 | none=>cases u with
  | none=>rfl
  | some _=>exact (show False from r).elim
 | some _=>cases u with
  | none=>exact (show False from r).elim
  | some _=>rfl
theorem RelO.getD {o:Option V} {u:Option Value} {d:V} {d':Value} (r:RelO o u) (rd:RelV d d'):RelV (o.getD d) (u.getD d'):=by
 cases o with
 | none=>cases u with
  | none=>exact rd
  | some _=>exact (show False from r).elim
 | some _=>cases u with
  | none=>exact (show False from r).elim
  | some _=>exact r
theorem KV.val {kvs:List (κ × V)} {vs:List (κ × Value)} (r:KV kvs vs) (k:κ):RelO (valV kvs k) (valueAt vs k):=by
 unfold KV at r
 induction r with
 | nil=>exact True.intro
 | @cons p q ps qs h t ih=>
  obtain ⟨h1,h2⟩:=h
  by_cases e:p.1 = k
  ·have e':q.1 = k:=h1.symm.trans e
   have b:valueAt (q :: qs) k = some q.2:=by simp [valueAt,List.find?_cons,e']
   rw [valV_pos e,b]; exact h2
  ·have e':¬ q.1 = k:=fun z=>e (h1.trans z)
   have b:valueAt (q :: qs) k = valueAt qs k:=by simp [valueAt,List.find?_cons,e']
   rw [valV_neg e,b]; exact ih
theorem KV.any {kvs:List (κ × V)} {vs:List (κ × Value)} (r:KV kvs vs) (k:κ):(kvs.any fun kv=>decide (kv.1 = k)) = vs.any fun kv=>decide (kv.1 = k):=by
 unfold KV at r
 induction r with
 | nil=>rfl
 | cons h t ih=>rw [List.any_cons,List.any_cons,ih,h.1]
theorem KV.repl {kvs:List (κ × V)} {vs:List (κ × Value)} (r:KV kvs vs) (k:κ) {y:V} {u:Value} (ry:RelV y u):
  KV (kvs.map fun kv=>if kv.1 = k then (kv.1,y) else kv) (vs.map fun kv=>if kv.1 = k then (kv.1,u) else kv):=by
 unfold KV at r ⊢
 induction r with
 | nil=>exact .nil
 | @cons p q ps qs h t ih=>
  rw [List.map_cons,List.map_cons]
  refine .cons ?_ ih
  obtain ⟨h1,h2⟩:=h
  by_cases e:p.1 = k
  ·rw [if_pos e,if_pos (h1.symm.trans e)]; exact ⟨h1,ry⟩
  ·rw [if_neg e,if_neg (fun z=>e (h1.trans z))]; exact ⟨h1,h2⟩
theorem KV.put {kvs:List (κ × V)} {vs:List (κ × Value)} (r:KV kvs vs) (k:κ) {y:V} {u:Value} (ry:RelV y u):KV (putK kvs k y) (stored vs k u):=by
 unfold putK stored
 rw [r.any k]
 by_cases e:(vs.any fun kv=>decide (kv.1 = k)) = true
 ·rw [if_pos e,if_pos e]; exact r.repl k ry
 ·rw [if_neg e,if_neg e]; exact Paired.snoc r ⟨rfl,ry⟩
theorem KV.drop {kvs:List (κ × V)} {vs:List (κ × Value)} (r:KV kvs vs) (k:κ):KV (dropK kvs k) (without vs k):=by
 unfold KV at r ⊢
 unfold dropK without
 induction r with
 | nil=>exact .nil
 | @cons p q ps qs h t ih=>
  obtain ⟨h1,h2⟩:=h
  rw [List.filter_cons,List.filter_cons]
  by_cases e:p.1 = k
  ·have a:¬ decide (p.1 ≠ k) = true:=by simp [e]
   have b:¬ decide (q.1 ≠ k) = true:=by simp [h1.symm.trans e]
   rw [if_neg a,if_neg b]; exact ih
  ·have e':¬ q.1 = k:=fun z=>e (h1.trans z)
   have a:decide (p.1 ≠ k) = true:=by simp [e]
   have b:decide (q.1 ≠ k) = true:=by simp [e']
   rw [if_pos a,if_pos b]; exact .cons ⟨h1,h2⟩ ih
theorem KV.keys {kvs:List (κ × V)} {vs:List (κ × Value)} (r:KV kvs vs):kvs.map (·.1) = vs.map (·.1):=by
 unfold KV at r
 induction r with
 | nil=>rfl
 | cons h t ih=>rw [List.map_cons,List.map_cons,ih,h.1]
theorem KV.length {kvs:List (κ × V)} {vs:List (κ × Value)} (r:KV kvs vs):kvs.length = vs.length:=Paired.length r
end
theorem kV_is {P:Program} {w:World} {k:Key} {u:Value} (r:RelV (kV k) u):(mixKind P w).is k u = true:=by
 cases k with
 | inl i=>obtain ⟨t,e⟩:=(show ∃ t,u = Value.int i t from r); subst e; exact mixKind_int P w i t
 | inr x=>obtain ⟨t,e⟩:=(show ∃ t,u = Value.str x t from r); subst e; exact mixKind_str P w x t
theorem items_are {P:Program} {w:World}:∀ {ks:List Key} {us:List Value},Vals (ks.map kV) us -> ItemsAre (mixKind P w) ks us
 | [],_,r=>by rw [List.map_nil] at r; cases r; exact .nil
 | k :: ks,_,r=>by
  rw [List.map_cons] at r
  cases r with
  | cons h t=>exact .cons (kV_is h) (items_are t)
noncomputable abbrev KT (H:Hp):List (List Key × V) -> List (List Key × Addr × Value) -> Prop:=Paired fun p q=>p.1 = q.1 /\ H q.2.1 = some (.tup (p.1.map kV)) /\ RelV p.2 q.2.2
theorem KT.val {H:Hp} {kvs:List (List Key × V)} {xs:List (List Key × Addr × Value)} (r:KT H kvs xs) (k:List Key):RelO (valV kvs k) ((atKey xs k).map (·.2)):=by
 induction r with
 | nil=>exact True.intro
 | @cons p q ps qs h t ih=>
  obtain ⟨h1,_,h2⟩:=h
  by_cases e:p.1 = k
  ·have e':q.1 = k:=h1.symm.trans e
   have b:atKey (q :: qs) k = some q.2:=by simp [atKey,List.find?_cons,e']
   rw [valV_pos e,b]; exact h2
  ·have e':¬ q.1 = k:=fun z=>e (h1.trans z)
   have b:atKey (q :: qs) k = atKey qs k:=by simp [atKey,List.find?_cons,e']
   rw [valV_neg e,b]; exact ih
theorem KT.repl {H:Hp} {kvs:List (List Key × V)} {xs:List (List Key × Addr × Value)} (r:KT H kvs xs) (k:List Key) {y:V} {u:Value} (ry:RelV y u):
  KT H (kvs.map fun kv=>if kv.1 = k then (kv.1,y) else kv) (xs.map (putAt k u)):=by
 induction r with
 | nil=>exact .nil
 | @cons p q ps qs h t ih=>
  rw [List.map_cons,List.map_cons]
  refine .cons ?_ ih
  obtain ⟨h1,h2,h3⟩:=h
  unfold putAt
  by_cases e:p.1 = k
  ·rw [if_pos e,if_pos (h1.symm.trans e)]; exact ⟨h1,h2,ry⟩
  ·rw [if_neg e,if_neg (fun z=>e (h1.trans z))]; exact ⟨h1,h2,h3⟩
theorem KT.put {H:Hp} {kvs:List (List Key × V)} {xs:List (List Key × Addr × Value)} (r:KT H kvs xs) (k:List Key) {b:Addr} {y:V} {u:Value} (hb:H b = some (.tup (k.map kV))) (ry:RelV y u):
  KT H (putK kvs k y) (storedH xs k b u):=by
 have e:(kvs.any fun kv=>decide (kv.1 = k)) = (atKey xs k).isSome:=by
  rw [valV_any,(r.val k).isSome_eq,Option.isSome_map]
 unfold putK storedH
 rw [e]
 by_cases q:(atKey xs k).isSome = true
 ·rw [if_pos q,if_pos q]; exact r.repl k ry
 ·rw [if_neg q,if_neg q]; exact Paired.snoc r ⟨rfl,hb,ry⟩
theorem KT.keeps {H H':Hp} {kvs:List (List Key × V)} {xs:List (List Key × Addr × Value)} (r:KT H kvs xs) (ht:∀ b ys,H b = some (.tup ys) -> H' b = some (.tup ys)):KT H' kvs xs:=
 Paired.mapP r fun _ _ z=>⟨z.1,ht _ _ z.2.1,z.2.2⟩
section
variable {P:Program} {w:World} {H:Hp} {h:Heap} {a:Addr}
theorem rd_of {u:HO} (ok:HOk P w H h) (e:Rd H a u):ObjOk P w H h a u:=e.ok ok
theorem dk_rd {kvs:List (Key × V)} (ok:HOk P w H h) (e:Rd H a (.dK kvs)):kvs.length <= sizeLine /\ (a == sysModules) = false /\ ∃ vs,KV kvs vs /\ h.DictOf (mixKind P w) a vs:=
 show ObjOk P w H h a (.dK kvs) from rd_of ok e
theorem dk_of {kvs:List (Key × V)} (ok:HOk P w H h) (e:H a = some (.dK kvs)):kvs.length <= sizeLine /\ (a == sysModules) = false /\ ∃ vs,KV kvs vs /\ h.DictOf (mixKind P w) a vs:=dk_rd ok (.inl e)
theorem key_of {ks:List Key} (ok:HOk P w H h) (e:H a = some (.tup (ks.map kV))):(tupleKind (mixKind P w)).is h ks a:=by
 obtain ⟨_,its,r,o,h1,h2,n,h3⟩:=(show ObjOk P w H h a (.tup (ks.map kV)) from ok a _ e)
 exact ⟨o,its.toArray,n,h1,h2,h3,by simpa using items_are r⟩
theorem dt_rd {kvs:List (List Key × V)} (ok:HOk P w H h) (e:Rd H a (.dT kvs)):kvs.length <= sizeLine /\ (a == sysModules) = false /\
  ∃ xs,KT H kvs xs /\ h.DictOfH (tupleKind (mixKind P w)) a xs:=by
 obtain ⟨z,y,xs,r,o,es,ep,h1,h2,h3,h4,h5⟩:=(show ObjOk P w H h a (.dT kvs) from rd_of ok e)
 refine ⟨z,y,xs,r,o,es,ep,h1,h2,h3,h4,fun x hx=>?_,h5⟩
 have all:∀ {l:List (List Key × V)} {m:List (List Key × Addr × Value)},KT H l m -> ∀ x ∈ m,(tupleKind (mixKind P w)).is h x.1 x.2.1:=by
  intro l m q
  induction q with
  | nil=>intro x hx; exact nomatch hx
  | @cons p q ps qs hq t ih=>
   intro x hx
   rcases List.mem_cons.mp hx with e | hx
   ·subst e
    exact key_of ok (by rw [<- hq.1]; exact hq.2.1)
   ·exact ih x hx
 exact all r x hx
theorem dt_of {kvs:List (List Key × V)} (ok:HOk P w H h) (e:H a = some (.dT kvs)):kvs.length <= sizeLine /\ (a == sysModules) = false /\
  ∃ xs,KT H kvs xs /\ h.DictOfH (tupleKind (mixKind P w)) a xs:=dt_rd ok (.inl e)
end
def DGet (H:Hp) (a:Addr) (y:V) (r:Option V):Prop:=
 (∃ kvs k,Rd H a (.dK kvs) /\ y = kV k /\ r = valV kvs k) \/ ∃ kvs k b,Rd H a (.dT kvs) /\ y = .ref b /\ H b = some (.tup (k.map kV)) /\ r = valV kvs k
def DPut (H:Hp) (a:Addr) (y v:V) (H':Hp):Prop:=
 (∃ kvs k,H a = some (.dK kvs) /\ y = kV k /\ kvs.length < sizeLine /\ H' = upd H a (.dK (putK kvs k v))) \/
 ∃ kvs k b,H a = some (.dT kvs) /\ y = .ref b /\ H b = some (.tup (k.map kV)) /\ kvs.length < sizeLine /\ H' = upd H a (.dT (putK kvs k v))
theorem DGet.k {H:Hp} {a:Addr} {kvs:List (Key × V)} {k:Key} (e:H a = some (.dK kvs)):DGet H a (kV k) (valV kvs k):=.inl ⟨kvs,k,.inl e,rfl,rfl⟩
theorem DGet.t {H:Hp} {a b:Addr} {kvs:List (List Key × V)} {k:List Key} (e:H a = some (.dT kvs)) (eb:H b = some (.tup (k.map kV))):DGet H a (.ref b) (valV kvs k):=.inr ⟨kvs,k,b,.inl e,rfl,eb,rfl⟩
theorem DPut.k {H:Hp} {a:Addr} {kvs:List (Key × V)} {k:Key} {v:V} (e:H a = some (.dK kvs)) (hl:kvs.length < sizeLine):DPut H a (kV k) v (upd H a (.dK (putK kvs k v))):=.inl ⟨kvs,k,e,rfl,hl,rfl⟩
theorem DPut.t {H:Hp} {a b:Addr} {kvs:List (List Key × V)} {k:List Key} {v:V} (e:H a = some (.dT kvs)) (eb:H b = some (.tup (k.map kV))) (hl:kvs.length < sizeLine):
  DPut H a (.ref b) v (upd H a (.dT (putK kvs k v))):=.inr ⟨kvs,k,b,e,rfl,eb,hl,rfl⟩
section
variable {X:Cx} {pins:List (Addr × Obj)} {σ:St} {H:Hp} {s:Shared} {a:Addr} {y v:V} {u r:Value} {o:Option V} {A:Around} {E:Value -> Shared -> Prop}
theorem Inv.big (I:Inv X pins σ H s):sysModules < s.heap.objs.size:=by
 have h:mainGlobals < s.heap.objs.size:=(I.mod.glob.keeps I.bk).lt
 exact Nat.lt_trans (by decide) h
theorem d_getItem {Q:Value -> Shared -> Prop} (hu:A.units + 1 < cLine) (I:Inv X pins σ H s) (g:DGet H a y (some v)) (ry:RelV y u) (h:∀ w' s',Inv X pins σ H s' -> RelV v w' -> Q w' s'):
  wpAny (model X.prog X.w) A (getItem (.ref a) u) Q E s:=by
 rcases g with ⟨kvs,k,e,ey,l⟩ | ⟨kvs,k,b,e,ey,eb,l⟩
 ·subst ey
  obtain ⟨z,hd,vs,rel,dd⟩:=dk_rd I.hok e
  obtain ⟨w',hw,rw'⟩:=RelO.some_of (v:=v) (o:=valueAt vs k) (by rw [l]; exact rel.val k)
  exact wpAny_getItem_of (kV_is ry) dd.mapOf hw (h w' _ (I.tok _) rw')
 ·subst ey
  cases (show u = Value.ref b from ry)
  obtain ⟨z,hd,xs,rel,dd⟩:=dt_rd I.hok e
  obtain ⟨w',hw,rw'⟩:=RelO.some_of (v:=v) (o:=(atKey xs k).map (·.2)) (by rw [l]; exact rel.val k)
  obtain ⟨p,hp,hp2⟩:=Option.map_eq_some_iff.mp hw
  refine wpAny_getItem_heap (tupleKind_room_in1 hu) (key_of I.hok eb) dd hp ?_
  rw [hp2]
  exact h w' _ (I.tok _) rw'
theorem d_notIn {Q:Value -> Shared -> Prop} (hu:A.units + 1 < cLine) (I:Inv X pins σ H s) (g:DGet H a y o) (ry:RelV y u) (h:∀ s',Inv X pins σ H s' -> Q (.bool (!o.isSome)) s'):
  wpAny (model X.prog X.w) A (compareOp .NotIn u (.ref a)) Q E s:=by
 rcases g with ⟨kvs,k,e,ey,l⟩ | ⟨kvs,k,b,e,ey,eb,l⟩
 ·subst ey
  obtain ⟨z,hd,vs,rel,dd⟩:=dk_rd I.hok e
  refine wpAny_notIn_of (kV_is ry) hd dd.mapOf ?_
  rw [<- (rel.val k).isSome_eq,<- l]
  exact h _ (I.tok _)
 ·subst ey
  cases (show u = Value.ref b from ry)
  obtain ⟨z,hd,xs,rel,dd⟩:=dt_rd I.hok e
  refine wpAny_notIn_heap (tupleKind_room_in1 hu) (key_of I.hok eb) hd dd ?_
  have q:=(rel.val k).isSome_eq
  rw [Option.isSome_map] at q
  rw [<- q,<- l]
  exact h _ (I.tok _)
theorem d_write {h':Heap} {t':Nat} {ob:HO} (I:Inv X pins σ H s) (mu:Mut (H a)) (hs:Heap.SameBut a s.heap h') (he:∃ q,h'.get? a = some q) (new:ObjOk X.prog X.w (upd H a ob) h' a ob) (ht:0 < t':=by first | assumption | exact Nat.succ_pos _ | (apply Inv.tk; assumption) | omega):
  Inv X pins σ (upd H a ob) { s with heap:=h',toks:=t' }:=
 I.write (x:=a) (e:=a) mu (.inl rfl) (fun b q hb z=>(hs.2 b hb).trans z) he new
theorem dk_new {P:Program} {w:World} {H':Hp} {h':Heap} {kvs:List (Key × V)} {vs:List (Key × Value)} (z:kvs.length <= sizeLine) (hd:(a == sysModules) = false) (rel:KV kvs vs) (dd:h'.DictOf (mixKind P w) a vs):
  ObjOk P w H' h' a (.dK kvs):=⟨z,hd,vs,rel,dd⟩
theorem d_setItem {H':Hp} {Q:Unit -> Shared -> Prop} (hu:A.units + 1 < cLine) (I:Inv X pins σ H s) (g:DPut H a y v H') (ry:RelV y u) (rv:RelV v r) (h:∀ s',Inv X pins σ H' s' -> Q () s'):
  wpAny (model X.prog X.w) A (setItem (.ref a) u r) Q E s:=by
 rcases g with ⟨kvs,k,e,ey,l,eH⟩ | ⟨kvs,k,b,e,ey,eb,l,eH⟩
 ·subst ey eH
  obtain ⟨z,hd,vs,rel,dd⟩:=dk_of I.hok e
  have hz:vs.length <= sizeLine:=by rw [<- rel.length]; exact z
  have hl:(putK kvs k v).length <= sizeLine:=by have:=length_putK kvs k v; omega
  refine wpAny_setItem_pairs (hsz:=hz) (kV_is ry) dd fun h' dd' hs=>h _ ?_
  have he:∃ q,h'.get? a = some q:=let ⟨q,_,_,hq,_⟩:=dd'; ⟨q,hq⟩
  exact d_write I (by rw [e]; exact True.intro) hs he (dk_new hl hd (rel.put k rv) dd')
 ·subst ey eH
  cases (show u = Value.ref b from ry)
  obtain ⟨z,hd,xs,rel,dd⟩:=dt_of I.hok e
  have hz:xs.length <= sizeLine:=by rw [<- Paired.length rel]; exact z
  have hl:(putK kvs k v).length <= sizeLine:=by have:=length_putK kvs k v; omega
  refine wpAny_setItem_heap (hsz:=hz) (tupleKind_room_in1 hu) (key_of I.hok eb) dd fun h' dd' hs=>h _ ?_
  obtain ⟨q,es,ep,hq,h2,h3,h4,_,h5⟩:=dd'
  refine d_write I (by rw [e]; exact True.intro) hs ⟨q,hq⟩ ⟨hl,hd,_,(rel.put k eb rv).keeps fun c ys ec=>?_,q,es,ep,hq,h2,h3,h4,h5⟩
  rw [upd_ne (ne_of ec e (fun z=>nomatch z))]
  exact ec
end
section
variable {X:Cx} {pins:List (Addr × Obj)} {σ:St} {H:Hp} {s:Shared} {a:Addr} {kvs:List (Key × V)} {k:Key} {u:Value} {A:Around} {E:Value -> Shared -> Prop}
end
def NoSl (i:Expr):Prop:=∀ ov iv,subscripted i false ov iv = operate [ov,iv] (getItem ov iv)
theorem subD_of {prog:Program} {w:World} {A:Around} {E:Value -> Shared -> Prop} {s:Shared} {env:Env} {value slice:Expr} {pos:Pos} {T id:String} {Q:Value -> Shared -> Prop}
  (hl:typeLookup (.type T) "__getitem__" = pure (some (.builtin id))) (hs:NoSl slice)
  (h:wpAny (model prog w) A (eval value env) (fun o s₁=>wpAny (model prog w) A (eval slice env) (fun i s₂=>s₂.TypeIs o T /\ wpAny (model prog w) A (getItem o i) Q E s₂) E s₁) E s):
  wpAny (model prog w) A (eval (.Subscript value slice pos) env) Q E s:=by
 refine Subscript_ (wpAny_mono h (fun o s₁ h₁=>wpAny_mono h₁ (fun i s₂ h₂=>?_) fun _ _ x=>x) fun _ _ x=>x)
 obtain ⟨hT,h₂⟩:=h₂
 unfold subscriptTail
 refine wpAny_bind ?_
 rw [getitemInPython_of_ne hT.not_modules]
 refine wpAny_bind (wpAny_specialOf hT hl ?_)
 have fin:wpAny (model prog w) A (subscripted slice false o i) (fun r s₃=>wpAny (model prog w) A (letTemporaryGo value o r >>= fun _=>pure r) Q E s₃) E s₂:=by
  rw [hs o i]
  exact wpAny_operating (wpAny_mono h₂ (fun r s₃ h₃=>wpAny_bind (wpAny_letTemporaryGo (wpAny_pure h₃))) fun _ _ x=>x)
 first
  | exact wpAny_pure (wpAny_bind fin)
  | exact wpAny_bind (wpAny_pure (wpAny_bind fin))
  | exact wpAny_bind fin
theorem dict_typeIs {X:Cx} {pins:List (Addr × Obj)} {σ:St} {H:Hp} {s:Shared} {a:Addr} {y:V} {o:Option V} (I:Inv X pins σ H s) (g:DGet H a y o):s.TypeIs (.ref a) "dict" := by
 rcases g with ⟨kvs,k,e,_,_⟩ | ⟨kvs,k,b,e,_,_,_⟩
 ·obtain ⟨_,_,vs,_,dd⟩:=dk_rd I.hok e
  exact dd.typeIs
 ·obtain ⟨_,_,xs,_,dd⟩:=dt_rd I.hok e
  exact dd.typeIs
noncomputable def tDGet (td ty:TE):TE:=fun σ H Q=>td σ H fun x H1=>ty σ H1 fun y H2=>∃ a v,x = .ref a /\ DGet H2 a y (some v) /\ Q v H2
noncomputable def tDNotIn (ty td:TE):TE:=fun σ H Q=>ty σ H fun y H1=>td σ H1 fun x H2=>∃ a o,x = .ref a /\ DGet H2 a y o /\ Q (.bl (!o.isSome)) H2
noncomputable def sDPut (td ty tv:TE):TS:=fun D σ H=>tv σ H fun v H1=>td σ H1 fun x H2=>ty σ H2 fun y H3=>∃ a H4,x = .ref a /\ DPut H3 a y v H4 /\ D.nx σ H4
section
variable {X:Cx} {o i e value:Expr} {pos pos' tpos:Pos} {td ty tv:TE}
theorem pe_dget (hu:X.A.units + 1 < cLine) (ho:PE X o td) (hi:PE X i ty) (hs:NoSl i):PE X (.Subscript o i pos) (tDGet td ty):=by
 intro pins s σ H Q I h
 refine subD_of PySem.F.slot_dict_getitem.lookup hs (thn (ho pins s σ H _ I h) fun u s1 ⟨x,H1,I1,rx,q1⟩=>thn (hi pins s1 σ H1 _ I1 q1) fun iv s2 ⟨y,H2,I2,ry,a,v,ex,g,q2⟩=>?_)
 subst ex
 obtain rfl:u = Value.ref a:=rx
 exact ⟨dict_typeIs I2 g,d_getItem hu I2 g ry fun w' s3 I3 rw'=>⟨v,H2,I3,rw',q2⟩⟩
theorem pc_dnotin (hu:X.A.units + 1 < cLine) (hi:PE X i ty) (ho:PE X o td):PC X .NotIn i o (tDNotIn ty td):=by
 intro pins s σ H Q I h
 refine thn (hi pins s σ H _ I h) fun iv s1 ⟨y,H1,I1,ry,q1⟩=>thn (ho pins s1 σ H1 _ I1 q1) fun u s2 ⟨x,H2,I2,rx,a,ov,ex,g,q2⟩=>?_
 subst ex
 obtain rfl:u = Value.ref a:=rx
 exact d_notIn hu I2 g ry fun s3 I3=>⟨.bl (!ov.isSome),H2,I3,rfl,q2⟩
theorem ps_dput (hu:X.A.units + 1 < cLine) (ho:PE X o td) (hi:PE X i ty) (hv:PE X value tv) (hs:swapsWith value (some (.Subscript o i pos')) pos.line X.env = pure false):
  PS X (.Assign [.Subscript o i pos'] value pos) (sDPut td ty tv):=by
 intro pins s σ H D I h
 refine wpAny_Assign_Subscript (thn (hv pins s σ H _ I h) fun r s1 ⟨v,H1,I1,rv,q1⟩=>thn (ho pins s1 σ H1 _ I1 q1) fun u s2 ⟨x,H2,I2,rx,q2⟩=>thn (hi pins s2 σ H2 _ I2 q2) fun iv s3 ⟨y,H3,I3,ry,a,H4,ex,g,q3⟩=>?_) hs
 subst ex
 obtain rfl:u = Value.ref a:=rx
 exact d_setItem hu I3 g ry rv fun s4 I4=>⟨σ,H4,I4,q3⟩
end
theorem dt_empty {P:Program} {w:World} {H:Hp} (h:Heap) (hb:sysModules < h.objs.size):ObjOk P w H (h.push { cls:=.type "dict",data:=.dict #[] }) h.objs.size (.dT []):=
 ⟨Nat.zero_le _,beq_eq_false_iff_ne.mpr (Ne.symm (Nat.ne_of_lt hb)),[],.nil,_,#[],0,Heap.get?_push_size _ rfl,⟨rfl,rfl,rfl⟩,rfl,rfl,List.nodup_nil⟩
noncomputable def tDNewT:TE:=fun _ H Q=>∀ p,H p = none -> Q (.ref p) (upd H p (.dT []))
section
variable {X:Cx} {pos:Pos}
theorem pe_dnewT:PE X (.Dict [] [] pos) tDNewT:=fun pins s σ H Q I h=>
 wpAny_Dict_empty ⟨.ref s.heap.objs.size,_,I.laid (a:=s.heap.objs.size) (o:=.dT []) (t':=s.toks) (fun _ _ q=>Heap.get?_push_of_some _ q) (Nat.le_refl _) (dt_empty s.heap I.big),rfl,h _ (I.hok.fresh (Nat.le_refl _))⟩
end
noncomputable def mergeK (kvs more:List (Key × V)):List (Key × V):=more.foldl (fun acc kv=>putK acc kv.1 kv.2) kvs
theorem KV.merge:∀ {more:List (Key × V)} {rs:List (Key × Value)} {kvs:List (Key × V)} {vs:List (Key × Value)},KV more rs -> KV kvs vs -> KV (mergeK kvs more) (merged vs rs):=by
 intro more rs kvs vs r
 unfold KV at r
 induction r generalizing kvs vs with
 | nil=>intro q; exact q
 | @cons p q ps qs h t ih=>
  intro r0
  have e:KV (putK kvs p.1 p.2) (stored vs q.1 q.2):=by
   have:=r0.put p.1 h.2
   rw [<- h.1]; exact this
  exact ih e
structure M1 (X:Cx) (o:Expr) (m:Str) (apos:Pos) (e:Expr) (cpos:Pos):Prop where
 base:attributeBase o m X.env (eval o X.env) = eval o X.env
 few:((backTo cpos (starEach [e] X.env)).all (fun x=>!x.1) && (backToKw cpos (keywordEach [] X.env)).all (fun x=>x.1.isSome)
  && decide (([e]:List Expr).length + ([]:List Keyword).length + (if ([]:List Keyword).isEmpty then 0 else 1) < 30)) = true
 line:(apos.endLine == cpos.line) = true
 trees:backTo cpos (starEach [e] X.env) = [(false,eval e X.env)]
structure M2 (X:Cx) (o:Expr) (m:Str) (apos:Pos) (e f:Expr) (cpos:Pos):Prop where
 base:attributeBase o m X.env (eval o X.env) = eval o X.env
 few:((backTo cpos (starEach [e,f] X.env)).all (fun x=>!x.1) && (backToKw cpos (keywordEach [] X.env)).all (fun x=>x.1.isSome)
  && decide (([e,f]:List Expr).length + ([]:List Keyword).length + (if ([]:List Keyword).isEmpty then 0 else 1) < 30)) = true
 line:(apos.endLine == cpos.line) = true
 trees:backTo cpos (starEach [e,f] X.env) = [(false,eval e X.env),(false,eval f X.env)]
section
variable {X:Cx} {pins:List (Addr × Obj)} {σ:St} {H:Hp} {s:Shared} {a:Addr} {y d:V} {u r:Value} {o:Option V} {A:Around} {E:Value -> Shared -> Prop}
end
section
variable {X:Cx} {o e f:Expr} {apos cpos:Pos} {td ty tx:TE}
end
section
variable {X:Cx} {pins:List (Addr × Obj)} {σ:St} {H:Hp} {s:Shared} {a:Addr} {kvs:List (Key × V)} {A:Around} {E:Value -> Shared -> Prop}
end
section
variable {X:Cx} {pins:List (Addr × Obj)} {σ:St} {H:Hp} {s:Shared} {a:Addr} {y:V} {u:Value} {A:Around} {E:Value -> Shared -> Prop}
end
section
variable {X:Cx}
end
section
variable {κ:Type} [DecidableEq κ]
end
section
variable {X:Cx} {o i e value:Expr} {pos pos' apos cpos:Pos} {td ty tv ta:TE}
noncomputable def cDGet (td ty:TE):TE:=fun σ H Q=>td σ H fun x H1=>ty σ H1 fun y H2=>match x with
 | .ref a=>∃ v,DGet H2 a y (some v) /\ Q v H2
 | _=>False
theorem qe_dget (hu:X.A.units + 1 < cLine) (ho:PE X o td) (hi:PE X i ty) (hs:NoSl i):PE X (.Subscript o i pos) (cDGet td ty):=
 (pe_dget hu ho.mono hi.mono hs).imp fun σ H Q q=>⟨_,q,fun x H1 z=>⟨_,z,fun y H2 z=>by
  split at z
  ·obtain ⟨v,g,q⟩:=z
   exact ⟨_,v,rfl,g,q⟩
  ·exact z.elim⟩⟩
noncomputable def cDIn (neg:Bool) (ty td:TE):TE:=fun σ H Q=>ty σ H fun y H1=>td σ H1 fun x H2=>match x with
 | .ref a=>∃ v,DGet H2 a y v /\ Q (.bl (neg ^^ v.isSome)) H2
 | _=>False
theorem qt_dnotin (hu:X.A.units + 1 < cLine) (hi:PE X i ty) (ho:PE X o td) (h1:behindInMarks .NotIn o = false:=by rfl):PT X (.Compare i [.NotIn] [o] pos) (cTest (cDIn true ty td)):=
 (pt_cmp (pc_dnotin hu hi.mono ho.mono) h1).imp fun σ H Q q=>⟨_,q,fun y H1 z=>⟨_,z,fun x H2 z=>by
  split at z
  ·obtain ⟨v,g,q⟩:=z
   exact ⟨_,v,rfl,g,blK_ex (by simpa using q)⟩
  ·exact z.elim⟩⟩
noncomputable def cDPut (td ty tv:TE):TS:=fun D σ H=>tv σ H fun v H1=>td σ H1 fun x H2=>ty σ H2 fun y H3=>match x with
 | .ref a=>∃ H4,DPut H3 a y v H4 /\ D.nx σ H4
 | _=>False
theorem qs_dput (hu:X.A.units + 1 < cLine) (ho:PE X o td) (hi:PE X i ty) (hv:PE X value tv) (hs:swapsWith value (some (.Subscript o i pos')) pos.line X.env = pure false:=by rfl):
  PS X (.Assign [.Subscript o i pos'] value pos) (cDPut td ty tv):=fun pins s σ H D I h=>
 ps_dput hu ho.mono hi.mono hv.mono hs pins s σ H D I ⟨_,h,fun v H1 z=>⟨_,z,fun x H2 z=>⟨_,z,fun y H3 z=>by
  split at z
  ·obtain ⟨H4,g,q⟩:=z
   exact ⟨_,H4,rfl,g,q⟩
  ·exact z.elim⟩⟩⟩
theorem a_cDGet {σ:St} {H:Hp} {Q:VK}:cDGet td ty σ H Q = td σ H fun x H1=>ty σ H1 fun y H2=>match x with
 | .ref a=>∃ v,DGet H2 a y (some v) /\ Q v H2
 | _=>False:=rfl
theorem a_cDIn {neg:Bool} {σ:St} {H:Hp} {Q:VK}:cDIn neg ty td σ H Q = ty σ H fun y H1=>td σ H1 fun x H2=>match x with
 | .ref a=>∃ v,DGet H2 a y v /\ Q (.bl (neg ^^ v.isSome)) H2
 | _=>False:=rfl
theorem a_cDPut {D:Ends} {σ:St} {H:Hp}:cDPut td ty tv D σ H = tv σ H fun v H1=>td σ H1 fun x H2=>ty σ H2 fun y H3=>match x with
 | .ref a=>∃ H4,DPut H3 a y v H4 /\ D.nx σ H4
 | _=>False:=rfl
theorem a_dNewT {σ:St} {H:Hp} {Q:VK}:tDNewT σ H Q = ∀ p,H p = none -> Q (.ref p) (upd H p (.dT [])):=rfl
end
section
variable {X:Cx} {e:Expr} {te:TE} {pos:Pos}
end
section
variable {X:Cx}
variable {o e f:Expr} {to te tf:TE} {apos cpos:Pos}
end
section
variable {X:Cx} {e:Expr} {te:TE} {apos cpos:Pos}
end
section
variable {X:Cx}
end
section
variable {X:Cx} {pins:List (Addr × Obj)} {σ:St} {H:Hp} {s:Shared} {a:Addr} {y v:V} {u r:Value} {A:Around} {E:Value -> Shared -> Prop}
end
section
variable {X:Cx} {o e f:Expr} {apos cpos:Pos} {td ty tx:TE}
theorem Inv.frozen {pins:List (Addr × Obj)} {σ:St} {H:Hp} {s:Shared} {a:Addr} {kvs:List (Key × V)} (I:Inv X pins σ H s) (e:H a = some (.dK kvs)):∃ ob,Inv X pins σ (upd H a (.frz ob (.dK kvs))) s:=by
 obtain ⟨z,hd,vs,rel,dd⟩:=dk_of I.hok e
 obtain ⟨ob,es,ep,hq,r⟩:=id dd
 refine ⟨ob,?_⟩
 exact d_write (h':=s.heap) (t':=s.toks) I (by rw [e]; exact True.intro) ⟨rfl,fun _ _=>rfl⟩ ⟨ob,hq⟩ ⟨hq,dk_new z hd rel dd⟩
end
section
variable {X:Cx} {o:Expr} {to:TE} {apos cpos:Pos}
end
section
variable {X:Cx}
end
section
variable {K:Frag} {g:TG} {tc:TT} {te:TE} {σc:St} {D:Addr} {Q:VK} {H:Hp} {td ty:TE}
end
section
variable {K:Frag} {J:It} {g:TG} {tc:TT} {te:TE} {σc:St} {D:Addr} {Q:VK} {H:Hp}
end
section
variable {X:Cx} {e:Expr} {te:TE} {pos:Pos}
theorem cut_from (xs:List V) (n:Nat) (h:n <= xs.length):cutV xs (some (n:Int)) none = xs.drop n:=by
 unfold cutV
 have e1:HT.sIx xs.length 0 (some (n:Int)) = n:=by
  simp only [HT.sIx]
  rw [if_neg (by omega)]
  omega
 have e2:HT.sIx xs.length xs.length none = xs.length:=by simp [HT.sIx]
 rw [e1,e2]
 rw [List.take_of_length_le (by rw [List.length_drop]; omega)]
end
section
variable {X:Cx} {o e:Expr} {to te:TE} {apos cpos:Pos}
end
end L2
namespace L2
open PySem PySem.Spec PyProof.Rows PySem.W
def Xt (K:Frag) (mg:Str -> Option Value) (x:Str):Prop:=mg x = some (.ref (xA K x)) /\ typeIn K (.ref (xA K x)) = some (.type "type") /\ mroIn K (xA K x) (.type "BaseException") = some true
theorem Xn.t {K:Frag} {mg:Str -> Option Value} {x:Str} (n:Xn K mg x):Xt K mg x:=⟨n.1,n.2.ty,n.2.mb⟩
end L2
namespace L2
open PySem PySem.Spec PyProof.Rows
section
variable {prog:Program} {w:World} {A:Around} {s:Shared} {E:Value -> Shared -> Prop}
end
theorem ObjOk.there {P:Program} {w:World} {H:Hp} {h:Heap} {a:Addr} {o:HO} (x:ObjOk P w H h a o):∃ ob,h.get? a = some ob:=by
 induction o with
 | lst xs=>obtain ⟨_,_,_,_,e⟩:=x; exact ⟨_,e⟩
 | tup xs=>obtain ⟨_,_,_,_,e,_⟩:=x; exact ⟨_,e⟩
 | dK kvs=>obtain ⟨_,_,_,_,_,_,_,e,_⟩:=x; exact ⟨_,e⟩
 | dT kvs=>obtain ⟨_,_,_,_,_,_,_,e,_⟩:=x; exact ⟨_,e⟩
 | set S n=>obtain ⟨_,_,_,_,e,_⟩:=x; exact ⟨_,e⟩
 | ins C dx fs=>obtain ⟨_,_,_,e,_⟩:=x; exact ⟨_,e⟩
 | own y=>exact x
 | xd fs=>obtain ⟨_,⟨_,_,_,e,_⟩,_⟩:=x; exact ⟨_,e⟩
 | rng lo hi=>obtain ⟨_,_,_,e⟩:=x; exact ⟨_,e⟩
 | frz ob u ih=>obtain ⟨e,_⟩:=x; exact ⟨_,e⟩
 | tbl ps=>exact ⟨_,x⟩
 | met f y=>exact ⟨_,x⟩
 | ext φ=>obtain ⟨_,e,_⟩:=x; exact e
section
variable {X:Cx} {pins:List (Addr × Obj)} {σ:St} {H:Hp} {s:Shared}
end
theorem paired_memr {α β:Type} {R:α -> β -> Prop}:∀ {l:List α} {m:List β},Paired R l m -> ∀ b ∈ m,∃ a ∈ l,R a b
 | _,_,.nil,b,h=>absurd h List.not_mem_nil
 | _,_,.cons q r,b,h=>by
  rcases List.mem_cons.mp h with e | h
  ·rw [e]; exact ⟨_,List.mem_cons_self ..,q⟩
  ·obtain ⟨a,h1,h2⟩:=paired_memr r b h
   exact ⟨a,List.mem_cons_of_mem _ h1,h2⟩
structure LamAt (K:Frag) (mg:Str -> Option Value) (c P:Addr):Prop where
 code:∃ od vs sl file tf flags tg inF text tt,K.lookup c = some ⟨.type "code",od,.fields vs,sl⟩ /\ vs[11]? = some (.ref P) /\ vs.getD 11 .none = .ref P /\ vs.getD 18 .none = .str file tf /\
  vs.getD 7 .none = .int flags tg /\ vs.getD 9 .none = .bool inF /\ vs.getD 10 .none = .int text tt
 ne:c ≠ P
 bm:∃ b sl,mg "__builtins__" = some (.ref b) /\ b ≠ builtinsNs /\ b ≠ mainGlobals /\ K.lookup b = some ⟨.type "module",some builtinsNs,.plain,sl⟩
theorem LamAt.hd {K:Frag} {mg:Str -> Option Value} {c P:Addr} {h:Heap} (L:LamAt K mg c P) (X:K.In h):PySem.W.CodeHd h c P:=by
 obtain ⟨od,vs,sl,file,tf,flags,tg,inF,text,tt,e1,e2,e3,e4,e5,e6,e7⟩:=L.code
 exact ⟨_,vs,file,tf,flags,tg,inF,text,tt,X _ _ e1,rfl,rfl,e2,e3,e4,e5,e6,e7,L.ne⟩
section
variable {X:Cx}
end
noncomputable def isTab (o:Obj):Bool:=match o.cls,o.data with
 | .none,.fields vs=>vs.isEmpty
 | _,_=>false
noncomputable def cut (K:Frag):Frag:=K.filter fun p=>!isTab p.2
theorem cut_lookup:∀ {K:Frag} {a:Addr} {o:Obj},K.lookup a = some o -> isTab o = false -> (cut K).lookup a = some o
 | [],_,_,e,_=>by cases e
 | (b,x) :: K,a,o,e,h=>by
  unfold cut
  rw [List.lookup_cons] at e
  rw [List.filter_cons]
  cases hb:a == b with
  | true=>
   rw [hb] at e
   cases e
   rw [if_pos (by simp [h]),List.lookup_cons,hb]
  | false=>
   rw [hb] at e
   have:=cut_lookup e h
   by_cases hx:(!isTab x) = true
   ·rw [if_pos hx,List.lookup_cons,hb]; exact this
   ·rw [if_neg hx]; exact this
theorem cut_ns {K:Frag} {n:Addr} {x:Str} {r:Option Value} (h:nsIn K n x = some r):nsIn (cut K) n x = some r:=by
 unfold nsIn at h ⊢
 cases q:K.lookup n with
 | none=>rw [q] at h; cases h
 | some o=>
  rw [q] at h
  obtain ⟨cl,od,da,sl⟩:=o
  cases da with
  | dict es ep=>rw [cut_lookup q (by unfold isTab; cases cl <;> rfl)]; exact h
  | _=>cases h
theorem cut_tab {K:Frag} {x:Str} {c P:Addr} (h:PySem.W.tabIn K x = some (c,P)):PySem.W.tabIn (cut K) x = some (c,P):=by
 unfold PySem.W.tabIn at h ⊢
 split at h
 ·rename_i f hf
  simp only [cut_ns hf]
  split at h
  ·rename_i hfo
   simp only [cut_lookup hfo (by unfold isTab; split <;> first | rfl | (rename_i q; cases q))]
   split at h
   ·rename_i c₂ hc
    split at h
    ·rename_i vs _ hco
     split at h
     ·rename_i P₂ hv
      have hn:∀ cl od sl,isTab ⟨cl,od,.fields vs,sl⟩ = false:=fun cl od sl=>by
       unfold isTab
       cases cl <;> try rfl
       show vs.isEmpty = false
       cases z:vs.isEmpty with
       | false=>rfl
       | true=>
        have z:vs = #[]:=by simpa using z
        rw [z] at hv
        cases hv
      simp only [cut_lookup hco (hn _ _ _),hv]
      exact h
     ·cases h
    ·cases h
   ·cases h
  ·cases h
 ·cases h
structure LamFn (K:Frag) (mg:Str -> Option Value) (x:Str) (c P:Addr):Prop where
 tb:PySem.W.tabIn K x = some (c,P)
 cd:∀ f fd oc od sl,mg x = some (.ref f) -> K.lookup f = some ⟨oc,od,.func fd,sl⟩ -> fd.code = .ref c
 lam:LamAt K mg c P
theorem lamfn_mk {K:Frag} {h:Heap} {mg:Str -> Option Value} {x:Str} {c P b:Addr} {od:Option Addr} {vs:Array Value} {sl sl2:Array (Option Value)} {file:Str} {tf tg tt:Tok} {flags text:Int} {inF:Bool} (X:K.In h) (G:h.Ns mainGlobals mg)
  (tb:PySem.W.tabIn K x = some (c,P)) (e1:K.lookup c = some ⟨.type "code",od,.fields vs,sl⟩) (e2:vs[11]? = some (.ref P)) (e4:vs.getD 18 .none = .str file tf) (e5:vs.getD 7 .none = .int flags tg) (e6:vs.getD 9 .none = .bool inF) (e7:vs.getD 10 .none = .int text tt) (ne:c ≠ P)
  (b1:nsIn K mainGlobals "__builtins__" = some (some (.ref b))) (b2:b ≠ builtinsNs) (b3:b ≠ mainGlobals) (b4:K.lookup b = some ⟨.type "module",some builtinsNs,.plain,sl2⟩):LamFn K mg x c P where
 tb:=tb
 cd:=fun f fd oc od sl hm ho=>PySem.W.law_code X G tb hm (X _ _ ho) rfl
 lam:=⟨⟨od,vs,sl,file,tf,flags,tg,inF,text,tt,e1,e2,by
   have:vs.getD 11 .none = (vs[11]?).getD .none:=by simp [Array.getD_eq_getD_getElem?]
   rw [this,e2]; rfl,e4,e5,e6,e7⟩,ne,b,sl2,mg_of X G b1,b2,b3,b4⟩
section
variable {X:Cx}
end
structure LamOk (K:Frag) (x:Str) (c T:Addr):Prop where
 tb:PySem.W.tabIn K x = some (c,T)
 code:∃ od vs sl file tf flags tg inF text tt,K.lookup c = some ⟨.type "code",od,.fields vs,sl⟩ /\ vs[11]? = some (.ref T) /\ vs.getD 18 .none = .str file tf /\ vs.getD 7 .none = .int flags tg /\ vs.getD 9 .none = .bool inF /\ vs.getD 10 .none = .int text tt
 ne:c ≠ T
 bm:∃ b sl,nsIn K mainGlobals "__builtins__" = some (some (.ref b)) /\ b ≠ builtinsNs /\ b ≠ mainGlobals /\ K.lookup b = some ⟨.type "module",some builtinsNs,.plain,sl⟩
 tab:K.lookup T = some (PySem.W.tabObj #[])
theorem not_tab {o:Obj} (h:o.cls ≠ .none):isTab o = false:=by
 unfold isTab
 split
 ·rename_i a b; exact absurd a h
 ·rfl
theorem LamOk.fn {K:Frag} {x:Str} {c T:Addr} {h:Heap} {mg:Str -> Option Value} (L:LamOk K x c T) (X:(cut K).In h) (G:h.Ns mainGlobals mg):LamFn (cut K) mg x c T:=by
 obtain ⟨od,vs,sl,file,tf,flags,tg,inF,text,tt,e1,e2,e4,e5,e6,e7⟩:=L.code
 obtain ⟨b,sl2,b1,b2,b3,b4⟩:=L.bm
 exact lamfn_mk X G (cut_tab L.tb) (cut_lookup e1 (not_tab (by nofun))) e2 e4 e5 e6 e7 L.ne (cut_ns b1) b2 b3 (cut_lookup b4 (not_tab (by nofun)))
section
variable {X:Cx}
end
structure ClsT (K:Frag) (mg:Str -> Option Value) (x:Str):Prop where
 m:mg x = some (.ref (xA K x))
 c:Cls K (xA K x)
def MethT (K:Frag) (x m qual:Str) (st:Stmt):Prop:=∃ f fd,Meth K (xA K x) m f /\ Fun K m qual st f fd
def MkT (K:Frag) (x qual:Str) (st:Stmt):Prop:=∃ f fd,Mk K (xA K x) f /\ Fun K "__init__" qual st f fd
def MCal (P:Program) (w:World) (K:Frag) (mg:Str -> Option Value) (base:Heap) (k:Nat) (x m:Str) (ps:List Str) (sp:Sp):Prop:=
 ∃ f fd,FnOk P w K mg base CX0 k f fd ps sp /\ Binds K fd ps [] /\ Meth K (xA K x) m f
def KCal (P:Program) (w:World) (K:Frag) (mg:Str -> Option Value) (base:Heap) (k:Nat) (x:Str) (ps:List Str) (sp:Sp):Prop:=
 ∃ f fd,FnOk P w K mg base CX0 k f fd ps sp /\ Binds K fd ps [] /\ Mk K (xA K x) f
theorem MethT.cal {P:Program} {w:World} {K:Frag} {mg:Str -> Option Value} {base:Heap} {x m qual:Str} {st:Stmt} {N ps:List Str} {k:Nat} {sp:Sp} (F:MethT K x m qual st) (S:FnScope N ps (defScope st)) (len:∀ vs H Q E,sp vs H Q E -> vs.length = ps.length)
  (hb:∀ (kV doc pm:Value) (an:Option Addr) (cdv ct:Value) (us:List Value),us.length = ps.length -> bindArgs (fnOf m qual (defArgs st) (defBody st) (defScope st) .none kV doc pm an cdv ct) ⟨us,[]⟩ = pure (ps.zip us))
  (hbody:∀ (f:Addr) (cdv:Value) (A:Around) (outer:List Env) (s:Shared) (H:Hp) (vs:List V) (Q:VK) (E:XK),Room k (A.deeper (envOfC qual (defScope st) s.heap.objs.size f cdv)) -> sp vs H Q E ->
   ∃ t,PSs (cxOf CX0 P w K mg base N qual (defScope st) f cdv A outer s H E).nox (defBody st) t /\ t { nx:=fun _ H'=>Q .non H',rt:=Q } (start N vs) H):MCal P w K mg base (k + 1) x m ps sp:=by
 obtain ⟨f,fd,M,F⟩:=F
 exact ⟨f,fd,F.ok S len (hbody f),F.binds hb,M⟩
theorem MkT.cal {P:Program} {w:World} {K:Frag} {mg:Str -> Option Value} {base:Heap} {x qual:Str} {st:Stmt} {N ps:List Str} {k:Nat} {sp:Sp} (F:MkT K x qual st) (S:FnScope N ps (defScope st)) (len:∀ vs H Q E,sp vs H Q E -> vs.length = ps.length)
  (hb:∀ (kV doc pm:Value) (an:Option Addr) (cdv ct:Value) (us:List Value),us.length = ps.length -> bindArgs (fnOf "__init__" qual (defArgs st) (defBody st) (defScope st) .none kV doc pm an cdv ct) ⟨us,[]⟩ = pure (ps.zip us))
  (hbody:∀ (f:Addr) (cdv:Value) (A:Around) (outer:List Env) (s:Shared) (H:Hp) (vs:List V) (Q:VK) (E:XK),Room k (A.deeper (envOfC qual (defScope st) s.heap.objs.size f cdv)) -> sp vs H Q E ->
   ∃ t,PSs (cxOf CX0 P w K mg base N qual (defScope st) f cdv A outer s H E).nox (defBody st) t /\ t { nx:=fun _ H'=>Q .non H',rt:=Q } (start N vs) H):KCal P w K mg base (k + 1) x ps sp:=by
 obtain ⟨f,fd,M,F⟩:=F
 exact ⟨f,fd,F.ok S len (hbody f),F.binds hb,M⟩
section
variable {X:Cx} {k:Nat} {x m:Str} {ps:List Str} {sp:Sp} {p pos apos:Pos} {e o:Expr} {es:List Expr} {ta:TE} {t:TA}
theorem pe_metT {pl:Sem Bool} (C:ClsT X.K X.mg x) (M:MCal X.prog X.w X.K X.mg X.base k x m ps sp) (hr:Room k X.A) (he:PE X o ta) (ha:PA X (e :: es) t)
  (hst:starEach (e :: es) X.env = (false,eval e X.env) :: starEach es X.env:=by rfl) (hpl:(backTo pos (starEach es X.env)).any (·.1) = false:=by rfl)
  (ht:eval (.Call (.Attribute o m apos) (e :: es) [] pos) X.env = (do
   let ov <- eval o X.env
   standAt apos.atName
   let (f,first) <- holding [ov] (getMethod ov m pl)
   callWith pos f first (backTo pos (starEach (e :: es) X.env)) (backToKw pos (keywordEach [] X.env))):=by rfl):
  PE X (.Call (.Attribute o m apos) (e :: es) [] pos) (tMeth (xA X.K x) m sp [] E0 ta t):=by
 obtain ⟨f,fd,F,b,M⟩:=M
 exact pe_meth (pl:=pl) he C.c M F hr b .nil pass0 ha hst hpl ht
theorem pe_mkT (C:ClsT X.K X.mg x) (M:KCal X.prog X.w X.K X.mg X.base k x ps sp) (hr:Room (k + 1) X.A) (hg:Gl X x) (hd:(x == ("__debug__" : Str)) = false:=by decide):PE X (.Call (.Name x p) [] [] pos) (tMake (xA X.K x) sp [] E0 tNil):=by
 obtain ⟨f,fd,F,b,M⟩:=M
 exact pe_make0 M F hr hg C.m b .nil pass0 hd
theorem a_tMeth {C:Addr} {E:XK} {dvs:List V} {σ:St} {H:Hp} {Q:VK}:tMeth C m sp dvs E ta t σ H Q = ta σ H fun x H1=>∃ a dx fs,x = .ref a /\ H1 a = some (.ins C dx fs) /\ fs.lookup m = none /\ t σ H1 fun vs H2=>sp (x :: (vs ++ dvs)) H2 Q E:=rfl
theorem a_tMake {C:Addr} {E:XK} {dvs:List V} {σ:St} {H:Hp} {Q:VK}:tMake C sp dvs E t σ H Q = t σ H fun vs H1=>∀ x dx,H1 x = none -> H1 dx = none -> dx ≠ x -> sp (.ref x :: (vs ++ dvs)) (upd (upd H1 dx (.own x)) x (.ins C dx [])) (fun v H2=>v = .non /\ Q (.ref x) H2) E:=rfl
theorem a_tFld {K:Frag} {f:Str} {σ:St} {H:Hp} {Q:VK}:tFld K ta f σ H Q = ta σ H fun x H1=>∃ a C dx fs v,x = .ref a /\ H1 a = some (.ins C dx fs) /\ Cls K C /\ NoAttr K C f /\ fs.lookup f = some v /\ Q v H1:=rfl
theorem a_sFld {K:Frag} {tv:TE} {f:Str} {D:Ends} {σ:St} {H:Hp}:sFld K ta tv f D σ H = tv σ H fun y H1=>ta σ H1 fun x H2=>∃ a C dx fs,x = .ref a /\ H2 a = some (.ins C dx fs) /\ Cls K C /\ NoAttr K C f /\ fs.length < 1000 /\ D.nx σ (upd H2 a (.ins C dx (putF f y fs))):=rfl
noncomputable def kTupL (K:Frag):List V -> Hp -> VK -> Prop:=fun xs H Q=>match xs with
 | [.ref p]=>∃ ys,SqL K H p ys /\ ∀ l,H l = none -> Q (.ref l) (upd H l (.tup ys))
 | _=>False
theorem call_tupL (K:Frag) (hK:X.K = K):CallR X (.type "tuple") (kTupL K):=by
 subst hK
 intro pins s σ H xs us Q I r q
 unfold kTupL at q
 split at q
 ·obtain ⟨ys,h,q⟩:=q
  exact call_tuple_of pins s σ H _ us Q I r ⟨_,ys,rfl,.inl ⟨h,q⟩⟩
 ·exact q.elim
theorem a_kTupL {K:Frag} {p:Addr} {H:Hp} {Q:VK}:kTupL K [.ref p] H Q = ∃ ys,SqL K H p ys /\ ∀ l,H l = none -> Q (.ref l) (upd H l (.tup ys)):=rfl
end
section
variable {X:Cx}
noncomputable def kMin2:List V -> Hp -> VK -> Prop:=fun xs H Q=>match xs with
 | [.int a,.int b]=>Q (.int (if b < a then b else a)) H
 | _=>False
theorem call_min2K (hc:X.calm = true):CallR X (.builtin "min") kMin2:=by
 intro pins s σ H xs us Q I r q
 unfold kMin2 at q
 split at q
 ·exact call_min2 hc pins s σ H _ us Q I r ⟨_,_,rfl,q⟩
 ·exact q.elim
theorem a_kMin2 {a b:Int} {H:Hp} {Q:VK}:kMin2 [.int a,.int b] H Q = Q (.int (if b < a then b else a)) H:=rfl
end
section
variable {X:Cx} {a b c:Expr} {ta tb tc:TE} {pos:Pos}
theorem a_tTest {te:TE} {σ:St} {H:Hp} {Q:Bool -> Hp -> Prop}:tTest te σ H Q = te σ H fun z H3=>∃ k,z = .bl k /\ Q k H3:=rfl
end
section
variable {K:Frag} {α:Type} {xs:List α} {item:α -> V} {h:α -> List V} {H:Hp} {D:Addr} {σc:St} {Q:VK}
theorem comp_tup {g:V -> St -> Hp -> (St -> Hp -> Prop) -> Prop} {tc:TT} {te:TE} {p:Addr} (hfree:H D = none) (hl:H p = some (.tup (xs.map item))) (hn:xs.length <= 100000) (hf:∀ x,(h x).length <= 1)
  (hs:∀ x H1 (out:VK) (non:Hp -> Prop),x ∈ xs -> Same H H1 -> (∀ v H6,h x = [v] -> Same H1 H6 -> out v H6) -> (∀ H5,h x = [] -> Same H1 H5 -> non H5) ->
   g (item x) σc H1 fun σ4 H4=>tc σ4 H4 fun b H5=>if b = true then te σ4 H5 out else non H5)
  (hq:∀ H',Same H H' -> H' D = some (.lst (xs.flatMap h)) -> Q (.ref D) H'):compW (Itt K p) g tc te σc D Q H:=by
 refine comp_it (n:=xs.length) (atH xs h) hfree hn (atH_len hf) (fun i H x H' y=>?_) (fun i H' hi s=>?_) (fun H' s=>?_) (fun i H1 x H2 out non hi s y ho hnn=>?_) fun H' s q=>?_
 ·rw [y.1]
  exact Same.refl _
 ·exact ⟨_,item xs[i],SqT.of (s _ _ hl),by simp [hi]⟩
 ·exact ⟨_,SqT.of (s _ _ hl),by simp⟩
 ·obtain ⟨rfl,y⟩:=y
  have e:=y _ (SqT.of (s _ _ hl))
  rw [List.getElem?_map,List.getElem?_eq_getElem hi] at e
  have e2:item xs[i] = x:=Option.some.inj e
  subst e2
  simp only [atH_some (List.getElem?_eq_getElem hi)] at ho hnn
  exact hs xs[i] _ out non (List.getElem_mem hi) s ho hnn
 ·rw [flat_at] at q
  exact hq H' s q
end
end L2
namespace L2
open PySem
section
variable {K:Frag} {h:Heap} {mg:Str -> Option Value} {x m qual:Str} {C f:Addr} {fd:FuncData} {st:Stmt}
theorem clst_mk (X:K.In h) (G:h.Ns mainGlobals mg) (n:nsIn K mainGlobals x = some (some (.ref C))) (pg:PySem.W.plainGet K C Str.empty = true) (hd:PySem.W.hasDictIn K C = true) (po:PySem.W.plainOver K C = true)
  (sa:findIn K (.ref C) "__setattr__" = some (some (.builtin "object.__setattr__"))):ClsT K mg x:=⟨by rw [xA_eq n]; exact mg_of X G n,by rw [xA_eq n]; exact ⟨pg,hd,po,sa⟩⟩
theorem noattr_mk {a:Str} (n:nsIn K mainGlobals x = some (some (.ref C))) (e:findIn K (.ref C) a = some none):NoAttr K (xA K x) a:=by rw [xA_eq n]; exact e
theorem metht_mk (n:nsIn K mainGlobals x = some (some (.ref C))) (a:findIn K (.ref C) m = some (some (.ref f))) (w:PySem.W.isFn K (.ref f) = true) (kp:keepIn K (.ref f) = true) (F:Fun K m qual st f fd):MethT K x m qual st:=
 ⟨f,fd,by rw [xA_eq n]; exact ⟨a,w,kp⟩,F⟩
theorem mkt_mk (n:nsIn K mainGlobals x = some (some (.ref C))) (mk:PySem.W.makesIn K C = true) (kc:keepIn K (.ref C) = true) (a:findIn K (.ref C) "__init__" = some (some (.ref f))) (w:PySem.W.isFn K (.ref f) = true) (F:Fun K "__init__" qual st f fd):MkT K x qual st:=
 ⟨f,fd,by rw [xA_eq n]; exact ⟨mk,a,w,kc⟩,F⟩
end
end L2
namespace L2
open PySem PySem.Spec PyProof.Rows
noncomputable def tupLook (K:Frag) (xs:List Int) (v:Value):Bool:=match v with
 | .ref t=>match K.lookup t with
  | some o=>o.cls == .type "tuple" && (match o.data with | .seq its _=>KTD.intsLook its.toList xs && decide (xs.length <= 100) | _=>false)
  | none=>false
 | _=>false
theorem tup_of_look {K:Frag} {xs:List Int} {v:Value} (h:tupLook K xs v = true):∃ t,v = .ref t /\ ∀ H,SqT K H t (xs.map V.int):=by
 unfold tupLook at h
 split at h
 ·rename_i t
  split at h
  ·rename_i o ho
   simp only [Bool.and_eq_true,beq_iff_eq] at h
   obtain ⟨h1,h2⟩:=h
   split at h2
   ·rename_i its n hd
    simp only [Bool.and_eq_true,decide_eq_true_eq] at h2
    have hi:=KTD.ints_of_look h2.1
    have hv:=vals_ints hi
    refine ⟨t,rfl,fun H=>.inr ⟨o,its,n,ho,h1,hd,?_,hv⟩⟩
    have:=hv.length
    rw [List.length_map] at this
    rw [<- Array.length_toList,<- this]
    exact Nat.le_trans h2.2 (by decide)
   ·cases h2
  ·cases h
 ·cases h
def TabK (K:Frag) (mg:Str -> Option Value) (x:Str) (D:List (Str × List Int)):Prop:=∃ a,mg x = some (.ref a) /\ KTD.tabLook (tupLook K) (fun b=>K.lookup b) a D = true
section
variable {prog:Program} {w:World} {A:Around} {E:Value -> Shared -> Prop} {s:Shared} {a:Addr} {δ:Type} {R:δ -> Value -> Prop} {D:List (Str × δ)} {k:Str} {tk:Tok}
theorem tab_get {Q:Value -> Shared -> Prop} {d:δ} (T:KTD.TabOf R s.heap a D) (hd:KTD.datumAt k D = some d) (h:∀ v,R d v -> Q v { s with toks:=s.toks + 1 }):wpAny (model prog w) A (getItem (.ref a) (.str k tk)) Q E s:=by
 obtain ⟨_,o,es,ep,ho,hc,hda,hr⟩:=T
 have ty:s.TypeIs (.ref a) "dict" := ⟨o,ho,hc.1⟩
 unfold getItem
 try with_reducible refine wpAny_holding ?_
 refine wpAny_bind (wpAny_sequenceKey ty (by decide) ?_)
 refine wpAny_bind (wpAny_callSpecial?_slot (name:=Str.ofString "__getitem__") ty PySem.F.slot_dict_getitem
  (wpAny_call_entry PySem.F.slot_dict_getitem ty PySem.F.entry_dict_getitem ?_ (PySem.args_dict_getitem _ _)))
 show wpAny _ _ (dictGet a (.str k tk) >>= _) _ _ s
 refine wpAny_bind ?_
 unfold dictGet
 try with_reducible refine wpAny_holding ?_
 refine wpAny_bind (wpAny_pyHash_str (wpAny_bind (KTD.kt_dictFind_strs (s:={ s with toks:=s.toks + 1 }) ho hda (by obtain ⟨l⟩:=es; simpa using hr.exact) ?_)))
 obtain ⟨v,hv,hR⟩:=hr.find_some hd
 have hf:findBy (fun k v=>v.isStr k) es k = some v:=by
  rw [<- hv]
  obtain ⟨l⟩:=es
  simp [findBy]
 rw [findBy_of_findIdx?] at hf
 have fin:=h v hR
 cases hi:es.findIdx? fun e=>e.key.isStr k with
 | none=>rw [hi] at hf; cases hf
 | some i=>
  rw [hi] at hf
  have hf:es[i]?.map (·.val) = some v:=hf
  refine wpAny_bind (wpAny_dictEntries (s:={ s with toks:=s.toks + 1 }) ho hda (wpAny_pure ?_))
  rw [hf]
  exact wpAny_pure ⟨v,rfl,wpAny_pure fin⟩
end
section
variable {X:Cx} {i:Expr} {p pos:Pos} {ty:TE} {x:Str}
noncomputable def cTab (K:Frag) (D:List (Str × List Int)) (ty:TE):TE:=fun σ H Q=>ty σ H fun v H1=>match v with
 | .str k=>∃ xs,KTD.datumAt k D = some xs /\ ∀ t,(∀ H',SqT K H' t (xs.map V.int)) -> Q (.ref t) H1
 | _=>False
theorem qe_tab {K:Frag} {D:List (Str × List Int)} (hK:X.K = K) (T:TabK K X.mg x D) (hg:Gl X x) (hi:PE X i ty) (hs:NoSl i) (hd:(x == ("__debug__" : Str)) = false:=by decide):PE X (.Subscript (.Name x p) i pos) (cTab K D ty):=by
 subst hK
 intro pins s σ H Q I h
 obtain ⟨a,hm,hl⟩:=T
 refine subD_of PySem.F.slot_dict_getitem.lookup hs (ld_glob I hg hm (thn (hi pins s σ H _ I h) fun iv s2 ⟨y,H2,I2,ry,q⟩=>?_) hd)
 dsimp only at q
 split at q
 ·rename_i k
  obtain ⟨xs,hd,q⟩:=q
  obtain ⟨tk,rfl⟩:=(show ∃ t,iv = .str k t from ry)
  have T:KTD.TabOf (fun xs v=>tupLook X.K xs v = true) s2.heap a D:=KTD.tab_of_look (fun _ _ z=>z) (fun b o e=>I2.kIn b o e) hl
  refine ⟨?_,tab_get T hd fun v hv=>?_⟩
  ·obtain ⟨_,o,es,ep,ho,hc,_⟩:=T
   exact ⟨o,ho,hc.1⟩
  ·obtain ⟨t,rfl,ht⟩:=tup_of_look hv
   exact ⟨.ref t,H2,I2.tok _,rfl,q t ht⟩
 ·exact q.elim
theorem a_cTab {K:Frag} {D:List (Str × List Int)} {σ:St} {H:Hp} {Q:VK}:cTab K D ty σ H Q = ty σ H fun v H1=>match v with
 | .str k=>∃ xs,KTD.datumAt k D = some xs /\ ∀ t,(∀ H',SqT K H' t (xs.map V.int)) -> Q (.ref t) H1
 | _=>False:=rfl
end
theorem look_relabel {env:Env} {x:Str}:∀ {l:List (Str × NameKind)},(l.lookup x = some .cell \/ l.lookup x = some .free) ->
  ((l.map fun (n,k)=>if (k == .free && env.scope.kind == .function && env.kindOf n == some .cell) then (n,NameKind.cell) else (n,k)).lookup x = some .cell \/ (l.map fun (n,k)=>if (k == .free && env.scope.kind == .function && env.kindOf n == some .cell) then (n,NameKind.cell) else (n,k)).lookup x = some .free)
 | [],h=>by simp at h
 | (n,k) :: l,h=>by
  rw [List.map_cons]
  by_cases hx:x = n
  ·subst hx
   have hk:k = .cell \/ k = .free:=by simpa [List.lookup] using h
   dsimp only
   split
   ·exact .inl (by simp [List.lookup])
   ·rcases hk with z | z
    ·exact .inl (by simp [List.lookup,z])
    ·exact .inr (by simp [List.lookup,z])
  ·have hn:(x == n) = false:=by simpa using hx
   have h':l.lookup x = some .cell \/ l.lookup x = some .free:=by simpa only [List.lookup,hn] using h
   have ih:=look_relabel (env:=env) h'
   dsimp only
   split
   ·simpa only [List.lookup,hn] using ih
   ·simpa only [List.lookup,hn] using ih
theorem cnamesC {X:Cx} {scope0 scope:Scope} {cl:List (Str × Addr)} {N0:List Str} {C:Addr} {s:Shared} {H:Hp} {ex:List Addr} {nt:Nat} {fi:List Nat} {N':List Str} (h:cnOk N0 scope0 scope nt fi N' = true):CNames (cxC X scope0 cl N0 C s H ex) scope nt fi N':=by
 have c:=cnames (X:={ cxC X scope0 cl N0 C s H ex with env:={ (cxC X scope0 cl N0 C s H ex).env with scope:=scope0 } }) (N:=N0) (sc:=scope0) rfl rfl h
 exact ⟨c.len,c.cap,fun y hy e=>look_relabel (c.fre y hy e)⟩
section
variable {X:Cx} {k:Nat} {x:Str} {ps:List Str} {sp:Sp} {p pos:Pos} {e:Expr} {es:List Expr} {t:TA}
theorem pe_mkA (C:ClsT X.K X.mg x) (M:KCal X.prog X.w X.K X.mg X.base k x ps sp) (hr:Room (k + 1) X.A) (hg:Gl X x) (ha:PA X (e :: es) t) (hd:(x == ("__debug__" : Str)) = false:=by decide)
  (he:starEach (e :: es) X.env = (false,eval e X.env) :: starEach es X.env:=by rfl) (hpl:(backTo pos (starEach es X.env)).any (·.1) = false:=by rfl):PE X (.Call (.Name x p) (e :: es) [] pos) (tMake (xA X.K x) sp [] E0 t):=by
 obtain ⟨f,fd,F,b,M⟩:=M
 exact pe_make M F hr hg C.m b .nil pass0 ha hd he hpl
end
theorem args_maxd (a d:Value):argsOk "max" ⟨[a],[(Str.ofString "default",d)]⟩:=by unfold argsOk; kernel_rfl
section
variable {prog:Program} {w:World} {A:Around} {R:Result -> Shared -> Prop} {I:Addr} {fp wr:List Addr} {n:Nat} {P:Nat -> Value -> Prop} {St:Nat -> Heap -> Prop}
def BestD (P:Nat -> Value -> Prop) (bt:Nat -> Nat -> Bool) (j:Nat) (arr:Array Value):Prop:=(j = 0 /\ arr = #[]) \/ ∃ vb i,j = i + 1 /\ arr = #[vb,vb] /\ P (argBest bt i) vb
theorem maxd_loop {d:Value} (W:Walks prog w A.in1 I fp wr n P St) (bt:Nat -> Nat -> Bool) (hcmp:CmpOf prog w A.in1 .Gt P bt) (S:Addr) (hSf:S ∉ fp):
  ∀ (k j:Nat) (s:Shared) (arr:Array Value) (c:Nat),n - j = k -> j <= n -> St j s.heap -> BestD P bt j arr -> s.heap.get? S = some ⟨.type "list",none,.seq arr c,#[]⟩ ->
  (∀ v h' tk,(0 < n -> P (argBest bt (n - 1)) v) -> (n = 0 -> v = d) -> (∀ b o,b ∉ wr -> b ≠ S -> s.heap.get? b = some o -> h'.get? b = some o) -> R (.ok (.ret v)) { s with heap:=h',toks:=tk }) ->
  codeAny (model prog w) A (.builtin "max.loop" ⟨[.ref I,.none,.ref S],[(Str.ofString "default",d)]⟩) R s:=by
 have nS:S ∉ wr:=fun z=>hSf (W.sub _ z)
 have nm:(toString "max" ++ toString ".loop" : String) = "max.loop" := by decide
 intro k
 induction k with
 | zero=>
  intro j s arr c hk hj st0 hB hS fin
  have jn:j = n:=by omega
  subst jn
  refine codeAny_builtin PySem.F.entry_max_loop ?_
  rw [Around.under_plainId PySem.F.plain_max_loop _]
  show wpAny _ A.in1 (seqItems? (Value.ref S) >>= _) _ _ s
  refine wpAny_bind (wpAny_seqItems hS rfl ?_)
  show wpAny _ A.in1 (tryCatch (pyNext (Value.ref I)) _ >>= _) _ _ s
  refine wpAny_bind (wpAny_tryCatch (W.done s _ _ st0 fun h' tk kp=>?_))
  have hS':=kp S _ nS hS
  rcases hB with ⟨z,rfl⟩ | ⟨vb,i,z,rfl,hP⟩
  ·refine wpAny_bind (wpAny_rule (wpAny_pure (fin d h' tk (fun y=>absurd y (by omega)) (fun _=>rfl) fun b o hb _ e=>kp b o hb e)))
  ·refine wpAny_bind (wpAny_updateSeq hS' rfl (wpAny_bind (wpAny_letGo (wpAny_pure ?_))))
   exact fin vb _ tk (fun _=>by rw [z]; exact hP) (fun y=>absurd y (by omega)) fun b o hb hbS e=>(Heap.get?_update_other _ _ (Ne.symm hbS)).trans (kp b o hb e)
 | succ k ih=>
  intro j s arr c hk hj st0 hB hS fin
  have jn:j < n:=by omega
  refine codeAny_builtin PySem.F.entry_max_loop ?_
  rw [Around.under_plainId PySem.F.plain_max_loop _]
  show wpAny _ A.in1 (seqItems? (Value.ref S) >>= _) _ _ s
  refine wpAny_bind (wpAny_seqItems hS rfl ?_)
  show wpAny _ A.in1 (tryCatch (pyNext (Value.ref I)) _ >>= _) _ _ s
  refine wpAny_bind (wpAny_tryCatch (W.item j s _ _ jn st0 fun v h' tk hPv st1 kp=>?_))
  have hS':=kp S _ nS hS
  rcases hB with ⟨z,rfl⟩ | ⟨vb,i,z,rfl,hP⟩
  ·show wpAny _ A.in1 (updateSeq S (fun _=>#[v,v]) >>= _) _ _ _
   refine wpAny_bind (wpAny_updateSeq hS' rfl ?_)
   rw [nm]
   refine wpAny_pure ⟨plainId_quiet PySem.F.plain_max_loop _,ih (j + 1) _ #[v,v] _ (by omega) (by omega) (W.frame _ _ _ st1 fun b hb o e=>?_) (.inr ⟨v,j,rfl,rfl,by rw [z]; rw [z] at hPv; exact hPv⟩) (Heap.get?_update_self _ hS' rfl) fun v' h2 tk2 a1 a2 kp2=>?_⟩
   ·exact (Heap.get?_update_other _ _ (fun y:S = b=>hSf (by rw [y]; exact hb))).trans e
   ·exact fin v' h2 tk2 a1 a2 fun b o hb hbS e=>kp2 b o hb hbS ((Heap.get?_update_other _ _ (Ne.symm hbS)).trans (kp b o hb e))
  ·subst z
   show wpAny _ A.in1 (tryCatch (holding [v,v] (richCompare .Gt v vb >>= _)) _ >>= _) _ _ _
   refine wpAny_bind (wpAny_tryCatch (wpAny_holding (wpAny_bind (hcmp (i + 1) (argBest bt i) v vb _ _ _ hPv hP ?_))))
   refine wpAny_bind (wpAny_holding (wpAny_truthy_bool (wpAny_bind (wpAny_letGo (wpAny_pure ?_)))))
   cases hb:bt (i + 1) (argBest bt i) with
   | true=>
    simp only [if_true]
    refine wpAny_bind (wpAny_updateSeq hS' rfl (wpAny_bind (wpAny_letGo ?_)))
    rw [nm]
    refine wpAny_pure ⟨plainId_quiet PySem.F.plain_max_loop _,ih (i + 1 + 1) _ #[v,v] _ (by omega) (by omega) (W.frame _ _ _ st1 fun b hbf o e=>?_) (.inr ⟨v,i + 1,rfl,rfl,by simp only [argBest,hb,if_true]; exact hPv⟩) (Heap.get?_update_self _ hS' rfl) fun v' h2 tk2 a1 a2 kp2=>?_⟩
    ·exact (Heap.get?_update_other _ _ (fun y:S = b=>hSf (by rw [y]; exact hbf))).trans e
    ·exact fin v' h2 tk2 a1 a2 fun b o hb hbS e=>kp2 b o hb hbS ((Heap.get?_update_other _ _ (Ne.symm hbS)).trans (kp b o hb e))
   | false=>
    simp only [Bool.false_eq_true,if_false]
    refine wpAny_bind (wpAny_letGo ?_)
    rw [nm]
    refine wpAny_pure ⟨plainId_quiet PySem.F.plain_max_loop _,ih (i + 1 + 1) _ #[vb,vb] c (by omega) (by omega) st1 (.inr ⟨vb,i + 1,rfl,rfl,by simp only [argBest,hb,Bool.false_eq_true,if_false]; exact hP⟩) hS' fun v' h2 tk2 a1 a2 kp2=>?_⟩
    exact fin v' h2 tk2 a1 a2 fun b o hb hbS e=>kp2 b o hb hbS (kp b o hb e)
end
section
variable {prog:Program} {w:World} {A:Around} {E:Value -> Shared -> Prop} {s:Shared}
theorem call_maxd {l:Addr} {vs:List Value} {ns:List Int} {d:Value} {Q:Value -> Shared -> Prop} (hh:A.handled = none) (hl:s.heap.IsList l vs.toArray) (hi:IntsAre vs ns)
  (h:∀ v h' tk,(ns = [] -> v = d) -> (ns ≠ [] -> ∃ M t,v = .int M t /\ M ∈ ns /\ ∀ a ∈ ns,a <= M) -> (∀ b o,s.heap.get? b = some o -> h'.get? b = some o) -> Q v { s with heap:=h',toks:=tk }):
  wpAny (model prog w) A (call (.builtin "max") [.ref l] [(Str.ofString "default",d)]) Q E s:=by
 obtain ⟨xs,e⟩:=hi.allInts.items
 have hns:ns = xs.toList.map (·.1):=by rw [<- hi.numsOf,<- nums_intItems,<- e]
 rw [e] at hl
 have nm:(toString "max" ++ toString ".loop" : String) = "max.loop" := by decide
 refine kmk_tree PySem.F.kind_max PySem.F.plain_max PySem.F.entry_max (args_maxd _ _) ?_
 show wpAny _ A.in1 (Builtin.Builtins.bindParams "max" ["key", "default"] 0 ⟨[],[(Str.ofString "default",d)]⟩ >>= _) _ _ s
 refine wpAny_bind (wpAny_of_eq (show _ = pure [none,some d] from rfl) ?_)
 refine wpAny_bind (wpAny_pure ?_)
 refine wpAny_bind (iter_intList hl fun s₂ e2 st hfp hlI=>?_)
 subst e2
 refine wpAny_bind (wpAny_newObj_type ?_)
 rw [nm]
 have W:=Walks.list (A:=A.in1) (prog:=prog) (w:=w) hh s.heap.objs.size l hlI (intItems xs)
 refine wpAny_pure ⟨plainId_quiet PySem.F.plain_max_loop _,maxd_loop W _ (CmpOf.ints_gt (numAt xs) (fun _ _=>intItems_at)) _ (fun hm=>Nat.lt_irrefl _ (hfp _ hm)) _ 0 _ #[] 0 rfl (Nat.zero_le _) (W.frame _ _ _ st fun b _ o e=>Heap.get?_push_of_some _ e) (.inl ⟨rfl,rfl⟩) (Heap.get?_push_size _ rfl) fun v h' tk a1 a2 kp=>?_⟩
 have hsz:(intItems xs).size = xs.size:=by simp [intItems]
 have hln:ns.length = xs.size:=by rw [hns,List.length_map,Array.length_toList]
 refine h v h' tk (fun z=>a2 (by rw [hsz,<- hln,z]; rfl)) (fun z=>?_) (old_kept fun b o hb e=>kp b o hb (Nat.ne_of_lt (Heap.lt_size e)) (Heap.get?_push_of_some _ e))
 have hpos:0 < xs.size:=by rw [<- hln]; exact List.length_pos_iff.mpr z
 have hv:=a1 (by rw [hsz]; exact hpos)
 rw [hsz] at hv
 obtain ⟨t,rfl⟩:=intItems_at hv
 obtain ⟨h1,h2⟩:=argBest_gt (numAt xs) (xs.size - 1)
 refine ⟨_,t,rfl,?_,fun a ha=>?_⟩
 ·rw [hns,numAt_eq]
  exact getD_mem (by rw [List.length_map,Array.length_toList]; omega)
 ·rw [hns] at ha
  obtain ⟨j,hj,rfl⟩:=mem_getD ha
  rw [List.length_map,Array.length_toList] at hj
  rw [<- numAt_eq]
  exact h2 j (by omega)
end
section
variable {X:Cx} {e d:Expr} {ta tk:TA} {p pos kp:Pos}
noncomputable def cMaxD (K:Frag) (ta tk:TA):TE:=fun σ H Q=>ta σ H fun vs H1=>tk σ H1 fun zs H2=>match vs,zs with
 | [.ref l],[.int y]=>∃ ns:List Int,SqL K H2 l (ns.map V.int) /\ ∀ M,(ns = [] -> M = y) -> (ns ≠ [] -> M ∈ ns /\ ∀ a ∈ ns,a <= M) -> Q (.int M) H2
 | _,_=>False
theorem qe_maxd {K:Frag} (hK:X.K = K) (hc:X.calm = true) (hg:Gl X "max") (hm:X.mg "max" = none) (ha:PA X [e] ta) (hk:PK X [⟨some "default",d,kp⟩] tk)
  (he:backTo pos (starEach [e] X.env) = (false,eval e X.env) :: backTo pos (starEach [] X.env):=by rfl) (hpl:(backTo pos (starEach [e] X.env)).any (·.1) = false:=by rfl):
  PE X (.Call (.Name "max" p) [e] [⟨some "default",d,kp⟩] pos) (cMaxD K ta tk):=by
 subst hK
 intro pins s σ H Q I h
 refine wpAny_Call_Name_kw (ld_blt I hg hm bb_max ?_ (by decide) (by decide))
 refine callWith_kw (e:=e) (rest:=[]) (thn (ha pos pins s σ H _ I h) fun us s1 ⟨vs,H1,I1,r,q⟩=>thn (hk pos pins s1 σ H1 _ I1 q) fun ws s2 ⟨zs,H2,I2,rz,q2⟩=>?_) he hpl
 dsimp only at q2
 split at q2
 ·rename_i l y _
  obtain ⟨ns,hq,q1⟩:=q2
  obtain ⟨u,rfl,ru⟩:=vals1 r
  obtain ⟨d',rfl,rd⟩:=vals1 rz
  cases ru
  obtain ⟨its,rv,pl,_⟩:=I2.list hq
  refine tokQ I2.tk (call_maxd (I2.ok.hd hc) pl.isList (intsAre_of rv) fun v h' tk a1 a2 kp (htk:0 < tk)=>?_)
  have I3:Inv X pins σ H2 { s2 with heap:=h',toks:=tk }:=I2.kept kp htk
  by_cases hn:ns = []
  ·exact ⟨.int y,H2,I3,by rw [a1 hn]; exact rd,q1 y (fun _=>rfl) fun z=>absurd hn z⟩
  ·obtain ⟨M,t,rfl,hM,hle⟩:=a2 hn
   exact ⟨.int M,H2,I3,⟨t,rfl⟩,q1 M (fun z=>absurd z hn) fun _=>⟨hM,hle⟩⟩
 ·exact q2.elim
theorem a_cMaxD {K:Frag} {σ:St} {H:Hp} {Q:VK}:cMaxD K ta tk σ H Q = ta σ H fun vs H1=>tk σ H1 fun zs H2=>match vs,zs with
 | [.ref l],[.int y]=>∃ ns:List Int,SqL K H2 l (ns.map V.int) /\ ∀ M,(ns = [] -> M = y) -> (ns ≠ [] -> M ∈ ns /\ ∀ a ∈ ns,a <= M) -> Q (.int M) H2
 | _,_=>False:=rfl
end
end L2
set_option maxHeartbeats 4000000
namespace L2
open PySem PySem.Spec PyProof.Rows
theorem lc {c:Scope} {x:Str} (h:Loc c x:=by first | exact Or.inl rfl | exact Or.inr rfl):Loc c x:=h
theorem Room.m {j k:Nat} {A:Around} (r:Room k A) (h:j <= k:=by first | decide | omega):Room j A:=r.mono h
end L2
namespace Law
open PySem L2 Mir
noncomputable def top (i:Nat):Stmt:=PySem.Challenge.pw_throng_k13_blends.main.body.getD i (.Pass ⟨0,0,0,0⟩)
noncomputable abbrev s_row_narrowed:Stmt:=top 1
theorem sc_row_narrowed:FnScope ["row", "places"] ["row", "places"] (defScope s_row_narrowed):=⟨rfl,rfl,rfl,by decide +kernel,rfl,by decide +kernel,by decide +kernel⟩
noncomputable abbrev s_heap_width:Stmt:=top 3
theorem sc_heap_width:FnScope ["heap"] ["heap"] (defScope s_heap_width):=⟨rfl,rfl,rfl,by decide +kernel,rfl,by decide +kernel,by decide +kernel⟩
noncomputable abbrev s_heap_places:Stmt:=top 4
theorem sc_heap_places:FnScope ["heap", "places", "place"] ["heap"] (defScope s_heap_places):=⟨rfl,rfl,rfl,by decide +kernel,rfl,by decide +kernel,by decide +kernel⟩
noncomputable abbrev s_heap_narrowed:Stmt:=top 5
theorem sc_heap_narrowed:FnScope ["heap", "places"] ["heap", "places"] (defScope s_heap_narrowed):=⟨rfl,rfl,rfl,by decide +kernel,rfl,by decide +kernel,by decide +kernel⟩
noncomputable abbrev s_heap_side:Stmt:=top 6
theorem sc_heap_side:FnScope ["heap", "sign"] ["heap", "sign"] (defScope s_heap_side):=⟨rfl,rfl,rfl,by decide +kernel,rfl,by decide +kernel,by decide +kernel⟩
noncomputable abbrev s_graph_of:Stmt:=top 9
theorem sc_graph_of:FnScope ["heap", "places", "writer", "root"] ["heap"] (defScope s_graph_of):=⟨rfl,rfl,rfl,by decide +kernel,rfl,by decide +kernel,by decide +kernel⟩
noncomputable abbrev s_grown:Stmt:=top 10
theorem sc_grown:FnScope ["heap", "places", "writer", "known", "key", "no", "yes"] ["heap", "places", "writer", "known"] (defScope s_grown):=⟨rfl,rfl,rfl,by decide +kernel,rfl,by decide +kernel,by decide +kernel⟩
noncomputable abbrev s_steps_of:Stmt:=top 14
theorem sc_steps_of:FnScope ["graph", "behind"] ["graph", "behind"] (defScope s_steps_of):=⟨rfl,rfl,rfl,by decide +kernel,rfl,by decide +kernel,by decide +kernel⟩
noncomputable abbrev s_led_on:Stmt:=top 15
theorem sc_led_on:FnScope ["steps", "number", "place", "side"] ["steps", "number", "place", "side"] (defScope s_led_on):=⟨rfl,rfl,rfl,by decide +kernel,rfl,by decide +kernel,by decide +kernel⟩
noncomputable abbrev s_graph_blend:Stmt:=top 16
theorem sc_graph_blend:FnScope ["one", "other", "word", "blender", "root"] ["one", "other", "word"] (defScope s_graph_blend):=⟨rfl,rfl,rfl,by decide +kernel,rfl,by decide +kernel,by decide +kernel⟩
noncomputable abbrev s__law_cell_at:Stmt:=top 18
theorem sc__law_cell_at:FnScope ["_law_script", "_law_k"] ["_law_script", "_law_k"] (defScope s__law_cell_at):=⟨rfl,rfl,rfl,by decide +kernel,rfl,by decide +kernel,by decide +kernel⟩
noncomputable abbrev s__law_stream:Stmt:=top 19
theorem sc__law_stream:FnScope ["_law_cell", "_law_many", "_law_found", "_law_number", "_law_k"] ["_law_cell", "_law_many"] (defScope s__law_stream):=⟨rfl,rfl,rfl,by decide +kernel,rfl,by decide +kernel,by decide +kernel⟩
noncomputable abbrev s__law_width:Stmt:=top 20
theorem sc__law_width:FnScope ["_law_cell"] ["_law_cell"] (defScope s__law_width):=⟨rfl,rfl,rfl,by decide +kernel,rfl,by decide +kernel,by decide +kernel⟩
noncomputable abbrev s__law_places:Stmt:=top 21
theorem sc__law_places:FnScope ["_law_cell", "_law_width_here", "_law_found", "_law_many", "_law_number"] ["_law_cell", "_law_width_here"] (defScope s__law_places):=⟨rfl,rfl,rfl,by decide +kernel,rfl,by decide +kernel,by decide +kernel⟩
noncomputable abbrev s__law_shorts:Stmt:=top 22
theorem sc__law_shorts:FnScope ["_law_cells", "_law_many", "_law_found", "_law_cell", "_law_loose", "_law_signs", "_law_number"] ["_law_cells", "_law_many"] (defScope s__law_shorts):=⟨rfl,rfl,rfl,by decide +kernel,rfl,by decide +kernel,by decide +kernel⟩
noncomputable abbrev s__law_spread:Stmt:=top 23
theorem sc__law_spread:FnScope ["_law_short", "_law_places_here", "_law_base_here", "_law_sign", "_law_place"] ["_law_short", "_law_places_here", "_law_base_here"] (defScope s__law_spread):=⟨rfl,rfl,rfl,by decide +kernel,rfl,by decide +kernel,by decide +kernel⟩
noncomputable abbrev s__law_fits:Stmt:=top 24
theorem sc__law_fits:FnScope ["_law_short", "_law_choice", "_law_sign", "_law_own"] ["_law_short", "_law_choice"] (defScope s__law_fits):=⟨rfl,rfl,rfl,by decide +kernel,rfl,by decide +kernel,by decide +kernel⟩
noncomputable abbrev s__law_choices:Stmt:=top 25
theorem sc__law_choices:FnScope ["_law_many", "_law_found", "_law_k"] ["_law_many"] (defScope s__law_choices):=⟨rfl,rfl,rfl,by decide +kernel,rfl,by decide +kernel,by decide +kernel⟩
noncomputable abbrev s__law_good:Stmt:=top 26
theorem sc__law_good:FnScope ["_law_shorts_here", "_law_many", "_law_found", "_law_choice"] ["_law_shorts_here", "_law_many"] (defScope s__law_good):=⟨rfl,rfl,rfl,by decide +kernel,rfl,by decide +kernel,by decide +kernel⟩
noncomputable abbrev s__law_base:Stmt:=top 27
theorem sc__law_base:FnScope ["_law_cell", "_law_width_here"] ["_law_cell", "_law_width_here"] (defScope s__law_base):=⟨rfl,rfl,rfl,by decide +kernel,rfl,by decide +kernel,by decide +kernel⟩
noncomputable abbrev s__law_end:Stmt:=top 28
theorem sc__law_end:FnScope ["_law_graph", "_law_letter", "_law_number", "_law_k"] ["_law_graph", "_law_letter"] (defScope s__law_end):=⟨rfl,rfl,rfl,by decide +kernel,rfl,by decide +kernel,by decide +kernel⟩
noncomputable abbrev s__law_lies:Stmt:=top 29
theorem sc__law_lies:FnScope ["_law_word", "_law_first", "_law_second"] ["_law_word", "_law_first", "_law_second"] (defScope s__law_lies):=⟨rfl,rfl,rfl,by decide +kernel,rfl,by decide +kernel,by decide +kernel⟩
noncomputable abbrev s__law_two:Stmt:=top 30
theorem sc__law_two:FnScope ["_law_script", "_law_many", "_law_cells", "_law_cut", "_law_ones", "_law_others", "_law_way"] ["_law_script", "_law_many"] (defScope s__law_two):=⟨rfl,rfl,rfl,by decide +kernel,rfl,by decide +kernel,by decide +kernel⟩
noncomputable abbrev s__law_wholes:Stmt:=top 31
theorem sc__law_wholes:FnScope ["_law_graph", "_law_node"] ["_law_graph"] (defScope s__law_wholes):=⟨rfl,rfl,rfl,by decide +kernel,rfl,by decide +kernel,by decide +kernel⟩
noncomputable abbrev s__law_asked:Stmt:=top 32
theorem sc__law_asked:FnScope ["_law_graphs", "_law_goods", "_law_word", "_law_where", "_law_width_here", "_law_places_here", "_law_base_here", "_law_due", "_law_choice", "_law_found", "_law_rows"] ["_law_graphs", "_law_goods", "_law_word", "_law_where"] (defScope s__law_asked):=⟨rfl,rfl,rfl,by decide +kernel,rfl,by decide +kernel,by decide +kernel⟩
noncomputable abbrev s_law:Stmt:=top 33
theorem sc_law:FnScope ["_law_script", "_law_width_here", "_law_places_here", "_law_two_here", "_law_graphs", "_law_kept", "_law_goods", "_law_base_here", "_law_at", "_law_word"] ["_law_script"] (defScope s_law):=⟨rfl,rfl,rfl,by decide +kernel,rfl,by decide +kernel,by decide +kernel⟩
noncomputable abbrev s_Writer____init__:Stmt:=inClass (top 8) 0
theorem sc_Writer____init__:FnScope ["self"] ["self"] (defScope s_Writer____init__):=⟨rfl,rfl,rfl,by decide +kernel,rfl,by decide +kernel,by decide +kernel⟩
noncomputable abbrev s_Writer__node_number:Stmt:=inClass (top 8) 1
theorem sc_Writer__node_number:FnScope ["self", "place", "no", "yes", "node"] ["self", "place", "no", "yes"] (defScope s_Writer__node_number):=⟨rfl,rfl,rfl,by decide +kernel,rfl,by decide +kernel,by decide +kernel⟩
noncomputable abbrev s_Blender____init__:Stmt:=inClass (top 13) 0
theorem sc_Blender____init__:FnScope ["self", "one", "other", "ends", "behind"] ["self", "one", "other", "ends"] (defScope s_Blender____init__):=⟨rfl,rfl,rfl,by decide +kernel,rfl,by decide +kernel,by decide +kernel⟩
noncomputable abbrev s_Blender__blended:Stmt:=inClass (top 13) 1
theorem sc_Blender__blended:FnScope ["self", "mine", "its", "pair", "place", "no", "yes"] ["self", "mine", "its"] (defScope s_Blender__blended):=⟨rfl,rfl,rfl,by decide +kernel,rfl,by decide +kernel,by decide +kernel⟩
structure Top (K:Frag) (mg:Str -> Option Value):Prop where
 f_row_narrowed:Fn K mg "row_narrowed" s_row_narrowed
 f_heap_width:Fn K mg "heap_width" s_heap_width
 f_heap_places:Fn K mg "heap_places" s_heap_places
 f_heap_narrowed:Fn K mg "heap_narrowed" s_heap_narrowed
 f_heap_side:Fn K mg "heap_side" s_heap_side
 f_graph_of:Fn K mg "graph_of" s_graph_of
 f_grown:Fn K mg "grown" s_grown
 f_steps_of:Fn K mg "steps_of" s_steps_of
 f_led_on:Fn K mg "led_on" s_led_on
 f_graph_blend:Fn K mg "graph_blend" s_graph_blend
 f__law_cell_at:Fn K mg "_law_cell_at" s__law_cell_at
 f__law_stream:Fn K mg "_law_stream" s__law_stream
 f__law_width:Fn K mg "_law_width" s__law_width
 f__law_places:Fn K mg "_law_places" s__law_places
 f__law_shorts:Fn K mg "_law_shorts" s__law_shorts
 f__law_spread:Fn K mg "_law_spread" s__law_spread
 f__law_fits:Fn K mg "_law_fits" s__law_fits
 f__law_choices:Fn K mg "_law_choices" s__law_choices
 f__law_good:Fn K mg "_law_good" s__law_good
 f__law_base:Fn K mg "_law_base" s__law_base
 f__law_end:Fn K mg "_law_end" s__law_end
 f__law_lies:Fn K mg "_law_lies" s__law_lies
 f__law_two:Fn K mg "_law_two" s__law_two
 f__law_wholes:Fn K mg "_law_wholes" s__law_wholes
 f__law_asked:Fn K mg "_law_asked" s__law_asked
 f_law:Fn K mg "law" s_law
 f_Writer____init__:MkT K "Writer" "Writer.__init__" s_Writer____init__
 f_Writer__node_number:MethT K "Writer" "node_number" "Writer.node_number" s_Writer__node_number
 f_Blender____init__:MkT K "Blender" "Blender.__init__" s_Blender____init__
 f_Blender__blended:MethT K "Blender" "blended" "Blender.blended" s_Blender__blended
 c_Writer:ClsT K mg "Writer"
 a_Writer_nodes:NoAttr K (xA K "Writer") "nodes"
 a_Writer_numbers:NoAttr K (xA K "Writer") "numbers"
 c_Blender:ClsT K mg "Blender"
 a_Blender_one:NoAttr K (xA K "Blender") "one"
 a_Blender_other:NoAttr K (xA K "Blender") "other"
 a_Blender_ends:NoAttr K (xA K "Blender") "ends"
 a_Blender_writer:NoAttr K (xA K "Blender") "writer"
 a_Blender_known:NoAttr K (xA K "Blender") "known"
 b_len:mg "len" = none
 b_range:mg "range" = none
 b_any:mg "any" = none
 b_sorted:mg "sorted" = none
 b_set:mg "set" = none
 b_tuple:mg "tuple" = none
 b_list:mg "list" = none
 b_zip:mg "zip" = none
 b_int:mg "int" = none
 b_reversed:mg "reversed" = none
 b_isinstance:mg "isinstance" = none
 b_bool:mg "bool" = none
 b_max:mg "max" = none
 b_min:mg "min" = none
 w_WORD_ENDS:TabK K mg "WORD_ENDS" [("join",[0,1,1,1]),("common",[0,0,0,1]),("less",[0,0,1,0]),("either",[0,1,1,0])]
local macro_rules | `(tactic| walk_at "rd")=>`(tactic| try simp only [a_cVar,a_tC,a_tOp,a_kAddI,a_kAddS,a_kAddL,a_kI,a_kI0,a_kMulI,a_kMulS,a_kEqI,a_kEqS,a_kEqB,a_kEqNS,a_kEqSN,a_kEqNN,a_kInS,a_kInL,a_kIxS,a_kIxL,a_kLenS,a_kLenL,a_kIntI,a_kIntB,a_kIntS,a_kSlTo,a_kSlFrom,a_kSlL,a_tSl,a_tNoPart,a_cPart,a_cNeg,a_kEqNil,a_cIsI,Ty.isBl,Ty.isInt,Ty.isStr,Ty.isLst,Ty.isTup,a_cTest,a_blK,a_cAndV,a_cOrV,a_cNotV,a_tAnd,a_tOr,a_tNot,a_tYes,a_tIf,a_cApp,a_cJoin1,a_tNil,a_tCons,a_tCall,a_tCB,a_tLst,a_tTup,a_tNext,a_tSeq,a_tDrop,a_tRet,a_tIfS,a_tAsg,a_gName,a_tJoin,a_cFor,a_cIter,a_cRng1,a_cZip,a_srcKS,a_srcKL,a_cComp,compσ,L2.start,a_cxK,a_cxCK,CDiv,CPow,List.map_cons,List.map_nil,List.length_cons,List.length_nil,List.replicate_succ,List.replicate_zero,List.cons_append,List.nil_append,List.getElem?_cons_zero,List.getElem?_cons_succ,List.set_cons_zero,List.set_cons_succ,Option.getD_some,Option.getD_none,Nat.reduceAdd,Nat.reduceSub,Bool.false_bne,Bool.true_bne,Bool.false_xor,Bool.true_xor,Bool.not_eq_true',decide_eq_true_eq,decide_eq_false_iff_not,Bool.not_true,Bool.not_false,if_true,if_false,true_and,and_true,Int.reduceLT,Int.reduceLE,Nat.reduceLeDiff,Bool.false_eq_true,a_gCons,a_gNil,a_gSeq,a_kListS,a_kListL,a_cSortSet,a_cListRev,a_cListRng,a_kAny,a_kSorted,a_kNeNil,a_kEqD,a_gSub,a_rSetL,a_cDGet,a_cDIn,a_cDPut,a_one,a_tMeth,a_tMake,a_tFld,a_sFld,a_dNewT,a_kTupL,a_kMin2,a_tTest,a_cTab,a_cMaxD,ite_not,st_cps,Bool.true_eq_false,Int.zero_add,reduceIte,ite_true,ite_false])
section
variable {P:Program} {w:World} {K:Frag} {mg:Str -> Option Value} {base:Heap}
noncomputable def sp__law_cell_at (K:Frag):Sp:=fun vs H Q _=>match vs with
 | [.ref a,.int k]=>∃ ns:List Int,SqL K H a (ns.map V.int) /\ 0 <= k /\ Q (.int (cell ns k.toNat)) H
 | _=>False
theorem cell_here {H:Hp} {a:Addr} {ns:List Int} {k:Int} {Q:VK} {E:XK} (hS:SqL K H a (ns.map V.int)) (hk:0 <= k) (q:Q (.int (cell ns k.toNat)) H):sp__law_cell_at K [.ref a,.int k] H Q E:=⟨ns,hS,hk,q⟩
theorem ok__law_cell_at (T:Top K mg):Callee P w K mg base 1 "_law_cell_at" ["_law_script", "_law_k"] (sp__law_cell_at K):=by
 refine T.f__law_cell_at.cal sc__law_cell_at (by intro vs H Q E h; unfold sp__law_cell_at at h; split at h <;> first | rfl | exact h.elim) (fun _ _ _ _ _ _ us hl=>match us,hl with | [_,_],_=>rfl) (fun f cdv A outer s H vs Q E hr h=>?_)
 unfold sp__law_cell_at at h
 split at h
 case h_2=>exact h.elim
 refine ⟨_,(pss_cons (ps_if (qt_cmp op_ltK (qv 1) (pe_callB (lenE K rfl) rfl T.b_len bb_len (pa_cons (qv 0) pa_nil))) (pss_one (ps_ret (pe_ix (ixE K rfl) (qv 0) (qv 1) (fun _ _=>rfl)))) pss_nil)
   (pss_one (ps_ret pe_int))),?_⟩
 rename_i a k
 obtain ⟨ns,hS,hk,q⟩:=h
 walk_at "rd"
 refine ⟨_,.inl hS,?_⟩
 walk_at "rd"
 rw [List.length_map]
 refine ite2 (fun hlt=>?_) (fun hge=>?_)
 ·exact ⟨_,_,.inl hS,cell_lt hk hlt,q⟩
 ·rw [<- cell_ge hge]
  exact q
noncomputable def sp__law_stream (K:Frag):Sp:=fun vs H Q _=>match vs with
 | [.int c,.int n]=>0 <= n /\ n <= 1000 /\ ∀ p H',H p = none -> Same H H' -> H' p = some (.lst ((stream c n.toNat).map V.int)) -> Q (.ref p) H'
 | _=>False
theorem ok__law_stream (T:Top K mg):Callee P w K mg base 1 "_law_stream" ["_law_cell", "_law_many"] (sp__law_stream K):=by
 refine T.f__law_stream.cal sc__law_stream (by intro vs H Q E h; unfold sp__law_stream at h; split at h <;> first | rfl | exact h.elim) (fun _ _ _ _ _ _ us hl=>match us,hl with | [_,_],_=>rfl) (fun f cdv A outer s H vs Q E hr h=>?_)
 unfold sp__law_stream at h
 split at h
 case h_2=>exact h.elim
 refine ⟨_,(pss_cons (ps_set (i:=2) sc__law_stream.nd rfl lc (pe_lst pa_nil))
   (pss_cons (ps_set (i:=3) sc__law_stream.nd rfl lc (pe_op op_addK (pe_op op_modK (qv 0) pe_int) pe_int))
   (pss_cons (qs_for PassesOwn.never rfl (qi_range1 rfl T.b_range (qv 1)) (pg_name (i:=4) sc__law_stream.nd rfl lc) (pss_cons (ps_set (i:=3) sc__law_stream.nd rfl lc (pe_op op_modK (pe_op op_addK (pe_op op_addK (pe_op op_mulK (qv 3) pe_int) (pe_op op_mulK (pe_op op_mulK pe_int (qv 4)) (qv 4))) pe_int) pe_int))
   (pss_one (ps_expr (qe_append (qv 2) (pe_op op_fdivK (qv 3) pe_int))))))
   (pss_one (ps_ret (qv 2)))))),?_⟩
 rename_i c n
 obtain ⟨h0,h1,q⟩:=h
 walk_at "rd"
 refine ⟨by decide,fun p hp=>⟨by omega,by omega,?_⟩⟩
 refine loop_range (fun i σ H'=>∃ k,σ = [some (.int c),some (.int n),some (.ref p),some (.int (num c i)),k] /\ Same H H' /\ H' p = some (.lst ((stream c i).map V.int))) ⟨none,rfl,same_new hp _,upd_same⟩ ?_ ?_
 ·rintro i σ H1 hi ⟨k,rfl,s1,e1⟩
  walk_at "rd"
  have hb1:=num_lo c i
  have hb2:=num_hi c i
  refine ⟨.inl ⟨by omega,by omega⟩,.inl ⟨by omega,by omega⟩,.inr ⟨by omega,by omega⟩,?_⟩
  refine ⟨⟨_,e1⟩,_,e1,sizeBig (by simp [stream_len]; omega),?_⟩
  refine ⟨_,rfl,same_upd s1 hp,?_⟩
  rw [upd_same,stream_snoc]
  simp [num]
 ·rintro σ H1 ⟨k,rfl,s1,e1⟩
  walk_at "rd"
  exact q p H1 hp s1 e1
noncomputable def okS (m i:Nat):Bool:=m == 45 || i == 45 || m == i
noncomputable def okL (x y:List Nat):Bool:=(x.zip y).all fun p=>okS p.1 p.2
theorem take_zip_succ {x y:List Nat} {i c d:Nat} (hc:x[i]? = some c) (hd:y[i]? = some d):(x.take (i + 1)).zip (y.take (i + 1)) = (x.take i).zip (y.take i) ++ [(c,d)]:=by
 have h1:=(List.getElem?_eq_some_iff.mp hc).1
 have h2:=(List.getElem?_eq_some_iff.mp hd).1
 rw [List.take_succ,List.take_succ,hc,hd,List.zip_append (by simp; omega)]
 rfl
theorem okL_succ {x y:List Nat} {i c d:Nat} (hc:x[i]? = some c) (hd:y[i]? = some d):okL (x.take (i + 1)) (y.take (i + 1)) = (okL (x.take i) (y.take i) && okS c d):=by
 unfold okL
 rw [take_zip_succ hc hd]
 simp
theorem okL_bad {x y:List Nat} {i c d:Nat} (hc:x[i]? = some c) (hd:y[i]? = some d) (h:okS c d = false):okL x y = false:=by
 unfold okL
 rw [Bool.eq_false_iff]
 intro z
 rw [List.all_eq_true] at z
 have:=z (c,d) (List.mem_of_getElem? (List.getElem?_zip_eq_some.mpr ⟨hc,hd⟩))
 rw [h] at this
 cases this
theorem take_min:∀ {x y:List Nat},(x.take (min x.length y.length)).zip (y.take (min x.length y.length)) = x.zip y
 | [],y=>by simp
 | _ :: _,[]=>by simp
 | a :: x,b :: y=>by
  have ih:=take_min (x:=x) (y:=y)
  rw [List.length_cons,List.length_cons,Nat.add_min_add_right,List.take_succ_cons,List.take_succ_cons,List.zip_cons_cons,ih,List.zip_cons_cons]
noncomputable def sp__law_fits:Sp:=fun vs H Q _=>match vs with
 | [.str a,.str b]=>∀ H',Same H H' -> Q (.bl (okL a.cps.toList b.cps.toList)) H'
 | _=>False
theorem ok__law_fits (T:Top K mg):Callee P w K mg base 1 "_law_fits" ["_law_short", "_law_choice"] sp__law_fits:=by
 refine T.f__law_fits.cal sc__law_fits (by intro vs H Q E h; unfold sp__law_fits at h; split at h <;> first | rfl | exact h.elim) (fun _ _ _ _ _ _ us hl=>match us,hl with | [_,_],_=>rfl) (fun f cdv A outer s H vs Q E hr h=>?_)
 unfold sp__law_fits at h
 split at h
 case h_2=>exact h.elim
 refine ⟨_,(pss_cons (qs_for PassesOwn.never rfl (zipE K rfl rfl T.b_zip (qv 0) (qv 1)) (tupE K rfl rfl (n:=2) (pgs_cons (pg_name (i:=2) sc__law_fits.nd rfl lc) (pgs_cons (pg_name (i:=3) sc__law_fits.nd rfl lc) pgs_nil))) (pss_one (ps_if (PW.pt (pw_and (qt_cmp op_neK (qv 2) (qs [45])) (pw_and (qt_cmp op_neK (qv 3) (qs [45])) (pw_and1 (qt_cmp op_neK (qv 2) (qv 3)))))) (pss_one (ps_ret pe_bl)) pss_nil)))
   (pss_one (ps_ret pe_bl))),?_⟩
 rename_i a b
 obtain ⟨x,rfl⟩:∃ x,a = st x:=⟨_,(st_eta a).symm⟩
 obtain ⟨y,rfl⟩:∃ x,b = st x:=⟨_,(st_eta b).symm⟩
 simp only [st_cps] at h
 walk_at "rd"
 refine loop_zip (xs:=x.map fun c=>V.str (st [c])) (ys:=y.map fun c=>V.str (st [c])) (fun i σ H'=>∃ u v,σ = [some (.str (st x)),some (.str (st y)),u,v] /\ Same H H' /\ okL (x.take i) (y.take i) = true) ⟨none,none,rfl,Same.refl _,rfl⟩
  (fun i σ H' _=>⟨rfl,rfl⟩) ?_ ?_
 ·rintro i c d σ H1 p hx hy ⟨u,v,rfl,s1,e1⟩ hp
  rw [List.getElem?_map] at hx hy
  obtain ⟨c,hc,rfl⟩:=Option.map_eq_some_iff.mp hx
  obtain ⟨d,hd,rfl⟩:=Option.map_eq_some_iff.mp hy
  walk_at "rd"
  have s2:Same H (upd H1 p (.tup [V.str (st [c]),V.str (st [d])])):=s1.trans (same_new hp _)
  have good:okS c d = true -> okL (x.take (i + 1)) (y.take (i + 1)) = true:=fun z=>by rw [okL_succ hc hd,e1,z]; rfl
  refine ite2 (fun g1=>⟨_,_,rfl,s2,good (by simp [okS,g1])⟩) fun g1=>ite2 (fun g2=>⟨_,_,rfl,s2,good (by simp [okS,g2])⟩) fun g2=>ite2 (fun g3=>⟨_,_,rfl,s2,good (by simp [okS,g3])⟩) fun g3=>?_
  have:=h _ s2
  rw [okL_bad hc hd (by simp [okS,g1,g2,g3])] at this
  exact this
 ·rintro σ H1 ⟨u,v,rfl,s1,e1⟩
  walk_at "rd"
  simp only [List.length_map] at e1
  unfold okL at e1
  rw [take_min] at e1
  have:=h _ s1
  unfold okL at this
  rw [e1] at this
  exact this
noncomputable abbrev pl (i:Nat):V:=V.int i
noncomputable def narrow (r:List Nat) (ps:List Nat):List Nat:=ps.map fun i=>r.getD i 0
theorem flat_one {α β:Type} (f:α -> β) (l:List α):(l.flatMap fun x=>[f x]) = l.map f:=by
 induction l with
 | nil=>rfl
 | cons x l ih=>rw [List.flatMap_cons,ih]; rfl
theorem at_nat {α:Type} {l:List α} {i:Nat} (h:i < l.length):atI l (i:Int) = some l[i]:=by
 have e:ixN l.length (i:Int) = some i:=by
  unfold ixN
  simp
  omega
 show ((ixN l.length (i:Int)).bind fun j=>l[j]?) = some l[i]
 rw [e]
 exact List.getElem?_eq_getElem h
noncomputable def sp_row_narrowed (K:Frag):Sp:=fun vs H Q _=>match vs with
 | [.str a,.ref p]=>∃ ps:List Nat,SqL K H p (ps.map pl) /\ (∀ i ∈ ps,i < a.cps.toList.length) /\ a.cps.toList.length <= 1000 /\ ps.length <= 1000 /\ ∀ H',Same H H' -> Q (.str (st (narrow a.cps.toList ps))) H'
 | _=>False
theorem ok_row_narrowed (T:Top K mg):Callee P w K mg base 1 "row_narrowed" ["row", "places"] (sp_row_narrowed K):=by
 refine T.f_row_narrowed.cal sc_row_narrowed (by intro vs H Q E h; unfold sp_row_narrowed at h; split at h <;> first | rfl | exact h.elim) (fun _ _ _ _ _ _ us hl=>match us,hl with | [_,_],_=>rfl) (fun f cdv A outer s H vs Q E hr h=>?_)
 unfold sp_row_narrowed at h
 split at h
 case h_2=>exact h.elim
 refine ⟨_,(pss_one (ps_ret (joinE K rfl (qe_comp (nt:=1) (fi:=[0]) (N':=["place", "row"]) rfl (cscope rfl (by decide +kernel)) (cnames (N:=["row", "places"]) (sc:=defScope s_row_narrowed) rfl rfl (by decide +kernel)) (gk_name (by decide)) (iterE K rfl (qv 1)) (fun _ _ _ _ _=>(pg_name (i:=0) (by show (["place", "row"]:List Str).Nodup; decide +kernel) rfl lc)) (fun _ _ _ _ _=>pif_nil) (fun _ _ _ _ _=>(pe_ix (ixE K rfl) (qv 1) (qv 0) (fun _ _=>rfl))))))),?_⟩
 rename_i a p
 obtain ⟨r,rfl⟩:∃ x,a = st x:=⟨_,(st_eta a).symm⟩
 obtain ⟨ps,h1,h2,h3,h4,q⟩:=h
 simp only [st_cps] at h2 h3 q
 walk_at "rd"
 refine .inl ⟨⟨_,h1⟩,fun D hD=>?_⟩
 refine comp_list (item:=pl) (xs:=ps) (h:=fun i=>[V.str (st [r.getD i 0])]) hD h1 (by omega) (fun _=>by simp) ?_ ?_
 ·intro i H1 out non hi s1 ho hn
  have hi':=h2 i hi
  walk_at "rd"
  refine ⟨by omega,_,at_nat hi',ho _ _ (by simp [hi']) (Same.refl _)⟩
 ·intro H1 s1 e1
  rw [flat_one (fun i=>V.str (st [r.getD i 0])) ps] at e1
  exact ⟨narrow r ps,SqL.of (by rw [e1]; simp [narrow]),by simp [narrow]; omega,q H1 s1⟩
noncomputable def sp_heap_width (K:Frag):Sp:=fun vs H Q _=>match vs with
 | [.ref p]=>∃ hs:List (List Nat),SqL K H p (hs.map tx) /\ (∀ r ∈ hs,r.length <= 1000) /\ ∀ H',Same H H' -> Q (.int (hs.headD []).length) H'
 | _=>False
theorem ok_heap_width (T:Top K mg):Callee P w K mg base 1 "heap_width" ["heap"] (sp_heap_width K):=by
 refine T.f_heap_width.cal sc_heap_width (by intro vs H Q E h; unfold sp_heap_width at h; split at h <;> first | rfl | exact h.elim) (fun _ _ _ _ _ _ us hl=>match us,hl with | [_],_=>rfl) (fun f cdv A outer s H vs Q E hr h=>?_)
 unfold sp_heap_width at h
 split at h
 case h_2=>exact h.elim
 refine ⟨_,(pss_one (ps_ret (pe_ifExp (qt_cmp (eqNilE K rfl (hu1 hr)) (qv 0) (pe_lst pa_nil)) pe_int (pe_callB (lenE K rfl) rfl T.b_len bb_len (pa_cons (pe_ix (ixE K rfl) (qv 0) pe_int (fun _ _=>rfl)) pa_nil))))),?_⟩
 rename_i p
 obtain ⟨hs,h1,h2,q⟩:=h
 walk_at "rd"
 refine ⟨by decide,fun z hz=>⟨_,(same_new hz _).seq h1,SqL.of upd_same,?_⟩⟩
 cases hs with
 | nil=>exact q _ (same_new hz _)
 | cons r hs=>
  refine ⟨_,_,.inl ((same_new hz _).seq h1),at_nat (i:=0) (by simp),?_⟩
  have:=h2 r List.mem_cons_self
  walk_at "rd"
  exact ⟨show r.length <= 100000 by omega,q _ (same_new hz _)⟩
noncomputable def told (hs:List (List Nat)) (i:Nat):Bool:=hs.any fun r=>r.getD i 0 != 45
noncomputable def placesL (hs:List (List Nat)) (w:Nat):List Nat:=(List.range w).filter (told hs)
noncomputable def sp_heap_places (K:Frag):Sp:=fun vs H Q _=>match vs with
 | [.ref p]=>∃ (hs:List (List Nat)) (w:Nat),SqL K H p (hs.map tx) /\ (∀ r ∈ hs,r.length = w) /\ w <= 1000 /\ hs.length <= 2000 /\ ∀ q H',H q = none -> Same H H' -> H' q = some (.lst ((placesL hs (hs.headD []).length).map pl)) -> Q (.ref q) H'
 | _=>False
theorem ok_heap_places (T:Top K mg):Callee P w K mg base 2 "heap_places" ["heap"] (sp_heap_places K):=by
 refine T.f_heap_places.cal sc_heap_places (by intro vs H Q E h; unfold sp_heap_places at h; split at h <;> first | rfl | exact h.elim) (fun _ _ _ _ _ _ us hl=>match us,hl with | [_],_=>rfl) (fun f cdv A outer s H vs Q E hr h=>?_)
 unfold sp_heap_places at h
 split at h
 case h_2=>exact h.elim
 refine ⟨_,(pss_cons (ps_set (i:=1) sc_heap_places.nd rfl lc (pe_lst pa_nil))
   (pss_cons (qs_for PassesOwn.never rfl (qi_range1 rfl T.b_range (pe_fn (ok_heap_width T) hr.m rfl (pa_cons (qv 0) pa_nil))) (pg_name (i:=2) sc_heap_places.nd rfl lc) (pss_one (ps_if (qt_val (pe_callB (call_anyK K rfl rfl) rfl T.b_any bb_any (pa_cons (qe_comp (nt:=1) (fi:=[2]) (N':=["row", "place"]) rfl (cscope rfl (by decide +kernel)) (cnames (N:=["heap", "places", "place"]) (sc:=defScope s_heap_places) rfl rfl (by decide +kernel)) (gk_name (by decide)) (iterE K rfl (qv 0)) (fun _ _ _ _ _=>(pg_name (i:=0) (by show (["row", "place"]:List Str).Nodup; decide +kernel) rfl lc)) (fun _ _ _ _ _=>pif_nil) (fun _ _ _ _ _=>(qe_cmp op_neK (pe_ix (ixE K rfl) (qv 0) (qv 1) (fun _ _=>rfl)) (qs [45])))) pa_nil))) (pss_one (ps_expr (qe_append (qv 1) (qv 2)))) pss_nil)))
   (pss_one (ps_ret (qv 1))))),?_⟩
 rename_i p
 obtain ⟨hs,w,h1,h2,h3,h4,q⟩:=h
 walk_at "rd"
 have hw:∀ r ∈ hs,r.length <= 1000:=fun r hr=>by rw [h2 r hr]; exact h3
 have hh:(hs.headD []).length <= 1000:=by
  cases hs with
  | nil=>simp
  | cons r hs=>exact hw r List.mem_cons_self
 refine ⟨by decide,fun g hg=>⟨hs,(same_new hg _).seq h1,hw,fun H0 s0=>⟨by omega,by omega,?_⟩⟩⟩
 refine loop_range (fun i σ H'=>∃ u,σ = [some (.ref p),some (.ref g),u] /\ (∀ b o,H b = some o -> H' b = some o) /\ H' g = some (.lst ((placesL hs i).map pl))) ⟨none,rfl,fun b o e=>s0 b o (same_new hg _ b o e),s0 _ _ upd_same⟩ ?_ ?_
 ·rintro i σ H1 hi ⟨u,rfl,s1,e1⟩
  walk_at "rd"
  have hS1:SqL K H1 p (hs.map tx):=Same.seq s1 h1
  have hi':∀ r ∈ hs,i < r.length:=fun r hr=>by
   cases hs with
   | nil=>cases hr
   | cons r0 hs=>
    have a:=h2 r0 List.mem_cons_self
    have b:=h2 r hr
    have c:i < r0.length:=hi
    omega
  refine .inl ⟨⟨_,hS1⟩,fun D hD=>?_⟩
  refine comp_list (item:=tx) (xs:=hs) (h:=fun r=>[V.bl (r.getD i 0 != 45)]) hD hS1 (by omega) (fun _=>by simp) ?_ ?_
  ·intro r H2 out non hr' s2 ho hn
   have hir:=hi' r hr'
   have hlr:=hw r hr'
   walk_at "rd"
   refine ⟨by omega,_,at_nat hir,ho _ _ ?_ (Same.refl _)⟩
   rw [List.getD_eq_getElem?_getD,List.getElem?_eq_getElem hir,Option.getD_some]
   simp only [bne]
   congr 3
  ·intro H2 s2 e2
   rw [flat_one (fun r:List Nat=>V.bl (r.getD i 0 != 45)) hs] at e2
   walk_at "rd"
   refine ⟨hs.map fun r=>r.getD i 0 != 45,SqL.of (by rw [e2]; simp),?_⟩
   have et:(hs.map fun r=>r.getD i 0 != 45).any id = told hs i:=by unfold told; rw [List.any_map]; rfl
   rw [et]
   have e3:=s2 _ _ e1
   have ep:placesL hs (i + 1) = placesL hs i ++ (if told hs i = true then [i] else []):=by
    unfold placesL
    rw [List.range_succ,List.filter_append]
    simp [List.filter]
    split <;> simp_all
   show if told hs i = true then _ else _
   refine ite2 (fun ht=>?_) fun ht=>?_
   ·refine ⟨⟨_,e3⟩,_,e3,?_,_,rfl,fun b o e=>?_,?_⟩
    ·have a:(placesL hs i).length <= i:=by
      have:=List.length_filter_le (told hs) (List.range i)
      simpa [placesL] using this
     have b:i < 1000:=by omega
     rw [List.length_map]
     exact small1000 (by omega)
    ·rw [upd_ne (ne_of_none e hg)]
     exact s2 _ _ (s1 _ _ e)
    ·rw [upd_same,ep,if_pos ht,List.map_append]
     rfl
   ·refine ⟨_,rfl,fun b o e=>s2 _ _ (s1 _ _ e),?_⟩
    rw [e3,ep,if_neg ht,List.append_nil]
 ·rintro σ H1 ⟨u,rfl,s1,e1⟩
  walk_at "rd"
  exact q g H1 hg s1 e1
theorem ins_len (x:List Nat):∀ l:List (List Nat),(ins x l).length <= l.length + 1
 | []=>by simp [ins]
 | y :: r=>by
  unfold ins
  have:=ins_len x r
  split
  ·simp
  ·split
   ·simp
   ·simp only [List.length_cons]
    omega
theorem srt_len:∀ l:List (List Nat),(srt l).length <= l.length
 | []=>by simp [srt]
 | x :: l=>by
  have a:=ins_len x (srt l)
  have b:=srt_len l
  show (ins x (srt l)).length <= _
  simp only [List.length_cons]
  omega
noncomputable def narrowL (hs:List (List Nat)) (ps:List Nat):List (List Nat):=srt (hs.map fun r=>narrow r ps)
noncomputable def sp_heap_narrowed (K:Frag):Sp:=fun vs H Q _=>match vs with
 | [.ref p,.ref g]=>∃ (hs:List (List Nat)) (ps:List Nat),SqL K H p (hs.map tx) /\ SqL K H g (ps.map pl) /\ (∀ r ∈ hs,r.length <= 1000 /\ ∀ i ∈ ps,i < r.length) /\ ps.length <= 1000 /\ hs.length < 1024 /\
   ∀ q H',H q = none -> Same H H' -> H' q = some (.lst ((narrowL hs ps).map tx)) -> Q (.ref q) H'
 | _=>False
theorem ok_heap_narrowed (T:Top K mg):Callee P w K mg base 2 "heap_narrowed" ["heap", "places"] (sp_heap_narrowed K):=by
 refine T.f_heap_narrowed.cal sc_heap_narrowed (by intro vs H Q E h; unfold sp_heap_narrowed at h; split at h <;> first | rfl | exact h.elim) (fun _ _ _ _ _ _ us hl=>match us,hl with | [_,_],_=>rfl) (fun f cdv A outer s H vs Q E hr h=>?_)
 unfold sp_heap_narrowed at h
 split at h
 case h_2=>exact h.elim
 refine ⟨_,(pss_one (ps_ret (qe_sortset (K:=K) rfl rfl rfl T.b_sorted rfl T.b_set (qe_comp (nt:=1) (fi:=[1]) (N':=["row", "places"]) rfl (cscope rfl (by decide +kernel)) (cnames (N:=["heap", "places"]) (sc:=defScope s_heap_narrowed) rfl rfl (by decide +kernel)) (gk_name (by decide)) (iterE K rfl (qv 0)) (fun _ _ _ _ _=>(pg_name (i:=0) (by show (["row", "places"]:List Str).Nodup; decide +kernel) rfl lc)) (fun _ _ _ _ _=>pif_nil) (fun _ _ _ _ _=>(pe_fn (ok_row_narrowed T) hr.m rfl (pa_cons (qv 0) (pa_cons (qv 1) pa_nil)))))))),?_⟩
 rename_i p g
 obtain ⟨hs,ps,h1,h2,h3,h4,h5,q⟩:=h
 walk_at "rd"
 refine .inl ⟨⟨_,h1⟩,fun D hD=>?_⟩
 refine comp_list (item:=tx) (xs:=hs) (h:=fun r=>[tx (narrow r ps)]) hD h1 (by omega) (fun _=>by simp) ?_ ?_
 ·intro r H1 out non hr' s1 ho hn
  obtain ⟨a,b⟩:=h3 r hr'
  walk_at "rd"
  exact ⟨ps,s1.seq h2,b,a,h4,fun H2 s2=>ho _ _ rfl s2⟩
 ·intro H1 s1 e1
  rw [flat_one (fun r=>tx (narrow r ps)) hs] at e1
  have b:=srt_len (hs.map fun r=>narrow r ps)
  rw [List.length_map] at b
  refine ⟨hs.map fun r=>narrow r ps,SqL.of (by rw [e1,List.map_map]; rfl),by simp; omega,by omega,fun z hz=>?_⟩
  exact q z _ (s1.free hz) (s1.trans (same_new hz _)) upd_same
noncomputable def sideL (hs:List (List Nat)) (c:Nat):List (List Nat):=srt ((hs.filter fun r=>decide (r.headD 0 = c) || decide (r.headD 0 = 45)).map List.tail)
noncomputable def sp_heap_side (K:Frag):Sp:=fun vs H Q _=>match vs with
 | [.ref p,.str s]=>∃ (hs:List (List Nat)) (c:Nat),s.cps.toList = [c] /\ SqL K H p (hs.map tx) /\ (∀ r ∈ hs,0 < r.length /\ r.length <= 1000) /\ hs.length < 1024 /\
   ∀ q H',H q = none -> Same H H' -> H' q = some (.lst ((sideL hs c).map tx)) -> Q (.ref q) H'
 | _=>False
theorem ok_heap_side (T:Top K mg):Callee P w K mg base 1 "heap_side" ["heap", "sign"] (sp_heap_side K):=by
 refine T.f_heap_side.cal sc_heap_side (by intro vs H Q E h; unfold sp_heap_side at h; split at h <;> first | rfl | exact h.elim) (fun _ _ _ _ _ _ us hl=>match us,hl with | [_,_],_=>rfl) (fun f cdv A outer s H vs Q E hr h=>?_)
 unfold sp_heap_side at h
 split at h
 case h_2=>exact h.elim
 refine ⟨_,(pss_one (ps_ret (qe_sortset (K:=K) rfl rfl rfl T.b_sorted rfl T.b_set (qe_comp (nt:=1) (fi:=[1]) (N':=["row", "sign"]) rfl (cscope rfl (by decide +kernel)) (cnames (N:=["heap", "sign"]) (sc:=defScope s_heap_side) rfl rfl (by decide +kernel)) (gk_name (by decide)) (iterE K rfl (qv 0)) (fun _ _ _ _ _=>(pg_name (i:=0) (by show (["row", "sign"]:List Str).Nodup; decide +kernel) rfl lc)) (fun _ _ _ _ _=>(pif_one (PW.pt (pw_or (qt_cmp op_eqK (pe_ix (ixE K rfl) (qv 0) pe_int (fun _ _=>rfl)) (qv 1)) (pw_or1 (qt_cmp op_eqK (pe_ix (ixE K rfl) (qv 0) pe_int (fun _ _=>rfl)) (qs [45]))))))) (fun _ _ _ _ _=>(pe_slice (slE K rfl) (qv 0) (qo_some pe_int) po_none)))))),?_⟩
 rename_i p s
 obtain ⟨hs,c,hc,h1,h3,h5,q⟩:=h
 obtain rfl:s = st [c]:=by rw [<- hc,st_eta]
 walk_at "rd"
 refine .inl ⟨⟨_,h1⟩,fun D hD=>?_⟩
 refine comp_list (item:=tx) (xs:=hs) (h:=fun r=>if (decide (r.headD 0 = c) || decide (r.headD 0 = 45)) = true then [tx r.tail] else []) hD h1 (by omega) (fun _=>by split <;> simp) ?_ ?_
 ·intro r H1 out non hr' s1 ho hn
  obtain ⟨a,b⟩:=h3 r hr'
  cases r with
  | nil=>simp at a
  | cons d r=>
   have b:r.length + 1 <= 1000:=b
   walk_at "rd"
   refine ⟨by omega,d,at_nat (l:=d :: r) (i:=0) (by simp),ite2 (fun e=>⟨by omega,by omega,ho _ _ (if_pos (by simp [e])) (Same.refl _)⟩) fun e=>⟨by omega,d,at_nat (l:=d :: r) (i:=0) (by simp),ite2 (fun e2=>⟨by omega,by omega,ho _ _ (if_pos (by simp [e2])) (Same.refl _)⟩) fun e2=>hn _ (if_neg (by simp [e,e2])) (Same.refl _)⟩⟩
 ·intro H1 s1 e1
  have ef:(hs.flatMap fun r=>if (decide (r.headD 0 = c) || decide (r.headD 0 = 45)) = true then [tx r.tail] else []) = ((hs.filter fun r=>decide (r.headD 0 = c) || decide (r.headD 0 = 45)).map List.tail).map tx:=by
   clear e1 h1 h3 h5 q
   induction hs with
   | nil=>rfl
   | cons r hs ih=>
    rw [List.flatMap_cons,ih,List.filter_cons]
    split <;> rfl
  rw [ef] at e1
  have b:=srt_len ((hs.filter fun r=>decide (r.headD 0 = c) || decide (r.headD 0 = 45)).map List.tail)
  have b2:=List.length_filter_le (fun r:List Nat=>decide (r.headD 0 = c) || decide (r.headD 0 = 45)) hs
  rw [List.length_map] at b
  refine ⟨_,SqL.of e1,by rw [List.length_map]; omega,by omega,fun z hz=>?_⟩
  exact q z _ (s1.free hz) (s1.trans (same_new hz _)) upd_same
theorem in_txts (x:List Nat) (hs:List (List Nat)):inV (tx x) (hs.map tx) = decide (x ∈ hs):=by
 unfold inV
 rw [List.any_map,Bool.eq_iff_iff,List.any_eq_true,decide_eq_true_eq]
 constructor
 ·rintro ⟨y,hy,e⟩
  have e:(st y == st x) = true:=e
  rw [beq_iff_eq,st_inj] at e
  exact e ▸ hy
 ·intro h
  exact ⟨x,h,by show (st x == st x) = true; simp⟩
theorem flat_txts (hs:List (List Nat)):(hs.map tx).all flatV = true:=by
 rw [List.all_map,List.all_eq_true]
 intro _ _
 rfl
noncomputable def dashes (n:Nat):List Nat:=List.replicate n 45
noncomputable def settled (hs:List (List Nat)) (n:Nat):Bool:=decide (hs = []) || decide (dashes n ∈ hs)
noncomputable abbrev Tr:=List Nat × Bool × Bool
def TripAt (K:Frag) (x:Tr) (v:V) (H:Hp):Prop:=∃ a,v = .ref a /\ SqT K H a [tx x.1,.bl x.2.1,.bl x.2.2]
def Trips (K:Frag) (H:Hp) (p:Addr) (xs:List Tr):Prop:=∃ vs,H p = some (.lst vs) /\ Paired (fun x v=>TripAt K x v H) xs vs
theorem seqT_same {H H':Hp} (s:Same H H') {a:Addr} {vs:List V} (r:SqT K H a vs):SqT K H' a vs:=by
 rcases r with (r | ⟨o,r⟩) | r
 ·exact .inl (.inl (s _ _ r))
 ·exact .inl (.inr ⟨o,s _ _ r⟩)
 ·exact .inr r
theorem TripAt.same {H H':Hp} (s:Same H H') {x:Tr} {v:V} (r:TripAt K x v H):TripAt K x v H':=by
 obtain ⟨a,e,r⟩:=r
 exact ⟨a,e,seqT_same s r⟩
theorem Trips.same {H H':Hp} (s:Same H H') {p:Addr} {xs:List Tr} (r:Trips K H p xs):Trips K H' p xs:=by
 obtain ⟨vs,h,pr⟩:=r
 exact ⟨vs,s _ _ h,L2.Paired.mapP pr fun _ _ q=>q.same s⟩
theorem side_width {hs:List (List Nat)} {c n:Nat} (h:∀ r ∈ hs,r.length = n + 1):∀ r ∈ sideL hs c,r.length = n:=by
 intro r hr
 obtain ⟨y,hy,rfl⟩:=List.mem_map.mp (srt_mem.mp hr)
 have:=h y ((List.mem_filter.mp hy).1)
 simp [this]
theorem side_len (hs:List (List Nat)) (c:Nat):(sideL hs c).length <= hs.length:=by
 have a:=srt_len ((hs.filter fun r=>decide (r.headD 0 = c) || decide (r.headD 0 = 45)).map List.tail)
 have b:=List.length_filter_le (fun r:List Nat=>decide (r.headD 0 = c) || decide (r.headD 0 = 45)) hs
 rw [List.length_map] at a
 unfold sideL
 omega
theorem foldl_set_len (l:List (Nat × Nat)):∀ r:List Nat,(l.foldl (fun r q=>r.set q.2 q.1) r).length = r.length:=by
 induction l with
 | nil=>intro r; rfl
 | cons q l ih=>intro r; rw [List.foldl_cons,ih,List.length_set]
noncomputable abbrev sg (c:Nat):V:=V.str (st [c])
noncomputable def headLen (hs:List (List Nat)):Nat:=(hs.headD []).length
theorem headLen_le {hs:List (List Nat)} {n:Nat} (h:∀ r ∈ hs,r.length = n):headLen hs <= n:=by
 cases hs with
 | nil=>exact Nat.zero_le _
 | cons r0 hs=>exact Nat.le_of_eq (h r0 List.mem_cons_self)
theorem places_lt {hs:List (List Nat)} {w i:Nat} (h:i ∈ placesL hs w):i < w:=by
 simpa using (List.mem_filter.mp h).1
theorem narrowL_width {hs:List (List Nat)} {ps:List Nat}:∀ r ∈ narrowL hs ps,r.length = ps.length:=by
 intro r hr
 obtain ⟨y,_,rfl⟩:=List.mem_map.mp (srt_mem.mp hr)
 simp [narrow]
noncomputable def sp__law_width:Sp:=fun vs H Q _=>match vs with
 | [.int c]=>∀ w:Nat,1 <= w -> w <= 48 -> Q (.int w) H
 | _=>False
theorem ok__law_width (T:Top K mg):Callee P w K mg base 1 "_law_width" ["_law_cell"] sp__law_width:=by
 refine T.f__law_width.cal sc__law_width (by intro vs H Q E h; unfold sp__law_width at h; split at h <;> first | rfl | exact h.elim) (fun _ _ _ _ _ _ us hl=>match us,hl with | [_],_=>rfl) (fun f cdv A outer s H vs Q E hr h=>?_)
 unfold sp__law_width at h
 split at h
 case h_2=>exact h.elim
 refine ⟨_,(pss_cons (ps_if (qt_cmp op_ltK (pe_op op_modK (qv 0) pe_int) pe_int) (pss_one (ps_ret (pe_op op_addK pe_int (pe_op op_modK (pe_op op_fdivK (qv 0) pe_int) pe_int)))) pss_nil)
   (pss_one (ps_ret (pe_op op_addK pe_int (pe_op op_modK (pe_op op_fdivK (qv 0) pe_int) pe_int))))),?_⟩
 rename_i c
 have key:∀ z:Int,1 <= z -> z <= 48 -> Q (.int z) H:=fun z h1 h2=>by
  have:=h z.toNat (by omega) (by omega)
  rwa [show ((z.toNat:Nat):Int) = z by omega] at this
 walk_at "rd"
 exact ite2 (fun g=>key _ (by omega) (by omega)) fun g=>key _ (by omega) (by omega)
noncomputable def setAll (s ps b:List Nat):List Nat:=(s.zip ps).foldl (fun r q=>r.set q.2 q.1) b
theorem setAll_len (s ps b:List Nat):(setAll s ps b).length = b.length:=foldl_set_len _ _
theorem setAll_step {s ps b:List Nat} {i c d:Nat} (hc:s[i]? = some c) (hd:ps[i]? = some d):setAll (s.take (i + 1)) (ps.take (i + 1)) b = (setAll (s.take i) (ps.take i) b).set d c:=by
 unfold setAll
 have l1:=(List.getElem?_eq_some_iff.mp hc).1
 have l2:=(List.getElem?_eq_some_iff.mp hd).1
 rw [List.take_add_one,List.take_add_one,hc,hd,List.zip_append (by simp; omega),List.foldl_append]
 rfl
theorem setAll_all {s ps b:List Nat} {n:Nat} (h:min s.length ps.length <= n):setAll (s.take n) (ps.take n) b = setAll s ps b:=by
 unfold setAll
 have e:(s.take n).zip (ps.take n) = (s.zip ps).take n:=by
  show List.zipWith Prod.mk (s.take n) (ps.take n) = (List.zipWith Prod.mk s ps).take n
  rw [List.take_zipWith]
 rw [e,List.take_of_length_le (by rw [List.length_zip]; omega)]
noncomputable def sp__law_spread (K:Frag):Sp:=fun vs H Q _=>match vs with
 | [.str s,.ref p,.str b]=>∃ ps:List Nat,SqL K H p (ps.map pl) /\ (∀ i ∈ ps,i < b.cps.toList.length) /\ b.cps.toList.length <= 1000 /\ ∀ H',Same H H' -> Q (tx (setAll s.cps.toList ps b.cps.toList)) H'
 | _=>False
theorem ok__law_spread (T:Top K mg):Callee P w K mg base 1 "_law_spread" ["_law_short", "_law_places_here", "_law_base_here"] (sp__law_spread K):=by
 refine T.f__law_spread.cal sc__law_spread (by intro vs H Q E h; unfold sp__law_spread at h; split at h <;> first | rfl | exact h.elim) (fun _ _ _ _ _ _ us hl=>match us,hl with | [_,_,_],_=>rfl) (fun f cdv A outer s H vs Q E hr h=>?_)
 unfold sp__law_spread at h
 split at h
 case h_2=>exact h.elim
 refine ⟨_,(pss_cons (qs_for PassesOwn.never rfl (zipE K rfl rfl T.b_zip (qv 0) (qv 1)) (tupE K rfl rfl (n:=2) (pgs_cons (pg_name (i:=3) sc__law_spread.nd rfl lc) (pgs_cons (pg_name (i:=4) sc__law_spread.nd rfl lc) pgs_nil))) (pss_one (ps_set (i:=2) sc__law_spread.nd rfl lc (pe_op op_addK (pe_op op_addK (pe_slice (slE K rfl) (qv 2) po_none (qo_some (qv 4))) (qv 3)) (pe_slice (slE K rfl) (qv 2) (qo_some (pe_op op_addK (qv 4) pe_int)) po_none)))))
   (pss_one (ps_ret (qv 2)))),?_⟩
 rename_i s p b
 obtain ⟨l,rfl⟩:∃ x,s = st x:=⟨_,(st_eta s).symm⟩
 obtain ⟨b,rfl⟩:∃ x,b = st x:=⟨_,(st_eta b).symm⟩
 obtain ⟨ps,h1,h2,h3,q⟩:=h
 simp only [st_cps] at h2 h3 q
 walk_at "rd"
 refine ⟨⟨_,h1⟩,?_⟩
 refine loop_zip (xs:=l.map sg) (ys:=ps.map pl) (fun i σ H'=>∃ u v,σ = [some (.str (st l)),some (.ref p),some (tx (setAll (l.take i) (ps.take i) b)),u,v] /\ Same H H')
  ⟨none,none,rfl,Same.refl _⟩ (fun i σ H' ⟨_,_,_,s⟩=>⟨rfl,s.seq h1⟩) ?_ ?_
 ·rintro i x y σ H1 Tt hx hy ⟨u,v,rfl,s1⟩ hT
  rw [List.getElem?_map] at hx hy
  obtain ⟨c,hc,rfl⟩:=Option.map_eq_some_iff.mp hx
  obtain ⟨d,hd,rfl⟩:=Option.map_eq_some_iff.mp hy
  have hdn:=h2 d (List.mem_of_getElem? hd)
  have hL:=setAll_len (l.take i) (ps.take i) b
  generalize hB:setAll (l.take i) (ps.take i) b = B at hL
  walk_at "rd"
  have e:B.take (d:Int).toNat ++ [c] ++ B.drop ((d:Int) + 1).toNat = B.set d c:=by
   rw [List.set_eq_take_append_cons_drop,if_pos (by omega),show ((d:Int) + 1).toNat = d + 1 by omega,Int.toNat_natCast]
   simp
  refine ⟨by omega,by omega,by omega,by simp; omega,by omega,by omega,by omega,by simp; omega,some (sg c),some (pl d),?_,s1.trans (same_new hT _)⟩
  rw [e,setAll_step hc hd,hB]
 ·rintro σ H1 ⟨u,v,rfl,s1⟩
  rw [List.length_map,List.length_map,setAll_all (Nat.le_refl _)]
  walk_at "rd"
  exact q H1 s1
noncomputable def choicesL:Nat -> List (List Nat)
 | 0=>[[]]
 | n + 1=>(choicesL n).map (fun c=>c ++ [48]) ++ (choicesL n).map fun c=>c ++ [49]
theorem choicesL_len:∀ n,(choicesL n).length = 2 ^ n
 | 0=>rfl
 | n + 1=>by
  rw [choicesL,List.length_append,List.length_map,List.length_map,choicesL_len n,Nat.pow_succ]
  omega
theorem choicesL_width:∀ n,∀ c ∈ choicesL n,c.length = n
 | 0,c,h=>by rw [List.mem_singleton.mp h]; rfl
 | n + 1,c,h=>by
  rw [choicesL] at h
  rcases List.mem_append.mp h with h | h
  ·obtain ⟨d,hd,rfl⟩:=List.mem_map.mp h
   simp [choicesL_width n d hd]
  ·obtain ⟨d,hd,rfl⟩:=List.mem_map.mp h
   simp [choicesL_width n d hd]
noncomputable def sp__law_choices (K:Frag):Sp:=fun vs H Q _=>match vs with
 | [.int m]=>∃ n:Nat,m = (n:Int) /\ n <= 12 /\ ∀ q H',H q = none -> Same H H' -> H' q = some (.lst ((choicesL n).map tx)) -> Q (.ref q) H'
 | _=>False
theorem ok__law_choices (T:Top K mg):Callee P w K mg base 1 "_law_choices" ["_law_many"] (sp__law_choices K):=by
 refine T.f__law_choices.cal sc__law_choices (by intro vs H Q E h; unfold sp__law_choices at h; split at h <;> first | rfl | exact h.elim) (fun _ _ _ _ _ _ us hl=>match us,hl with | [_],_=>rfl) (fun f cdv A outer s H vs Q E hr h=>?_)
 unfold sp__law_choices at h
 split at h
 case h_2=>exact h.elim
 refine ⟨_,(pss_cons (ps_set (i:=1) sc__law_choices.nd rfl lc (pe_lst (pa_cons (qs []) pa_nil)))
   (pss_cons (qs_for PassesOwn.never rfl (qi_range1 rfl T.b_range (qv 0)) (pg_name (i:=2) sc__law_choices.nd rfl lc) (pss_one (ps_set (i:=1) sc__law_choices.nd rfl lc (pe_op op_addK (qe_comp (nt:=1) (fi:=[]) (N':=["_law_one"]) rfl (cscope rfl (by decide +kernel)) (cnames (N:=["_law_many", "_law_found", "_law_k"]) (sc:=defScope s__law_choices) rfl rfl (by decide +kernel)) (gk_name (by decide)) (iterE K rfl (qv 1)) (fun _ _ _ _ _=>(pg_name (i:=0) (by show (["_law_one"]:List Str).Nodup; decide +kernel) rfl lc)) (fun _ _ _ _ _=>pif_nil) (fun _ _ _ _ _=>(pe_op op_addK (qv 0) (qs [48])))) (qe_comp (nt:=1) (fi:=[]) (N':=["_law_one"]) rfl (cscope rfl (by decide +kernel)) (cnames (N:=["_law_many", "_law_found", "_law_k"]) (sc:=defScope s__law_choices) rfl rfl (by decide +kernel)) (gk_name (by decide)) (iterE K rfl (qv 1)) (fun _ _ _ _ _=>(pg_name (i:=0) (by show (["_law_one"]:List Str).Nodup; decide +kernel) rfl lc)) (fun _ _ _ _ _=>pif_nil) (fun _ _ _ _ _=>(pe_op op_addK (qv 0) (qs [49]))))))))
   (pss_one (ps_ret (qv 1))))),?_⟩
 rename_i m
 obtain ⟨n,rfl,hn,q⟩:=h
 walk_at "rd"
 refine ⟨by decide,fun z hz=>⟨by omega,by omega,?_⟩⟩
 refine loop_range (fun i σ H'=>∃ a u,σ = [some (.int n),some (.ref a),u] /\ Same H H' /\ H a = none /\ H' a = some (.lst ((choicesL i).map tx))) ⟨z,none,rfl,same_new hz _,hz,upd_same⟩ ?_ ?_
 ·rintro i σ H1 hi ⟨a,u,rfl,s1,ha,e1⟩
  have hi':i < n:=by simpa using hi
  have hl:=choicesL_len i
  have hp:2 ^ i <= 2 ^ 12:=Nat.pow_le_pow_right (by decide) (by omega)
  have hw:=choicesL_width i
  walk_at "rd"
  refine .inl ⟨⟨_,SqL.of e1⟩,fun D hD=>?_⟩
  refine comp_list (item:=tx) (xs:=choicesL i) (h:=fun c=>[tx (c ++ [48])]) hD (SqL.of e1) (by omega) (fun _=>by simp) ?_ ?_
  ·intro c H2 out non hc s2 ho hn
   have:=hw c hc
   walk_at "rd"
   exact ⟨by omega,ho _ _ rfl (Same.refl _)⟩
  intro H2 s2 e2
  rw [flat_one (fun c:List Nat=>tx (c ++ [48])) (choicesL i)] at e2
  have e12:=s2 _ _ e1
  refine .inl ⟨⟨_,SqL.of e12⟩,fun D2 hD2=>?_⟩
  refine comp_list (item:=tx) (xs:=choicesL i) (h:=fun c=>[tx (c ++ [49])]) hD2 (SqL.of e12) (by omega) (fun _=>by simp) ?_ ?_
  ·intro c H3 out non hc s3 ho hn
   have:=hw c hc
   walk_at "rd"
   exact ⟨by omega,ho _ _ rfl (Same.refl _)⟩
  intro H3 s3 e3
  rw [flat_one (fun c:List Nat=>tx (c ++ [49])) (choicesL i)] at e3
  walk_at "rd"
  refine ⟨_,_,s3 _ _ e2,e3,by rw [List.length_map,List.length_map,sizeLine_eq]; omega,fun r hr=>⟨r,some (.int i),rfl,?_,?_,?_⟩⟩
  ·exact (s1.trans (s2.trans s3)).trans (same_new hr _)
  ·exact (s1.trans (s2.trans s3)).free hr
  ·rw [upd_same,choicesL,List.map_append,List.map_map,List.map_map]
   rfl
 ·rintro σ H1 ⟨a,u,rfl,s1,ha,e1⟩
  walk_at "rd"
  rw [Int.toNat_natCast] at e1
  exact q a H1 ha s1 e1
theorem flat_filter {α β:Type} (p:α -> Bool) (f:α -> β) (l:List α):(l.flatMap fun x=>if p x = true then [f x] else []) = (l.filter p).map f:=by
 induction l with
 | nil=>rfl
 | cons x l ih=>
  rw [List.flatMap_cons,ih,List.filter_cons]
  split <;> rfl
noncomputable def goodL (ss:List (List Nat)) (n:Nat):List (List Nat):=(choicesL n).filter fun c=>ss.any fun s=>okL s c
noncomputable def sp__law_good (K:Frag):Sp:=fun vs H Q _=>match vs with
 | [.ref p,.int m]=>∃ (ss:List (List Nat)) (n:Nat),SqL K H p (ss.map tx) /\ m = (n:Int) /\ n <= 12 /\ ss.length <= 1000 /\ ∀ q H',H q = none -> Same H H' -> H' q = some (.lst ((goodL ss n).map tx)) -> Q (.ref q) H'
 | _=>False
theorem ok__law_good (T:Top K mg):Callee P w K mg base 2 "_law_good" ["_law_shorts_here", "_law_many"] (sp__law_good K):=by
 refine T.f__law_good.cal sc__law_good (by intro vs H Q E h; unfold sp__law_good at h; split at h <;> first | rfl | exact h.elim) (fun _ _ _ _ _ _ us hl=>match us,hl with | [_,_],_=>rfl) (fun f cdv A outer s H vs Q E hr h=>?_)
 unfold sp__law_good at h
 split at h
 case h_2=>exact h.elim
 refine ⟨_,(pss_cons (ps_set (i:=2) sc__law_good.nd rfl lc (pe_lst pa_nil))
   (pss_cons (qs_for PassesOwn.never rfl (iterE K rfl (pe_fn (ok__law_choices T) hr.m rfl (pa_cons (qv 1) pa_nil))) (pg_name (i:=3) sc__law_good.nd rfl lc) (pss_one (ps_if (qt_cmp (neNilE K rfl (hu1 hr)) (qe_comp (nt:=1) (fi:=[3]) (N':=["_law_short", "_law_choice"]) rfl (cscope rfl (by decide +kernel)) (cnames (N:=["_law_shorts_here", "_law_many", "_law_found", "_law_choice"]) (sc:=defScope s__law_good) rfl rfl (by decide +kernel)) (gk_name (by decide)) (iterE K rfl (qv 0)) (fun _ _ _ _ _=>(pg_name (i:=0) (by show (["_law_short", "_law_choice"]:List Str).Nodup; decide +kernel) rfl lc)) (fun _ _ _ _ _=>(pif_one (qt_val (pe_fn (ok__law_fits T) hr.m rfl (pa_cons (qv 0) (pa_cons (qv 1) pa_nil)))))) (fun _ _ _ _ _=>(qv 0))) (pe_lst pa_nil)) (pss_one (ps_expr (qe_append (qv 2) (qv 3)))) pss_nil)))
   (pss_one (ps_ret (qv 2))))),?_⟩
 rename_i p m
 obtain ⟨ss,n,h1,rfl,hn,hs,q⟩:=h
 walk_at "rd"
 refine ⟨by decide,fun g hg=>⟨n,rfl,hn,fun a H1 fa s1 e1=>.inl ⟨⟨_,SqL.of e1⟩,?_⟩⟩⟩
 have s01:=(same_new hg (.lst [])).trans s1
 have nga:g ≠ a:=ne_of_none upd_same fa
 refine loop_items tx (choicesL n) (fun i σ H'=>∃ u,σ = [some (.ref p),some (.int n),some (.ref g),u] /\ Same H H' /\ H' a = some (.lst ((choicesL n).map tx)) /\ H' g = some (.lst ((((choicesL n).take i).filter fun c=>ss.any fun s=>okL s c).map tx)))
  ⟨none,rfl,s01,e1,s1 _ _ upd_same⟩ (fun i σ H' _ ⟨_,_,_,z,_⟩=>SqL.of z) ?_ ?_
 ·rintro i c σ H2 hc ⟨u,rfl,s2,e2,e3⟩
  have hcl:=choicesL_len n
  have hp:2 ^ n <= 2 ^ 12:=Nat.pow_le_pow_right (by decide) hn
  walk_at "rd"
  refine .inl ⟨⟨_,s2.seq h1⟩,fun D hD=>?_⟩
  refine comp_list (item:=tx) (xs:=ss) (h:=fun s=>if okL s c = true then [tx s] else []) hD (s2.seq h1) (by omega) (fun _=>by split <;> simp) ?_ ?_
  ·intro s H3 out non hs' s3 ho hn'
   walk_at "rd"
   intro H4 s4
   walk_at "rd"
   exact ite2 (fun e=>ho _ _ (if_pos e) s4) fun e=>hn' _ (if_neg e) s4
  ·intro H3 s3 e4
   rw [flat_filter (fun s=>okL s c) tx ss] at e4
   walk_at "rd"
   have step:(((choicesL n).take (i + 1)).filter fun c=>ss.any fun s=>okL s c) = (((choicesL n).take i).filter fun c=>ss.any fun s=>okL s c) ++ (if (ss.any fun s=>okL s c) = true then [c] else []):=by
    rw [List.take_add_one,hc,List.filter_append]
    simp only [Option.toList_some,List.filter_cons,List.filter_nil]
   refine ⟨by decide,fun z hz=>⟨_,SqL.of (same_new hz _ _ _ e4),SqL.of upd_same,?_⟩⟩
   have s3z:=s3.trans (same_new hz (.lst []))
   refine ite2 (fun e=>⟨_,rfl,s2.trans s3z,s3z _ _ e2,?_⟩) fun e=>⟨⟨_,s3z _ _ e3⟩,_,s3z _ _ e3,?_,_,rfl,same_upd (s2.trans s3z) hg,by rw [upd_ne nga.symm]; exact s3z _ _ e2,?_⟩
   ·have en:(ss.any fun s=>okL s c) = false:=by
     rw [Bool.eq_false_iff]
     intro w
     obtain ⟨s,hs1,hs2⟩:=List.any_eq_true.mp w
     have:s ∈ ss.filter fun s=>okL s c:=List.mem_filter.mpr ⟨hs1,hs2⟩
     rw [List.map_eq_nil_iff.mp e] at this
     cases this
    rw [s3z _ _ e3,step,en]
    simp
   ·have a1:=List.length_filter_le (fun c=>ss.any fun s=>okL s c) ((choicesL n).take i)
    rw [List.length_take] at a1
    rw [List.length_map]
    exact sizeBig (by omega)
   ·have en:(ss.any fun s=>okL s c) = true:=by
     apply Classical.byContradiction
     intro w
     apply e
     rw [List.map_eq_nil_iff,List.filter_eq_nil_iff]
     intro s hs1 hs2
     exact w (List.any_eq_true.mpr ⟨s,hs1,hs2⟩)
    rw [upd_same,step,en,if_pos rfl,List.map_append]
    rfl
 ·rintro σ H2 ⟨u,rfl,s2,e2,e3⟩
  rw [List.take_length] at e3
  walk_at "rd"
  exact q g H2 hg s2 e3
def IsRows (rs:List (List Nat)) (n:Nat):Prop:=∀ r ∈ rs,r.length = n /\ IsRow r
theorem in_ints (x:Nat) (ms:List Nat):inV (V.int x) (ms.map pl) = decide (x ∈ ms):=by
 unfold inV
 rw [List.any_map,Bool.eq_iff_iff,List.any_eq_true,decide_eq_true_eq]
 constructor
 ·rintro ⟨y,hy,e⟩
  have e:((y:Int) == (x:Int)) = true:=e
  rw [beq_iff_eq] at e
  have e:y = x:=by omega
  exact e ▸ hy
 ·intro h
  exact ⟨x,h,by show ((x:Int) == (x:Int)) = true; simp⟩
theorem flat_ints (ms:List Nat):(ms.map pl).all flatV = true:=by
 rw [List.all_map,List.all_eq_true]
 intro _ _
 rfl
noncomputable def srtN (ms:List Nat):List Nat:=(srtI (ms.map fun (x:Nat)=>(x:Int))).map Int.toNat
theorem srtN_cast (ms:List Nat):(srtN ms).map (fun (x:Nat)=>(x:Int)) = srtI (ms.map fun (x:Nat)=>(x:Int)):=by
 unfold srtN
 rw [List.map_map]
 conv=>rhs; rw [<- List.map_id (srtI _)]
 apply List.map_congr_left
 intro z hz
 have:=(srtI_perm _).mem_iff.mp hz
 obtain ⟨y,_,rfl⟩:=List.mem_map.mp this
 simp
theorem srtN_perm (ms:List Nat):(srtN ms).Perm ms:=by
 have:=(srtI_perm (ms.map fun (x:Nat)=>(x:Int))).map Int.toNat
 rw [List.map_map] at this
 refine this.trans (List.Perm.of_eq ?_)
 conv=>rhs; rw [<- List.map_id ms]
 apply List.map_congr_left
 intro x _
 simp
theorem srtN_sorted {ms:List Nat} (h:ms.Nodup):(srtN ms).Pairwise (· < ·):=by
 have a:=srtI_sorted (ms.map fun (x:Nat)=>(x:Int))
 rw [<- srtN_cast,List.pairwise_map] at a
 have b:(srtN ms).Nodup:=(srtN_perm ms).nodup_iff.mpr h
 refine (List.Pairwise.and a b).imp fun {x y} ⟨p,q⟩=>?_
 have:x ≠ y:=q
 omega
noncomputable def sp__law_places (K:Frag):Sp:=fun vs H Q _=>match vs with
 | [.int c,.int w]=>1 <= w /\ w <= 48 /\ ∀ (ps:List Nat) q H',ps.Pairwise (· < ·) -> (∀ i ∈ ps,(i:Int) < w) -> ps.length <= 8 -> 1 <= ps.length -> H q = none -> Same H H' -> H' q = some (.lst (ps.map pl)) -> Q (.ref q) H'
 | _=>False
theorem ok__law_places (T:Top K mg):Callee P w K mg base 2 "_law_places" ["_law_cell", "_law_width_here"] (sp__law_places K):=by
 refine T.f__law_places.cal sc__law_places (by intro vs H Q E h; unfold sp__law_places at h; split at h <;> first | rfl | exact h.elim) (fun _ _ _ _ _ _ us hl=>match us,hl with | [_,_],_=>rfl) (fun f cdv A outer s H vs Q E hr h=>?_)
 unfold sp__law_places at h
 split at h
 case h_2=>exact h.elim
 refine ⟨_,(pss_cons (ps_if (qt_cmp op_leK (qv 1) pe_int) (pss_one (ps_ret (qe_listrng rfl rfl T.b_list rfl T.b_range (qv 1)))) pss_nil)
   (pss_cons (ps_set (i:=2) sc__law_places.nd rfl lc (pe_lst pa_nil))
   (pss_cons (ps_set (i:=3) sc__law_places.nd rfl lc pe_int)
   (pss_join (ps_if (qt_cmp op_eqK (pe_op op_modK (pe_op op_fdivK (qv 0) pe_int) pe_int) pe_int) (pss_one (ps_set (i:=3) sc__law_places.nd rfl lc pe_int)) pss_nil)
   (pss_cons (qs_for PassesOwn.never rfl (iterE K rfl (pe_fn (ok__law_stream T) hr.m rfl (pa_cons (qv 0) (pa_cons (qv 3) pa_nil)))) (pg_name (i:=4) sc__law_places.nd rfl lc) (pss_one (ps_if (qt_cmp (notinE K rfl) (pe_op op_modK (qv 4) (qv 1)) (qv 2)) (pss_one (ps_expr (qe_append (qv 2) (pe_op op_modK (qv 4) (qv 1))))) pss_nil)))
   (pss_one (ps_ret (pe_callB (call_sortedI K rfl) rfl T.b_sorted bb_sorted (pa_cons (qv 2) pa_nil))))))))),?_⟩
 rename_i c w
 obtain ⟨h1,h2,q⟩:=h
 walk_at "rd"
 refine ite2 (fun g=>⟨by omega,by omega,fun p hp=>?_⟩) fun g=>?_
 ·refine q (List.range w.toNat) p _ (List.pairwise_lt_range) (fun i hi=>?_) (by simp; omega) (by simp; omega) hp (same_new hp _) upd_same
  have:=List.mem_range.mp hi
  omega
 ·refine ⟨by decide,fun p hp=>⟨fun σ' H'=>∃ m:Int,5 <= m /\ m <= 8 /\ σ' = [some (.int c),some (.int w),some (.ref p),some (.int m),none] /\ H' = upd H p (.lst []),ite2 (fun _=>⟨8,by decide,by decide,rfl,rfl⟩) fun _=>⟨5,by decide,by decide,rfl,rfl⟩,?_⟩⟩
  rintro σ' H' ⟨m,hm1,hm2,rfl,rfl⟩
  walk_at "rd"
  refine ⟨by omega,by omega,fun a H1 fa s1 e1=>.inl ⟨⟨_,SqL.of e1⟩,?_⟩⟩
  have npa:p ≠ a:=ne_of_none upd_same fa
  have sl:=stream_len c m.toNat
  refine loop_items V.int (stream c m.toNat) (fun i σ H'=>∃ u,∃ ms:List Nat,σ = [some (.int c),some (.int w),some (.ref p),some (.int m),u] /\ Same H H' /\ H' a = some (.lst ((stream c m.toNat).map V.int)) /\ H' p = some (.lst (ms.map pl)) /\ ms.Nodup /\ (∀ x ∈ ms,(x:Int) < w) /\ ms.length <= i /\ (0 < i -> 1 <= ms.length))
   ⟨none,[],rfl,(same_new hp _).trans s1,e1,s1 _ _ upd_same,List.nodup_nil,fun x hx=>(List.not_mem_nil hx).elim,Nat.le_refl _,fun z=>absurd z (Nat.lt_irrefl _)⟩ (fun i σ H' _ ⟨_,_,_,_,z,_⟩=>SqL.of z) ?_ ?_
  ·rintro i e σ H2 he ⟨u,ms,rfl,s2,e2,e3,nd,lt,le,ge⟩
   have hi:=(List.getElem?_eq_some_iff.mp he).1
   obtain ⟨x,hx⟩:∃ x:Nat,e % w = (x:Int):=⟨(e % w).toNat,by have:=Int.emod_nonneg e (show w ≠ 0 by omega); omega⟩
   have hxw:(x:Int) < w:=by rw [<- hx]; exact Int.emod_lt_of_pos e (by omega)
   walk_at "rd"
   refine ⟨by omega,_,.inl (SqL.of e3),rfl,flat_ints ms,?_⟩
   rw [hx,in_ints]
   refine ite2 (fun g1=>?_) fun g1=>?_
   ·have nm:x ∉ ms:=of_decide_eq_false g1
    refine ⟨⟨_,e3⟩,by omega,_,e3,by rw [List.length_map]; exact sizeBig (by omega),some (.int e),ms ++ [x],rfl,same_upd s2 hp,by rw [upd_ne npa.symm]; exact e2,?_,?_,?_,by simp; omega,fun _=>by simp⟩
    ·rw [upd_same,List.map_append]
     rfl
    ·rw [List.nodup_append]
     exact ⟨nd,by simp,fun y hy z hz=>by rw [List.mem_singleton.mp hz]; exact fun e=>nm (e ▸ hy)⟩
    ·intro y hy
     rcases List.mem_append.mp hy with hy | hy
     ·exact lt y hy
     ·rw [List.mem_singleton.mp hy]; exact hxw
   ·have im:x ∈ ms:=Classical.byContradiction fun z=>g1 (decide_eq_false z)
    exact ⟨some (.int e),ms,rfl,s2,e2,e3,nd,lt,by omega,fun _=>List.length_pos_of_mem im⟩
  ·rintro σ H2 ⟨u,ms,rfl,s2,e2,e3,nd,lt,le,ge⟩
   walk_at "rd"
   rw [sl] at le ge
   refine ⟨ms.map fun (x:Nat)=>(x:Int),SqL.of (by rw [e3,List.map_map]; rfl),by rw [List.length_map]; omega,fun r hr=>?_⟩
   have pm:=srtN_perm ms
   refine q (srtN ms) r _ (srtN_sorted nd) (fun i hi=>lt i (pm.mem_iff.mp hi)) (by rw [pm.length_eq]; omega) (by rw [pm.length_eq]; exact ge (by omega)) (s2.free hr) (s2.trans (same_new hr _)) ?_
   rw [upd_same,<- srtN_cast,List.map_map]
   rfl
theorem sign3 (m:Int):∃ c,atI [48,49,45] (m % 3) = some c /\ (c = 48 \/ c = 49 \/ c = 45):=by
 have h1:=Int.emod_nonneg m (show (3:Int) ≠ 0 by decide)
 have h2:=Int.emod_lt_of_pos m (show (0:Int) < 3 by decide)
 generalize m % 3 = k at h1 h2
 have:k = 0 \/ k = 1 \/ k = 2:=by omega
 rcases this with rfl | rfl | rfl
 ·exact ⟨48,rfl,.inl rfl⟩
 ·exact ⟨49,rfl,.inr (.inl rfl)⟩
 ·exact ⟨45,rfl,.inr (.inr rfl)⟩
noncomputable def sp__law_shorts (K:Frag):Sp:=fun vs H Q _=>match vs with
 | [.ref p,.int m]=>∃ (ns:List Int) (n:Nat),SqL K H p (ns.map V.int) /\ m = (n:Int) /\ n <= 100 /\ ns.length <= 100 /\ ∀ (rs:List (List Nat)) q H',rs.length = ns.length -> IsRows rs n -> H q = none -> Same H H' -> H' q = some (.lst (rs.map tx)) -> Q (.ref q) H'
 | _=>False
theorem ok__law_shorts (T:Top K mg):Callee P w K mg base 2 "_law_shorts" ["_law_cells", "_law_many"] (sp__law_shorts K):=by
 refine T.f__law_shorts.cal sc__law_shorts (by intro vs H Q E h; unfold sp__law_shorts at h; split at h <;> first | rfl | exact h.elim) (fun _ _ _ _ _ _ us hl=>match us,hl with | [_,_],_=>rfl) (fun f cdv A outer s H vs Q E hr h=>?_)
 unfold sp__law_shorts at h
 split at h
 case h_2=>exact h.elim
 refine ⟨_,(pss_cons (ps_set (i:=2) sc__law_shorts.nd rfl lc (pe_lst pa_nil))
   (pss_cons (qs_for PassesOwn.never rfl (iterE K rfl (qv 0)) (pg_name (i:=3) sc__law_shorts.nd rfl lc) (pss_cons (ps_set (i:=4) sc__law_shorts.nd rfl lc (pe_op op_addK pe_int (pe_op op_modK (qv 3) pe_int)))
   (pss_cons (ps_set (i:=5) sc__law_shorts.nd rfl lc (pe_lst pa_nil))
   (pss_cons (qs_for PassesOwn.never rfl (iterE K rfl (pe_fn (ok__law_stream T) hr.m rfl (pa_cons (pe_op op_fdivK (qv 3) pe_int) (pa_cons (qv 1) pa_nil)))) (pg_name (i:=6) sc__law_shorts.nd rfl lc) (pss_cons (ps_expr (qe_append (qv 5) (pe_ix (ixE K rfl) (qs [48,49,45]) (pe_op op_modK (pe_op op_fdivK (qv 6) pe_int) pe_int) (fun _ _=>rfl))))
   (pss_one (ps_if (qt_cmp op_ltK (pe_op op_modK (qv 6) pe_int) (pe_op op_subK (qv 4) pe_int)) (pss_one (ps_asg (qs [45]) (pg_sub (qv 5) (qe_neg pe_int) set_list (fun _=>rfl)))) pss_nil))))
   (pss_one (ps_expr (qe_append (qv 2) (joinE K rfl (qv 5)))))))))
   (pss_one (ps_ret (qv 2))))),?_⟩
 rename_i p m
 obtain ⟨ns,n,h1,rfl,hn,hl,q⟩:=h
 walk_at "rd"
 refine ⟨by decide,fun g hg=>.inl ⟨⟨_,(same_new hg _).seq h1⟩,?_⟩⟩
 refine loop_items V.int ns (fun i σ H'=>∃ u1 u2 u3 u4,∃ rs:List (List Nat),σ = [some (.ref p),some (.int n),some (.ref g),u1,u2,u3,u4] /\ Same H H' /\ H' g = some (.lst (rs.map tx)) /\ rs.length = i /\ IsRows rs n)
  ⟨none,none,none,none,[],rfl,same_new hg _,upd_same,rfl,fun r hr=>(List.not_mem_nil hr).elim⟩ (fun i σ H' _ ⟨_,_,_,_,_,_,s,_⟩=>s.seq h1) ?_ ?_
 ·rintro i c σ H1 hc ⟨u1,u2,u3,u4,rs,rfl,s1,e1,len,rows⟩
  have hi:=(List.getElem?_eq_some_iff.mp hc).1
  walk_at "rd"
  refine ⟨by decide,fun z hz=>⟨by omega,by omega,fun a H2 fa s2 e2=>.inl ⟨⟨_,SqL.of e2⟩,?_⟩⟩⟩
  rw [Int.toNat_natCast] at e2
  have gz:g ≠ z:=ne_of_none e1 hz
  have za:z ≠ a:=ne_of_none upd_same fa
  have zH:H z = none:=s1.free hz
  have s02:=(s1.trans (same_new hz (.lst []))).trans s2
  have sl:=stream_len (c / 3) n
  refine loop_items V.int (stream (c / 3) n) (fun j σ H'=>∃ u,∃ l:List Nat,σ = [some (.ref p),some (.int n),some (.ref g),some (.int c),some (.int (1 + c % 3)),some (.ref z),u] /\ Same H H' /\ H' g = some (.lst (rs.map tx)) /\ H' a = some (.lst ((stream (c / 3) n).map V.int)) /\ H' z = some (.lst (l.map sg)) /\ l.length = j /\ IsRow l)
   ⟨_,[],rfl,s02,s2 _ _ (by rw [upd_ne gz]; exact e1),e2,s2 _ _ upd_same,rfl,fun r hr=>(List.not_mem_nil hr).elim⟩ (fun i σ H' _ ⟨_,_,_,_,_,w,_⟩=>SqL.of w) ?_ ?_
  ·rintro j e σ H3 he ⟨u,l,rfl,s3,g3,a3,z3,l3,r3⟩
   have hj:=(List.getElem?_eq_some_iff.mp he).1
   rw [sl] at hj
   walk_at "rd"
   obtain ⟨d,hd,hd3⟩:=sign3 (e / 8)
   have ag:a ≠ g:=fun x=>by subst x; rw [upd_ne gz,e1] at fa; cases fa
   have small:(l.map sg).length < sizeLine:=by rw [List.length_map]; exact sizeBig (by omega)
   have fin:∀ k,(k = 48 \/ k = 49 \/ k = 45) -> IsRow (l ++ [k]):=fun k hk x hx=>by
    rcases List.mem_append.mp hx with hx | hx
    ·exact r3 x hx
    ·rw [List.mem_singleton.mp hx]; exact hk
   refine ⟨⟨_,z3⟩,d,hd,_,z3,small,ite2 (fun _=>⟨_,l.length,upd_same,?_,?_⟩) fun _=>?_⟩
   ·rw [List.length_append,List.length_map,List.length_singleton]
    unfold ixN
    rw [if_neg (by decide),if_pos (by omega)]
    congr 1
    omega
   ·refine ⟨some (.int e),l ++ [45],rfl,same_upd (same_upd s3 zH) zH,?_,?_,?_,by simp [l3],fin 45 (.inr (.inr rfl))⟩
    ·rw [upd_ne gz,upd_ne gz]; exact g3
    ·rw [upd_ne za.symm,upd_ne za.symm]; exact a3
    ·rw [upd_same,List.set_append_right _ _ (by rw [List.length_map]; exact Nat.le_refl _),List.length_map,Nat.sub_self,List.map_append]
     rfl
   ·refine ⟨some (.int e),l ++ [d],rfl,same_upd s3 zH,?_,?_,?_,by simp [l3],fin d hd3⟩
    ·rw [upd_ne gz]; exact g3
    ·rw [upd_ne za.symm]; exact a3
    ·rw [upd_same,List.map_append]
     rfl
  ·rintro σ H3 ⟨u,l,rfl,s3,g3,a3,z3,l3,r3⟩
   rw [sl] at l3
   walk_at "rd"
   refine ⟨⟨_,g3⟩,l,SqL.of z3,by omega,_,g3,by rw [List.length_map]; exact sizeBig (by omega),_,_,_,_,rs ++ [l],rfl,same_upd s3 hg,?_,by simp [len],?_⟩
   ·rw [upd_same,List.map_append]
    rfl
   ·intro r hr
    rcases List.mem_append.mp hr with hr | hr
    ·exact rows r hr
    ·rw [List.mem_singleton.mp hr]; exact ⟨l3,r3⟩
 ·rintro σ H1 ⟨u1,u2,u3,u4,rs,rfl,s1,e1,len,rows⟩
  walk_at "rd"
  exact q rs g H1 len rows hg s1 e1
noncomputable def inH (hs:List (List Nat)) (x:List Nat):Bool:=hs.any fun r=>within x r
theorem within_cons (c d:Nat) (x r:List Nat):within (c :: x) (d :: r) = ((d == 45 || d == c) && within x r):=by
 unfold within
 rw [List.zip_cons_cons,List.all_cons]
theorem within_dashes:∀ (n:Nat) (x:List Nat),within x (dashes n) = true
 | 0,x=>by
  unfold within dashes
  simp
 | n + 1,[]=>by simp [within]
 | n + 1,c :: x=>by
  show within (c :: x) (45 :: dashes n) = true
  rw [within_cons,within_dashes n x]
  rfl
theorem inH_side {hs:List (List Nat)} {n:Nat} (w:∀ r ∈ hs,r.length = n + 1) (c:Nat) (x:List Nat):inH hs (c :: x) = inH (sideL hs c) x:=by
 unfold inH
 rw [Bool.eq_iff_iff,List.any_eq_true,List.any_eq_true]
 constructor
 ·rintro ⟨r,hr,h⟩
  cases r with
  | nil=>have:=w _ hr; simp at this
  | cons d r=>
   rw [within_cons,Bool.and_eq_true] at h
   refine ⟨r,srt_mem.mpr (List.mem_map.mpr ⟨d :: r,List.mem_filter.mpr ⟨hr,?_⟩,rfl⟩),h.2⟩
   have:=h.1
   simp only [Bool.or_eq_true,beq_iff_eq] at this
   show (decide (d = c) || decide (d = 45)) = true
   rcases this with e | e <;> simp [e]
 ·rintro ⟨r,hr,h⟩
  obtain ⟨y,hy,rfl⟩:=List.mem_map.mp (srt_mem.mp hr)
  obtain ⟨h1,h2⟩:=List.mem_filter.mp hy
  cases y with
  | nil=>have:=w _ h1; simp at this
  | cons d r=>
   refine ⟨d :: r,h1,?_⟩
   rw [within_cons,Bool.and_eq_true]
   refine ⟨?_,h⟩
   have h2:(decide (d = c) || decide (d = 45)) = true:=h2
   rw [Bool.or_eq_true,decide_eq_true_eq,decide_eq_true_eq] at h2
   rcases h2 with e | e <;> simp [e]
noncomputable def fitAt (x r:List Nat) (i:Nat):Bool:=r.getD i 0 == 45 || r.getD i 0 == x.getD i 0
theorem within_all:∀ (W:Nat) (x r:List Nat),x.length = W -> r.length = W -> within x r = (List.range W).all (fitAt x r)
 | 0,x,r,h1,h2=>by
  rw [List.length_eq_zero_iff.mp h1]
  rfl
 | W + 1,c :: x,d :: r,h1,h2=>by
  rw [within_cons,within_all W x r (by simpa using h1) (by simpa using h2),List.range_succ_eq_map,List.all_cons,List.all_map]
  rfl
theorem within_narrow (x r ps:List Nat):within (narrow x ps) (narrow r ps) = ps.all (fitAt x r):=by
 unfold within narrow
 induction ps with
 | nil=>rfl
 | cons p ps ih=>
  rw [List.map_cons,List.map_cons,List.zip_cons_cons,List.all_cons,ih]
  rfl
theorem inH_narrow {hs:List (List Nat)} {W:Nat} (w:∀ r ∈ hs,r.length = W) {x:List Nat} (hx:x.length = W):inH hs x = inH (narrowL hs (placesL hs W)) (narrow x (placesL hs W)):=by
 have one:∀ r ∈ hs,within x r = within (narrow x (placesL hs W)) (narrow r (placesL hs W)):=fun r hr=>by
  rw [within_all W x r hx (w r hr),within_narrow,Bool.eq_iff_iff,List.all_eq_true,List.all_eq_true]
  constructor
  ·intro h i hi
   exact h i (List.mem_filter.mp hi).1
  ·intro h i hi
   by_cases ht:told hs i = true
   ·exact h i (List.mem_filter.mpr ⟨hi,ht⟩)
   ·have:r.getD i 0 = 45:=by
     apply Classical.byContradiction
     intro z
     exact ht (List.any_eq_true.mpr ⟨r,hr,by simpa using z⟩)
    unfold fitAt
    rw [this]
    rfl
 unfold inH
 rw [Bool.eq_iff_iff,List.any_eq_true,List.any_eq_true]
 constructor
 ·rintro ⟨r,hr,h⟩
  exact ⟨_,srt_mem.mpr (List.mem_map.mpr ⟨r,hr,rfl⟩),one r hr ▸ h⟩
 ·rintro ⟨y,hy,h⟩
  obtain ⟨r,hr,rfl⟩:=List.mem_map.mp (srt_mem.mp hy)
  exact ⟨r,hr,(one r hr).symm ▸ h⟩
theorem places_sorted (hs:List (List Nat)) (W:Nat):(placesL hs W).Pairwise (· < ·):=List.Pairwise.filter _ List.pairwise_lt_range
theorem setAll_other:∀ (ps s d:List Nat) (i:Nat),i ∉ ps -> (setAll s ps d).getD i 0 = d.getD i 0
 | [],s,d,i,_=>by
  cases s <;> rfl
 | p :: ps,[],d,i,_=>rfl
 | p :: ps,x :: s,d,i,h=>by
  show (setAll s ps (d.set p x)).getD i 0 = _
  rw [setAll_other ps s _ i fun z=>h (List.mem_cons_of_mem _ z)]
  have:p ≠ i:=fun e=>h (e ▸ List.mem_cons_self)
  simp [List.getD_eq_getElem?_getD,List.getElem?_set_ne this]
theorem narrow_set {ps s d:List Nat} (hl:s.length = ps.length) (nd:ps.Nodup) (lt:∀ p ∈ ps,p < d.length):narrow (setAll s ps d) ps = s:=by
 induction ps generalizing s d with
 | nil=>
  rw [List.length_eq_zero_iff.mp hl]
  rfl
 | cons p ps ih=>
  cases s with
  | nil=>simp at hl
  | cons x s=>
   rw [List.nodup_cons] at nd
   show (setAll s ps (d.set p x)).getD p 0 :: narrow (setAll s ps (d.set p x)) ps = x :: s
   rw [ih (by simpa using hl) nd.2 (fun q hq=>by rw [List.length_set]; exact lt q (List.mem_cons_of_mem _ hq)),setAll_other ps s _ p nd.1]
   have:=lt p List.mem_cons_self
   simp [List.getD_eq_getElem?_getD,this]
theorem setAll_size (s ps b:List Nat):(setAll s ps b).length = b.length:=by
 unfold setAll
 generalize s.zip ps = l
 induction l generalizing b with
 | nil=>rfl
 | cons q l ih=>rw [List.foldl_cons,ih,List.length_set]
theorem within_laid {W:Nat} {ps s x:List Nat} (hl:s.length = ps.length) (nd:ps.Nodup) (lt:∀ p ∈ ps,p < W) (hx:x.length = W):within x (setAll s ps (dashes W)) = within (narrow x ps) s:=by
 have hd:(dashes W).length = W:=by simp [dashes]
 have e:within (narrow x ps) s = within (narrow x ps) (narrow (setAll s ps (dashes W)) ps):=by rw [narrow_set hl nd (by rw [hd]; exact lt)]
 rw [e,within_narrow,within_all W x _ hx (by rw [setAll_size,hd]),Bool.eq_iff_iff,List.all_eq_true,List.all_eq_true]
 constructor
 ·intro h i hi
  exact h i (List.mem_range.mpr (lt i hi))
 ·intro h i hi
  by_cases ht:i ∈ ps
  ·exact h i ht
  ·unfold fitAt
   rw [setAll_other ps s _ i ht]
   have:=List.mem_range.mp hi
   simp [dashes,this]
theorem ok_within {s c:List Nat} (h:∀ k ∈ c,k = 48 \/ k = 49):okL s c = within c s:=by
 unfold okL within
 induction s generalizing c with
 | nil=>simp
 | cons a s ih=>
  cases c with
  | nil=>rfl
  | cons b c=>
   rw [List.zip_cons_cons,List.all_cons,List.zip_cons_cons,List.all_cons,ih fun k hk=>h k (List.mem_cons_of_mem _ hk)]
   have hb:(b == 45) = false:=by
    rw [beq_eq_false_iff_ne]
    rcases h b List.mem_cons_self with z | z <;> omega
   unfold okS
   rw [hb,Bool.or_false]
theorem inH_perm {a b:List (List Nat)} (h:∀ r,r ∈ a ↔ r ∈ b) (x:List Nat):inH a x = inH b x:=by
 unfold inH
 rw [Bool.eq_iff_iff,List.any_eq_true,List.any_eq_true]
 exact ⟨fun ⟨r,h1,h2⟩=>⟨r,(h r).mp h1,h2⟩,fun ⟨r,h1,h2⟩=>⟨r,(h r).mpr h1,h2⟩⟩
theorem choices_let:∀ n,∀ c ∈ choicesL n,IsLet c
 | 0,c,h=>by rw [List.mem_singleton.mp h]; intro k hk; cases hk
 | n + 1,c,h=>by
  rw [choicesL] at h
  rcases List.mem_append.mp h with h | h
  all_goals
   obtain ⟨d,hd,rfl⟩:=List.mem_map.mp h
   intro k hk
   rcases List.mem_append.mp hk with hk | hk
   ·exact choices_let n d hd k hk
   ·rw [List.mem_singleton.mp hk]
    simp
theorem inH_laid {ss hs:List (List Nat)} {W:Nat} {pl x:List Nat} (hn:∀ s ∈ ss,s.length = pl.length) (nd:pl.Nodup) (lt:∀ p ∈ pl,p < W) (hm:∀ r,r ∈ hs ↔ r ∈ ss.map fun s=>setAll s pl (dashes W)) (hx:x.length = W):inH hs x = inH ss (narrow x pl):=by
 rw [inH_perm hm]
 unfold inH
 rw [List.any_map,Bool.eq_iff_iff,List.any_eq_true,List.any_eq_true]
 constructor
 ·rintro ⟨s,h1,h2⟩
  exact ⟨s,h1,by rw [<- within_laid (hn s h1) nd lt hx]; exact h2⟩
 ·rintro ⟨s,h1,h2⟩
  exact ⟨s,h1,by
   show within x (setAll s pl (dashes W)) = true
   rw [within_laid (hn s h1) nd lt hx]; exact h2⟩
theorem any_ok {ss:List (List Nat)} {c:List Nat} (h:IsLet c):(ss.any fun s=>okL s c) = inH ss c:=by
 unfold inH
 congr 1
 funext s
 exact ok_within h
noncomputable abbrev Node:=Nat × Nat × Nat
noncomputable abbrev Rows:=List (List Nat)
noncomputable def getG (kn:List (Rows × Nat)) (hs:Rows):Option Nat:=(kn.find? fun kv=>decide (kv.1 = hs)).map (·.2)
noncomputable def putG (kn:List (Rows × Nat)) (hs:Rows) (r:Nat):List (Rows × Nat):=
 if (kn.any fun kv=>decide (kv.1 = hs)) = true then kn.map (fun kv=>if kv.1 = hs then (kv.1,r) else kv) else kn ++ [(hs,r)]
noncomputable def numG (ns:List Node) (x:Node):Nat × List Node:=if x.2.1 = x.2.2 then (x.2.1,ns) else if x ∈ ns then (ns.idxOf x + 2,ns) else (ns.length + 2,ns ++ [x])
noncomputable abbrev GS:=List Node × List (Rows × Nat)
noncomputable def growG:List Nat -> Rows -> GS -> Nat × GS
 | [],hs,s=>(if hs = [] then 0 else 1,s)
 | p :: ps,hs,s=>if hs = [] then (0,s) else if dashes (ps.length + 1) ∈ hs then (1,s) else
  match getG s.2 hs with
  | some r=>(r,s)
  | none=>
   let a:=growG ps (sideL hs 48) s
   let b:=growG ps (sideL hs 49) a.2
   let c:=numG b.2.1 (p,a.1,b.1)
   (c.1,(c.2,putG b.2.2 hs c.1))
noncomputable def endG (ns:List Node) (y:List Nat):Nat -> Nat -> Nat
 | 0,r=>r
 | k + 1,r=>if r < 2 then r else match ns[r - 2]? with
  | some x=>endG ns y k (if y.getD x.1 0 = 48 then x.2.1 else x.2.2)
  | none=>r
def topG (ns:List Node) (r:Nat) (p:Nat):Prop:=r < ns.length + 2 /\ ∀ x,ns[r - 2]? = some x -> 2 <= r -> p <= x.1
structure GoodG (W:Nat) (ns:List Node):Prop where
 nd:ns.Nodup
 at_:∀ i x,ns[i]? = some x -> x.1 < W /\ x.2.1 ≠ x.2.2 /\ x.2.1 < i + 2 /\ x.2.2 < i + 2 /\ topG ns x.2.1 (x.1 + 1) /\ topG ns x.2.2 (x.1 + 1)
theorem topG_app {ns ms:List Node} {r p:Nat} (h:topG ns r p):topG (ns ++ ms) r p:=by
 obtain ⟨h1,h2⟩:=h
 refine ⟨by rw [List.length_append]; omega,fun x hx h=>?_⟩
 rw [List.getElem?_append_left (by omega)] at hx
 exact h2 x hx h
theorem topG_less {ns:List Node} {r p q:Nat} (h:topG ns r p) (hq:q <= p):topG ns r q:=⟨h.1,fun x hx h2=>Nat.le_trans hq (h.2 x hx h2)⟩
theorem good_snoc {W:Nat} {ns:List Node} {x:Node} (g:GoodG W ns) (hx:x ∉ ns) (h1:x.1 < W) (h2:x.2.1 ≠ x.2.2) (h3:topG ns x.2.1 (x.1 + 1)) (h4:topG ns x.2.2 (x.1 + 1)):GoodG W (ns ++ [x]):=by
 refine ⟨List.nodup_append.mpr ⟨g.nd,by simp,fun a ha b hb e=>?_⟩,fun i y hy=>?_⟩
 ·rw [List.mem_singleton.mp hb] at e
  exact hx (e ▸ ha)
 ·by_cases hi:i < ns.length
  ·rw [List.getElem?_append_left hi] at hy
   obtain ⟨a,b,c,d,e,f⟩:=g.at_ i y hy
   exact ⟨a,b,c,d,topG_app e,topG_app f⟩
  ·have hl:=(List.getElem?_eq_some_iff.mp hy).1
   rw [List.length_append,List.length_singleton] at hl
   obtain rfl:i = ns.length:=by omega
   rw [List.getElem?_append_right (Nat.le_refl _),Nat.sub_self] at hy
   obtain rfl:x = y:=by simpa using hy
   exact ⟨h1,h2,h3.1,h4.1,topG_app h3,topG_app h4⟩
noncomputable def evG (ns:List Node) (y:List Nat) (r:Nat):Nat:=endG ns y r r
theorem end_low (ns:List Node) (y:List Nat) (k r:Nat) (h:r < 2):endG ns y k r = r:=by
 cases k with
 | zero=>rfl
 | succ k=>rw [endG,if_pos h]
theorem end_app {W:Nat} {ns ms:List Node} {y:List Nat} (g:GoodG W ns):∀ k r,r < ns.length + 2 -> endG (ns ++ ms) y k r = endG ns y k r
 | 0,r,_=>rfl
 | k + 1,r,h=>by
  by_cases h2:r < 2
  ·rw [end_low _ _ _ _ h2,end_low _ _ _ _ h2]
  ·have hl:r - 2 < ns.length:=by omega
   rw [endG,endG,if_neg h2,if_neg h2,List.getElem?_append_left hl,List.getElem?_eq_getElem hl]
   obtain ⟨_,_,_,_,t1,t2⟩:=g.at_ _ _ (List.getElem?_eq_getElem hl)
   refine end_app g k _ ?_
   split
   ·exact t1.1
   ·exact t2.1
theorem end_more {W:Nat} {ns:List Node} {y:List Nat} (g:GoodG W ns):∀ n r k,r <= n -> r < ns.length + 2 -> r <= k -> endG ns y k r = evG ns y r
 | 0,r,k,h,_,_=>by
  obtain rfl:r = 0:=by omega
  unfold evG
  rw [end_low _ _ _ _ (by decide),end_low _ _ _ _ (by decide)]
 | n + 1,r,k,h,hr,hk=>by
  by_cases h2:r < 2
  ·unfold evG
   rw [end_low _ _ _ _ h2,end_low _ _ _ _ h2]
  ·have hl:r - 2 < ns.length:=by omega
   obtain ⟨k',rfl⟩:∃ k',k = k' + 1:=⟨k - 1,by omega⟩
   obtain ⟨r',rfl⟩:∃ r',r = r' + 1:=⟨r - 1,by omega⟩
   obtain ⟨_,_,b1,b2,t1,t2⟩:=g.at_ _ _ (List.getElem?_eq_getElem hl)
   unfold evG
   rw [endG,endG,if_neg h2,if_neg h2,List.getElem?_eq_getElem hl]
   have hc:∀ c,c < r' + 1 -> c < ns.length + 2 -> endG ns y k' c = endG ns y r' c:=fun c h3 h4=>by
    rw [end_more g n c k' (by omega) h4 (by omega),end_more g n c r' (by omega) h4 (by omega)]
   show endG ns y k' _ = endG ns y r' _
   split
   ·exact hc _ (by omega) t1.1
   ·exact hc _ (by omega) t2.1
theorem ev_app {W:Nat} {ns ms:List Node} {y:List Nat} {r:Nat} (g:GoodG W ns) (h:r < ns.length + 2):evG (ns ++ ms) y r = evG ns y r:=end_app g _ _ h
theorem ev_step {W:Nat} {ns:List Node} {y:List Nat} {r:Nat} {x:Node} (g:GoodG W ns) (h2:2 <= r) (hx:ns[r - 2]? = some x):evG ns y r = evG ns y (if y.getD x.1 0 = 48 then x.2.1 else x.2.2):=by
 have hl:r - 2 < ns.length:=(List.getElem?_eq_some_iff.mp hx).1
 obtain ⟨r',rfl⟩:∃ r',r = r' + 1:=⟨r - 1,by omega⟩
 obtain ⟨_,_,b1,b2,t1,t2⟩:=g.at_ _ _ hx
 show endG ns y (r' + 1) (r' + 1) = _
 rw [endG,if_neg (by omega),hx]
 show endG ns y r' _ = _
 split
 ·exact end_more g _ _ _ (Nat.le_refl _) t1.1 (by omega)
 ·exact end_more g _ _ _ (Nat.le_refl _) t2.1 (by omega)
def NumG (P:List Nat) (ns:List Node) (r:Nat) (ps:List Nat) (hs:Rows):Prop:=
 (∀ q,(∀ p ∈ ps,q <= p) -> topG ns r q) /\ ∀ y:List Nat,(∀ p ∈ P,y.getD p 0 = 48 \/ y.getD p 0 = 49) -> evG ns y r = if inH hs (narrow y ps) = true then 1 else 0
def KnownG (P:List Nat) (ns:List Node) (kn:List (Rows × Nat)):Prop:=
 ∀ e ∈ kn,e.1 ≠ [] /\ ∃ qs,qs <:+ P /\ (∀ r ∈ e.1,r.length = qs.length) /\ NumG P ns e.2 qs e.1
theorem num_lt {P:List Nat} {ns:List Node} {r:Nat} {ps:List Nat} {hs:Rows} (h:NumG P ns r ps hs):r < ns.length + 2:=(h.1 0 fun _ _=>Nat.zero_le _).1
theorem num_app {W:Nat} {P:List Nat} {ns ms:List Node} {r:Nat} {ps:List Nat} {hs:Rows} (g:GoodG W ns) (h:NumG P ns r ps hs):NumG P (ns ++ ms) r ps hs:=
 ⟨fun q hq=>topG_app (h.1 q hq),fun y hy=>by rw [ev_app g (num_lt h)]; exact h.2 y hy⟩
theorem known_app {W:Nat} {P:List Nat} {ns ms:List Node} {kn:List (Rows × Nat)} (g:GoodG W ns) (h:KnownG P ns kn):KnownG P (ns ++ ms) kn:=fun e he=>by
 obtain ⟨h0,qs,h1,h2,h3⟩:=h e he
 exact ⟨h0,qs,h1,h2,num_app g h3⟩
theorem get_mem {kn:List (Rows × Nat)} {hs:Rows} {r:Nat} (h:getG kn hs = some r):(hs,r) ∈ kn:=by
 unfold getG at h
 cases e:kn.find? fun kv=>decide (kv.1 = hs) with
 | none=>rw [e] at h; cases h
 | some x=>
  rw [e] at h
  have h1:=List.mem_of_find?_eq_some e
  have h2:x.1 = hs:=by simpa using List.find?_some e
  have h3:x.2 = r:=by simpa using h
  rw [<- h2,<- h3]
  exact h1
theorem mem_put {kn:List (Rows × Nat)} {hs:Rows} {r:Nat} {e:Rows × Nat} (h:e ∈ putG kn hs r):e ∈ kn \/ e = (hs,r):=by
 unfold putG at h
 split at h
 ·obtain ⟨x,hx,rfl⟩:=List.mem_map.mp h
  split
  ·rename_i hk; exact .inr (by rw [hk])
  ·exact .inl hx
 ·rcases List.mem_append.mp h with z | z
  ·exact .inl z
  ·exact .inr (List.mem_singleton.mp z)
theorem suffix_len {α:Type} {a b P:List α} (ha:a <:+ P) (hb:b <:+ P) (h:a.length = b.length):a = b:=by
 rw [List.suffix_iff_eq_drop.mp ha,List.suffix_iff_eq_drop.mp hb,h]
theorem node_at {ns:List Node} {x:Node} (h:x ∈ ns):ns[ns.idxOf x]? = some x:=by
 have hl:=List.idxOf_lt_length_iff.mpr h
 rw [List.getElem?_eq_getElem hl,List.getElem_idxOf hl]
theorem num_node {W:Nat} {ns:List Node} {x:Node} (g:GoodG W ns) (h1:x.1 < W) (h3:topG ns x.2.1 (x.1 + 1)) (h4:topG ns x.2.2 (x.1 + 1)):
  ∃ ms,(numG ns x).2 = ns ++ ms /\ (∀ z ∈ ms,z = x) /\ GoodG W (ns ++ ms) /\ (∀ q,q <= x.1 -> topG (ns ++ ms) (numG ns x).1 q) /\ ∀ y,evG (ns ++ ms) y (numG ns x).1 = evG (ns ++ ms) y (if y.getD x.1 0 = 48 then x.2.1 else x.2.2):=by
 unfold numG
 split
 ·rename_i e
  refine ⟨[],by simp,by simp,by simpa using g,fun q hq=>by simpa using topG_less h3 (by omega),fun y=>?_⟩
  rw [<- e]
  split <;> rfl
 ·rename_i ne
  split
  ·rename_i hm
   have hl:=List.idxOf_lt_length_iff.mpr hm
   have ha:ns[ns.idxOf x + 2 - 2]? = some x:=by rw [Nat.add_sub_cancel]; exact node_at hm
   refine ⟨[],by simp,by simp,by simpa using g,fun q hq=>?_,fun y=>?_⟩
   ·simp only [List.append_nil]
    exact ⟨by omega,fun z hz _=>by
     have hz':ns[ns.idxOf x + 2 - 2]? = some z:=hz
     rw [ha] at hz'
     cases hz'
     exact hq⟩
   ·simp only [List.append_nil]
    exact ev_step g (by omega) ha
  ·rename_i hm
   have g':=good_snoc g hm h1 ne h3 h4
   have ha:(ns ++ [x])[ns.length + 2 - 2]? = some x:=by simp
   refine ⟨[x],rfl,fun z hz=>List.mem_singleton.mp hz,g',fun q hq=>⟨by simp,fun z hz _=>?_⟩,fun y=>ev_step g' (by omega) ha⟩
   have hz':(ns ++ [x])[ns.length + 2 - 2]? = some z:=hz
   rw [ha] at hz'
   cases hz'
   exact hq
theorem grow_step {p:Nat} {ps:List Nat} {hs:Rows} {A B:Nat × GS} {u:GS} (h0:hs ≠ []) (h1:dashes (ps.length + 1) ∉ hs) (hk:getG u.2 hs = none) (hA:growG ps (sideL hs 48) u = A) (hB:growG ps (sideL hs 49) A.2 = B):
  growG (p :: ps) hs u = ((numG B.2.1 (p,A.1,B.1)).1,((numG B.2.1 (p,A.1,B.1)).2,putG B.2.2 hs (numG B.2.1 (p,A.1,B.1)).1)):=by
 subst hA
 subst hB
 rw [growG,if_neg h0,if_neg h1,hk]
theorem grow_good {W:Nat} {P:List Nat} (hP:∀ p ∈ P,p < W) (inc:P.Pairwise (· < ·)):∀ (ps:List Nat) (hs:Rows) (s:GS),ps <:+ P -> (∀ r ∈ hs,r.length = ps.length) -> GoodG W s.1 -> KnownG P s.1 s.2 ->
  ∃ ms,(growG ps hs s).2.1 = s.1 ++ ms /\ (∀ z ∈ ms,z.1 ∈ ps) /\ GoodG W (s.1 ++ ms) /\ KnownG P (s.1 ++ ms) (growG ps hs s).2.2 /\ NumG P (s.1 ++ ms) (growG ps hs s).1 ps hs
 | [],hs,s,_,hr,g,kn=>by
  refine ⟨[],by simp [growG],by simp,by simpa using g,by simpa [growG] using kn,fun q hq=>?_,fun y hy=>?_⟩
  ·unfold growG
   refine ⟨by split <;> simp,fun x hx h2=>?_⟩
   split at h2 <;> omega
  ·unfold growG
   have hl:∀ r ∈ hs,r = []:=fun r h=>List.length_eq_zero_iff.mp (hr r h)
   cases hs with
   | nil=>simp [evG,end_low,inH]
   | cons r hs=>
    have:r = []:=hl r List.mem_cons_self
    subst this
    simp [evG,end_low,inH,narrow,within]
 | p :: ps,hs,s,suf,hr,g,kn=>by
  have suf':ps <:+ P:=(List.suffix_cons p ps).trans suf
  have hpP:p ∈ P:=suf.subset List.mem_cons_self
  have hpl:∀ q ∈ ps,p + 1 <= q:=fun q hq=>(List.pairwise_cons.mp (inc.sublist suf.sublist)).1 q hq
  by_cases h0:hs = []
  ·rw [growG,if_pos h0]
   refine ⟨[],by simp,by simp,by simpa using g,by simpa using kn,fun q hq=>⟨by simp,fun x hx h2=>absurd (show 2 <= 0 from h2) (by decide)⟩,fun y hy=>?_⟩
   rw [h0]
   simp [evG,end_low,inH]
  by_cases h1:dashes (ps.length + 1) ∈ hs
  ·rw [growG,if_neg h0,if_pos h1]
   refine ⟨[],by simp,by simp,by simpa using g,by simpa using kn,fun q hq=>⟨by simp,fun x hx h2=>absurd (show 2 <= 1 from h2) (by decide)⟩,fun y hy=>?_⟩
   rw [if_pos (by unfold inH; exact List.any_eq_true.mpr ⟨_,h1,within_dashes _ _⟩)]
   exact end_low _ _ _ 1 (by decide)
  cases hk:getG s.2 hs with
  | some r=>
   rw [growG,if_neg h0,if_neg h1,hk]
   obtain ⟨_,qs,q1,q2,q3⟩:=kn _ (get_mem hk)
   obtain ⟨row,hrow⟩:=List.exists_mem_of_ne_nil _ h0
   have:qs = p :: ps:=suffix_len q1 suf (by rw [<- q2 row hrow,hr row hrow])
   rw [this] at q3
   exact ⟨[],by simp,by simp,by simpa using g,by simpa using kn,by simpa using q3⟩
  | none=>
   have wd:∀ c,∀ r ∈ sideL hs c,r.length = ps.length:=fun c=>side_width hr
   obtain ⟨m1,a1,a2,a3,a4,a5⟩:=grow_good hP inc ps (sideL hs 48) s suf' (wd 48) g kn
   generalize hA:growG ps (sideL hs 48) s = A at a1 a4 a5
   obtain ⟨m2,b1,b2,b3,b4,b5⟩:=grow_good hP inc ps (sideL hs 49) A.2 suf' (wd 49) (by rw [a1]; exact a3) (by rw [a1]; exact a4)
   generalize hB:growG ps (sideL hs 49) A.2 = B at b1 b4 b5
   rw [grow_step h0 h1 hk hA hB]
   rw [a1] at b1 b3 b4 b5
   have a5':=num_app (ms:=m2) a3 a5
   obtain ⟨m3,c1,c2,c3,c4,c5⟩:=num_node (x:=(p,A.1,B.1)) b3 (hP p hpP) (a5'.1 _ hpl) (b5.1 _ hpl)
   have hnum:NumG P (s.1 ++ m1 ++ m2 ++ m3) (numG (s.1 ++ m1 ++ m2) (p,A.1,B.1)).1 (p :: ps) hs:=by
    refine ⟨fun q hq=>c4 q (hq p List.mem_cons_self),fun y hy=>?_⟩
    rw [c5 y]
    have hn:narrow y (p :: ps) = y.getD p 0 :: narrow y ps:=rfl
    rw [hn]
    rcases hy p hpP with e | e
    ·rw [e,if_pos rfl,inH_side hr]
     exact (num_app b3 a5').2 y hy
    ·rw [e,if_neg (by decide),inH_side hr]
     exact (num_app b3 b5).2 y hy
   refine ⟨m1 ++ m2 ++ m3,?_,fun z hz=>?_,by simpa using c3,?_,?_⟩
   ·show (numG B.2.1 (p,A.1,B.1)).2 = _
    rw [b1,c1]
    simp
   ·rcases List.mem_append.mp hz with hz | hz
    ·rcases List.mem_append.mp hz with hz | hz
     ·exact List.mem_cons_of_mem _ (a2 z hz)
     ·exact List.mem_cons_of_mem _ (b2 z hz)
    ·rw [c2 z hz]
     exact List.mem_cons_self
   ·show KnownG P _ (putG B.2.2 hs (numG B.2.1 (p,A.1,B.1)).1)
    rw [b1,<- List.append_assoc,<- List.append_assoc]
    intro e he
    rcases mem_put he with z | z
    ·exact known_app b3 b4 e z
    ·rw [z]
     exact ⟨h0,p :: ps,suf,hr,hnum⟩
   ·show NumG P _ (numG B.2.1 (p,A.1,B.1)).1 _ _
    rw [b1,<- List.append_assoc,<- List.append_assoc]
    exact hnum
theorem num_len (ns:List Node) (x:Node):(numG ns x).2.length <= ns.length + 1:=by
 unfold numG
 split
 ·simp
 ·split <;> simp
theorem put_len (kn:List (Rows × Nat)) (hs:Rows) (r:Nat):(putG kn hs r).length <= kn.length + 1:=by
 unfold putG
 split <;> simp
theorem grow_len:∀ (ps:List Nat) (hs:Rows) (s:GS),(growG ps hs s).2.1.length + 1 <= s.1.length + 2 ^ ps.length /\ (growG ps hs s).2.2.length + 1 <= s.2.length + 2 ^ ps.length
 | [],hs,s=>by simp [growG]
 | p :: ps,hs,s=>by
  have hpow:2 ^ (p :: ps).length = 2 ^ ps.length + 2 ^ ps.length:=by rw [List.length_cons,Nat.pow_succ]; omega
  have hpos:0 < 2 ^ ps.length:=Nat.two_pow_pos _
  by_cases h0:hs = []
  ·rw [growG,if_pos h0]
   exact ⟨by show s.1.length + 1 <= _; omega,by show s.2.length + 1 <= _; omega⟩
  by_cases h1:dashes (ps.length + 1) ∈ hs
  ·rw [growG,if_neg h0,if_pos h1]
   exact ⟨by show s.1.length + 1 <= _; omega,by show s.2.length + 1 <= _; omega⟩
  cases hk:getG s.2 hs with
  | some r=>
   rw [growG,if_neg h0,if_neg h1,hk]
   exact ⟨by show s.1.length + 1 <= _; omega,by show s.2.length + 1 <= _; omega⟩
  | none=>
   have a:=grow_len ps (sideL hs 48) s
   generalize hA:growG ps (sideL hs 48) s = A at a
   have b:=grow_len ps (sideL hs 49) A.2
   generalize hB:growG ps (sideL hs 49) A.2 = B at b
   rw [grow_step h0 h1 hk hA hB]
   have c:=num_len B.2.1 (p,A.1,B.1)
   have d:=put_len B.2.2 hs (numG B.2.1 (p,A.1,B.1)).1
   constructor
   ·show (numG B.2.1 (p,A.1,B.1)).2.length + 1 <= _
    omega
   ·show (putG B.2.2 hs (numG B.2.1 (p,A.1,B.1)).1).length + 1 <= _
    omega
theorem get_put (kn:List (Rows × Nat)) (hs:Rows) (r:Nat):getG (putG kn hs r) hs = some r:=by
 unfold putG
 split
 ·rename_i h
  unfold getG
  induction kn with
  | nil=>simp at h
  | cons e kn ih=>
   rw [List.map_cons,List.find?_cons]
   by_cases he:e.1 = hs
   ·rw [if_pos he]
    simp [he]
   ·rw [if_neg he,show decide (e.1 = hs) = false by simpa using he]
    refine ih ?_
    rw [List.any_cons,show decide (e.1 = hs) = false by simpa using he] at h
    simpa using h
 ·rename_i h
  unfold getG
  rw [List.find?_append,List.find?_eq_none.mpr fun e he=>?_]
  ·simp
  ·intro z
   exact h (List.any_eq_true.mpr ⟨e,he,z⟩)
def NodeAt (H:Hp) (x:Node) (v:V):Prop:=∃ t,v = .ref t /\ H t = some (.tup [.int x.1,.int x.2.1,.int x.2.2])
noncomputable def nodeK (x:Node):List Key:=[.inl x.1,.inl x.2.1,.inl x.2.2]
noncomputable def numK (ns:List Node):List (List Key × V):=ns.zipIdx.map fun e=>(nodeK e.1,V.int ((e.2:Int) + 2))
noncomputable def rowsK (hs:Rows):List Key:=hs.map fun r=>Sum.inr (st r)
noncomputable def knK (kn:List (Rows × Nat)):List (List Key × V):=kn.map fun e=>(rowsK e.1,V.int e.2)
theorem rowsK_inj:∀ {a b:Rows},rowsK a = rowsK b ↔ a = b
 | [],[]=>by simp
 | [],_ :: _=>by simp [rowsK]
 | _ :: _,[]=>by simp [rowsK]
 | x :: a,y :: b=>by
  have ih:=rowsK_inj (a:=a) (b:=b)
  unfold rowsK at ih ⊢
  rw [List.map_cons,List.map_cons,List.cons.injEq,ih,List.cons.injEq]
  constructor
  ·rintro ⟨h1,h2⟩
   have h1':st x = st y:=by injection h1
   exact ⟨st_inj.mp h1',h2⟩
  ·rintro ⟨h1,h2⟩
   rw [h1]
   exact ⟨rfl,h2⟩
theorem nodeK_inj {x y:Node}:nodeK x = nodeK y ↔ x = y:=by
 unfold nodeK
 constructor
 ·intro h
  simp only [List.cons.injEq,Sum.inl.injEq,and_true] at h
  exact Prod.ext (by omega) (Prod.ext (by omega) (by omega))
 ·intro h; rw [h]
theorem rowsK_kV (hs:Rows):(rowsK hs).map kV = hs.map tx:=by
 unfold rowsK
 rw [List.map_map]
 rfl
theorem val_knK:∀ (kn:List (Rows × Nat)) (hs:Rows),valV (knK kn) (rowsK hs) = (getG kn hs).map fun r=>V.int r
 | [],hs=>rfl
 | e :: kn,hs=>by
  have ih:=val_knK kn hs
  unfold valV knK getG at ih ⊢
  rw [List.map_cons,List.find?_cons,List.find?_cons]
  by_cases h:e.1 = hs
  ·simp [h]
  ·rw [show decide (rowsK e.1 = rowsK hs) = false by simpa [rowsK_inj] using h,show decide (e.1 = hs) = false by simpa using h]
   exact ih
theorem put_knK (kn:List (Rows × Nat)) (hs:Rows) (r:Nat):putK (knK kn) (rowsK hs) (V.int r) = knK (putG kn hs r):=by
 unfold putK putG knK
 have ha:(kn.map fun e=>(rowsK e.1,V.int e.2)).any (fun kv=>decide (kv.1 = rowsK hs)) = kn.any fun kv=>decide (kv.1 = hs):=by
  rw [List.any_map]
  congr 1
  funext e
  simp [rowsK_inj]
 rw [ha]
 split
 ·rw [List.map_map,List.map_map]
  refine List.map_congr_left fun e _=>?_
  simp only [Function.comp]
  by_cases h:e.1 = hs
  ·rw [if_pos (rowsK_inj.mpr h),if_pos h]
  ·rw [if_neg (fun z=>h (rowsK_inj.mp z)),if_neg h]
 ·rw [List.map_append]
  rfl
theorem val_numK (ns:List Node) (x:Node):valV (numK ns) (nodeK x) = if x ∈ ns then some (V.int ((ns.idxOf x + 2:Nat):Int)) else none:=by
 have key:∀ (ns:List Node) (k:Nat),valV ((ns.zipIdx k).map fun e=>(nodeK e.1,V.int ((e.2:Int) + 2))) (nodeK x) = if x ∈ ns then some (V.int ((ns.idxOf x + k + 2:Nat):Int)) else none:=by
  intro ns
  induction ns with
  | nil=>intro k; rfl
  | cons y ns ih=>
   intro k
   rw [List.zipIdx_cons,List.map_cons]
   by_cases h:y = x
   ·rw [valV_pos (by rw [h])]
    rw [if_pos (by rw [h]; exact List.mem_cons_self),h]
    simp
   ·rw [valV_neg (fun z=>h (nodeK_inj.mp z)),ih (k + 1)]
    by_cases hm:x ∈ ns
    ·rw [if_pos hm,if_pos (List.mem_cons_of_mem _ hm),List.idxOf_cons,show (y == x) = false by simpa using h]
     simp only [cond_false]
     congr 3
     omega
    ·rw [if_neg hm,if_neg (by simp [hm,Ne.symm h])]
 have:=key ns 0
 simpa [numK] using this
theorem put_numK {ns:List Node} {x:Node} (h:x ∉ ns):putK (numK ns) (nodeK x) (V.int (((ns.length + 2:Nat)):Int)) = numK (ns ++ [x]):=by
 unfold putK
 have ha:(numK ns).any (fun kv=>decide (kv.1 = nodeK x)) = false:=by
  rw [List.any_eq_false]
  intro kv hkv
  obtain ⟨e,he,rfl⟩:=List.mem_map.mp hkv
  have:=List.fst_mem_of_mem_zipIdx he
  simp only [decide_eq_true_eq]
  intro z
  exact h (nodeK_inj.mp z ▸ this)
 rw [ha,if_neg (by simp)]
 unfold numK
 rw [List.zipIdx_append,List.map_append]
 simp
noncomputable abbrev clsW (K:Frag):Addr:=xA K "Writer"
structure WrAt (K:Frag) (H:Hp) (wa dx na ua:Addr) (ns:List Node):Prop where
 wr:H wa = some (.ins (clsW K) dx [("nodes",.ref na),("numbers",.ref ua)])
 nl:∃ vs,H na = some (.lst vs) /\ Paired (NodeAt H) ns vs
 nu:H ua = some (.dT (numK ns))
theorem WrAt.same {H H':Hp} {wa dx na ua:Addr} {ns:List Node} (h:WrAt K H wa dx na ua ns) (s:Same H H'):WrAt K H' wa dx na ua ns:=by
 obtain ⟨h1,⟨vs,h2,h3⟩,h4⟩:=h
 exact ⟨s _ _ h1,⟨vs,s _ _ h2,L2.Paired.mapP h3 fun _ _ ⟨t,e,q⟩=>⟨t,e,s _ _ q⟩⟩,s _ _ h4⟩
noncomputable def sp_Writer____init__ (K:Frag):Sp:=fun vs H Q _=>match vs with
 | [.ref wa]=>∃ dx,H wa = some (.ins (clsW K) dx []) /\ ∀ na ua H',H na = none -> H ua = none -> na ≠ ua -> (∀ b u,b ≠ wa -> H b = some u -> H' b = some u) -> WrAt K H' wa dx na ua [] -> Q .non H'
 | _=>False
theorem ok_Writer____init__ (T:Top K mg):KCal P w K mg base 1 "Writer" ["self"] (sp_Writer____init__ K):=by
 refine T.f_Writer____init__.cal sc_Writer____init__ (by intro vs H Q E h; unfold sp_Writer____init__ at h; split at h <;> first | rfl | exact h.elim) (fun _ _ _ _ _ _ us hl=>match us,hl with | [_],_=>rfl) (fun f cdv A outer s H vs Q E hr h=>?_)
 unfold sp_Writer____init__ at h
 split at h
 case h_2=>exact h.elim
 refine ⟨_,(pss_cons (ps_fld (qv 0) (pe_lst pa_nil) rfl)
   (pss_one (ps_fld (qv 0) pe_dnewT rfl))),?_⟩
 rename_i wa
 obtain ⟨dx,e,q⟩:=h
 walk_at "rd"
 refine ⟨Nat.zero_le _,fun na hna=>⟨wa,_,dx,[],rfl,same_new hna _ _ _ e,T.c_Writer.c,T.a_Writer_nodes,by decide,fun ua hua=>?_⟩⟩
 have nwa:na ≠ wa:=fun z=>by rw [z,e] at hna; cases hna
 have uwa:ua ≠ wa:=fun z=>by rw [z,upd_same] at hua; cases hua
 rw [upd_ne uwa] at hua
 have una:ua ≠ na:=fun z=>by rw [z,upd_same] at hua; cases hua
 have hua0:H ua = none:=by rw [upd_ne una] at hua; exact hua
 refine ⟨wa,_,dx,_,rfl,by rw [upd_ne (Ne.symm uwa),upd_same],T.c_Writer.c,T.a_Writer_numbers,by show 1 < 1000; decide,?_⟩
 refine q na ua _ hna hua0 (Ne.symm una) (fun b u hb eb=>?_) ⟨upd_same,⟨[],?_,.nil⟩,?_⟩
 ·have b1:b ≠ ua:=ne_of_none eb hua0
  have b2:b ≠ na:=ne_of_none eb hna
  rw [upd_ne hb,upd_ne b1,upd_ne hb,upd_ne b2]
  exact eb
 ·rw [upd_ne nwa,upd_ne (Ne.symm una),upd_ne nwa,upd_same]
 ·rw [upd_ne uwa,upd_same]
  rfl
noncomputable def sp_Writer__node_number (K:Frag):Sp:=fun vs H Q _=>match vs with
 | [.ref wa,.int p,.int a,.int b]=>∃ (x:Node) (dx na ua:Addr) (ns:List Node),p = (x.1:Int) /\ a = (x.2.1:Int) /\ b = (x.2.2:Int) /\ WrAt K H wa dx na ua ns /\ ns.length <= 20000 /\
   ∀ H',(∀ b u,b ≠ na -> b ≠ ua -> H b = some u -> H' b = some u) -> WrAt K H' wa dx na ua (numG ns x).2 -> Q (.int ((numG ns x).1:Nat)) H'
 | _=>False
theorem ok_Writer__node_number (T:Top K mg):MCal P w K mg base 1 "Writer" "node_number" ["self", "place", "no", "yes"] (sp_Writer__node_number K):=by
 refine T.f_Writer__node_number.cal sc_Writer__node_number (by intro vs H Q E h; unfold sp_Writer__node_number at h; split at h <;> first | rfl | exact h.elim) (fun _ _ _ _ _ _ us hl=>match us,hl with | [_,_,_,_],_=>rfl) (fun f cdv A outer s H vs Q E hr h=>?_)
 unfold sp_Writer__node_number at h
 split at h
 case h_2=>exact h.elim
 refine ⟨_,(pss_cons (ps_if (qt_cmp op_eqK (qv 2) (qv 3)) (pss_one (ps_ret (qv 2))) pss_nil)
   (pss_cons (ps_set (i:=4) sc_Writer__node_number.nd rfl lc (pe_tup (pa_cons (qv 1) (pa_cons (qv 2) (pa_cons (qv 3) pa_nil)))))
   (pss_join (ps_if (qt_dnotin (hu_of hr) (qv 4) (pe_fld (qv 0) rfl)) (pss_cons (ps_expr (qe_append (pe_fld (qv 0) rfl) (qv 4)))
   (pss_one (qs_dput (hu_of hr) (pe_fld (qv 0) rfl) (qv 4) (pe_op op_addK (pe_callB (lenE K rfl) rfl T.b_len bb_len (pa_cons (pe_fld (qv 0) rfl) pa_nil)) pe_int)))) pss_nil)
   (pss_one (ps_ret (qe_dget (hu_of hr) (pe_fld (qv 0) rfl) (qv 4) (fun _ _=>rfl))))))),?_⟩
 rename_i wa p a b
 obtain ⟨x,dx,na,ua,ns,rfl,rfl,rfl,W0,hl,q⟩:=h
 walk_at "rd"
 refine ite2 (fun c=>?_) fun c=>⟨by decide,fun t ht=>?_⟩
 ·have c':x.2.1 = x.2.2:=by omega
  have:=q H (fun _ _ _ _ e=>e) (by rw [numG,if_pos c']; exact W0)
  rw [numG,if_pos c'] at this
  exact this
 ·have s1:=same_new ht (.tup [V.int x.1,V.int x.2.1,V.int x.2.2])
  have W1:=W0.same s1
  have et:upd H t (.tup [V.int x.1,V.int x.2.1,V.int x.2.2]) t = some (.tup ((nodeK x).map kV)):=upd_same
  have nat:t ≠ na:=fun z=>by obtain ⟨vs,e,_⟩:=W0.nl; rw [z,e] at ht; cases ht
  have uat:t ≠ ua:=fun z=>by rw [z,W0.nu] at ht; cases ht
  generalize upd H t (.tup [V.int x.1,V.int x.2.1,V.int x.2.2]) = H1 at s1 W1 et ⊢
  obtain ⟨vs,ev,pv⟩:=id W1.nl
  have hlv:=pv.length
  have nu1:na ≠ ua:=fun z=>by have:=W1.nu; rw [<- z,ev] at this; cases this
  have nwn:wa ≠ na:=fun z=>by have:=W1.wr; rw [z,ev] at this; cases this
  have nwu:wa ≠ ua:=fun z=>by have:=W1.wr; rw [z,W1.nu] at this; cases this
  have c':¬ x.2.1 = x.2.2:=fun z=>c (by rw [z])
  refine ⟨fun σ' H'=>σ' = [some (.ref wa),some (.int x.1),some (.int x.2.1),some (.int x.2.2),some (.ref t)] /\ WrAt K H' wa dx na ua (numG ns x).2 /\ valV (numK (numG ns x).2) (nodeK x) = some (V.int ((numG ns x).1:Nat)) /\ H' t = some (.tup ((nodeK x).map kV)) /\ (∀ b u,b ≠ na -> b ≠ ua -> H b = some u -> H' b = some u),
   ⟨wa,_,dx,_,.ref ua,rfl,W1.wr,T.c_Writer.c,T.a_Writer_numbers,rfl,_,DGet.t W1.nu et,?_⟩,?_⟩
  ·rw [val_numK]
   by_cases hm:x ∈ ns
   ·rw [if_pos hm]
    have e:numG ns x = (ns.idxOf x + 2,ns):=by rw [numG,if_neg c',if_pos hm]
    walk_at "rd"
    rw [e]
    exact ⟨W1,by rw [val_numK,if_pos hm],et,fun b u _ _ eb=>s1 _ _ eb⟩
   ·rw [if_neg hm]
    have e:numG ns x = (ns.length + 2,ns ++ [x]):=by rw [numG,if_neg c',if_neg hm]
    walk_at "rd"
    refine ⟨wa,_,dx,_,.ref na,rfl,W1.wr,T.c_Writer.c,T.a_Writer_nodes,rfl,?_⟩
    walk_at "rd"
    refine ⟨⟨_,ev⟩,vs,ev,sizeBig (by omega),?_⟩
    have wr2:upd H1 na (.lst (vs ++ [.ref t])) wa = some (.ins (clsW K) dx [("nodes",.ref na),("numbers",.ref ua)]):=by rw [upd_ne nwn]; exact W1.wr
    refine ⟨wa,_,dx,_,.ref na,rfl,wr2,T.c_Writer.c,T.a_Writer_nodes,rfl,?_⟩
    walk_at "rd"
    refine ⟨_,.inl (SqL.of upd_same),?_⟩
    have eu2:upd H1 na (.lst (vs ++ [.ref t])) ua = some (.dT (numK ns)):=by rw [upd_ne (Ne.symm nu1)]; exact W1.nu
    have et2:upd H1 na (.lst (vs ++ [.ref t])) t = some (.tup ((nodeK x).map kV)):=by rw [upd_ne nat]; exact et
    have hlk:(numK ns).length = ns.length:=by simp [numK]
    refine ⟨wa,_,dx,_,.ref ua,rfl,wr2,T.c_Writer.c,T.a_Writer_numbers,rfl,_,DPut.t eu2 et2 (by rw [hlk]; exact sizeBig (by omega)),?_⟩
    rw [show (((vs ++ [V.ref t]).length:Int) + 1) = ((ns.length + 2:Nat):Int) by rw [List.length_append,<- hlv]; simp; omega,put_numK hm,e]
    have kp:∀ b u,b ≠ na -> b ≠ ua -> H1 b = some u -> upd (upd H1 na (.lst (vs ++ [.ref t]))) ua (.dT (numK (ns ++ [x]))) b = some u:=fun b u h1 h2 eb=>by
     rw [upd_ne h2,upd_ne h1]; exact eb
    refine ⟨⟨kp _ _ nwn nwu W1.wr,⟨vs ++ [.ref t],by rw [upd_ne nu1,upd_same],paired_snoc' (L2.Paired.mapP pv fun y v ⟨r,e1,e2⟩=>⟨r,e1,kp _ _ (fun z=>by rw [z,ev] at e2; cases e2) (fun z=>by rw [z,W1.nu] at e2; cases e2) e2⟩) ⟨t,rfl,kp _ _ nat uat et⟩⟩,upd_same⟩,by rw [val_numK,if_pos (by simp)]; show some (V.int (((ns ++ [x]).idxOf x + 2:Nat):Int)) = some (V.int ((ns.length + 2:Nat):Int)); rw [List.idxOf_append,if_neg hm]; simp,kp _ _ nat uat et,fun b u h1 h2 eb=>kp _ _ h1 h2 (s1 _ _ eb)⟩
  ·rintro σ' H2 ⟨rfl,W2,v2,et2,k2⟩
   walk_at "rd"
   refine ⟨wa,_,dx,_,.ref ua,rfl,W2.wr,T.c_Writer.c,T.a_Writer_numbers,rfl,_,?_,q H2 k2 W2⟩
   rw [<- v2]
   exact DGet.t W2.nu et2
structure GrAt (K:Frag) (H:Hp) (wa dx na ua ka:Addr) (s:GS):Prop where
 w:WrAt K H wa dx na ua s.1
 kn:H ka = some (.dT (knK s.2))
 ne:ua ≠ ka
theorem GrAt.same {H H':Hp} {wa dx na ua ka:Addr} {s:GS} (h:GrAt K H wa dx na ua ka s) (e:Same H H'):GrAt K H' wa dx na ua ka s:=⟨h.w.same e,e _ _ h.kn,h.ne⟩
def SameG (na ua ka:Addr) (H H':Hp):Prop:=∀ b u,b ≠ na -> b ≠ ua -> b ≠ ka -> H b = some u -> H' b = some u
theorem SameG.trans {na ua ka:Addr} {H H1 H2:Hp} (a:SameG na ua ka H H1) (b:SameG na ua ka H1 H2):SameG na ua ka H H2:=fun x u h1 h2 h3 e=>b x u h1 h2 h3 (a x u h1 h2 h3 e)
theorem Same.g {na ua ka:Addr} {H H':Hp} (a:Same H H'):SameG na ua ka H H':=fun x u _ _ _ e=>a _ _ e
theorem GrAt.nes {H:Hp} {wa dx na ua ka:Addr} {s:GS} (h:GrAt K H wa dx na ua ka s) {b:Addr} {u:HO} (e:H b = some u) (hd:∀ kvs,u ≠ .dT kvs):b ≠ ua /\ b ≠ ka:=
 ⟨fun z=>by rw [z,h.w.nu] at e; cases e; exact hd _ rfl,fun z=>by rw [z,h.kn] at e; cases e; exact hd _ rfl⟩
noncomputable def sp_grown (K:Frag) (m:Nat):Sp:=fun vs H Q _=>match vs with
 | [.ref p,.ref g,.ref wa,.ref ka]=>∃ (hs:Rows) (ps:List Nat) (s:GS) (dx na ua:Addr),H p = some (.lst (hs.map tx)) /\ H g = some (.lst (ps.map pl)) /\ p ≠ na /\ g ≠ na /\ (∀ r ∈ hs,r.length = ps.length) /\ ps.length < m /\ ps.length <= 12 /\ hs.length < 1024 /\
   GrAt K H wa dx na ua ka s /\ s.1.length + 2 ^ ps.length <= 10000 /\ s.2.length + 2 ^ ps.length <= 10000 /\
   ∀ H',SameG na ua ka H H' -> GrAt K H' wa dx na ua ka (growG ps hs s).2 -> Q (.int ((growG ps hs s).1:Nat)) H'
 | _=>False
theorem cutv_tail (x:V) (xs:List V):cutV (x :: xs) (some 1) none = xs:=by
 have:=cut_from (x :: xs) 1 (by simp)
 simpa using this
theorem inV_dash (n:Nat) (hs:Rows):inV (tx (dashes n)) (hs.map tx) = decide (dashes n ∈ hs):=by
 unfold inV
 rw [List.any_map,Bool.eq_iff_iff,List.any_eq_true,decide_eq_true_eq]
 constructor
 ·rintro ⟨r,hr,e⟩
  have e:(st r == st (dashes n)) = true:=e
  rw [beq_iff_eq,st_inj] at e
  rw [<- e]
  exact hr
 ·intro h
  exact ⟨_,h,by show (st (dashes n) == st (dashes n)) = true; simp⟩
def GrEnd (K:Frag) (p g:Addr) (wa dx na ua ka kt:Addr) (H:Hp) (hs:Rows) (X:Nat × GS) (σ:St) (H':Hp):Prop:=
 ∃ u1 u2,σ = [some (.ref p),some (.ref g),some (.ref wa),some (.ref ka),some (.ref kt),u1,u2] /\ SameG na ua ka H H' /\ GrAt K H' wa dx na ua ka X.2 /\ H' kt = some (.tup ((rowsK hs).map kV)) /\ getG X.2.2 hs = some X.1
theorem pss_weak {X:Cx} {l:List Stmt} {t u:TS} (h:PSs X l t) (k:∀ D σ H,u D σ H -> t D σ H):PSs X l u:=fun p s σ H D I q=>h p s σ H D I (k _ _ _ q)
noncomputable def ifBody (s:Stmt):List Stmt:=match s with
 | .If _ a _ _=>a
 | _=>[]
noncomputable def mG (K:Frag) (m:Nat):TS:=fun D σ H=>∀ C:TS,(∀ (p g wa dx na ua ka kt:Addr) (hs:Rows) (p0:Nat) (ps':List Nat) (s:GS) (X:Nat × GS) (H0:Hp),GrAt K H wa dx na ua ka s -> H p = some (.lst (hs.map tx)) -> H g = some (.lst ((p0 :: ps').map pl)) -> H kt = some (.tup ((rowsK hs).map kV)) -> p ≠ na -> g ≠ na -> (∀ r ∈ hs,r.length = (p0 :: ps').length) -> ps'.length < m -> ps'.length < 12 -> hs.length < 1024 -> s.1.length + (2 ^ ps'.length + 2 ^ ps'.length) <= 10000 -> s.2.length + (2 ^ ps'.length + 2 ^ ps'.length) <= 10000 -> hs ≠ [] -> dashes (ps'.length + 1) ∉ hs -> getG s.2 hs = none -> growG (p0 :: ps') hs s = X -> Same H0 H ->
  (∀ σ' H',GrEnd K p g wa dx na ua ka kt H0 hs X σ' H' -> D.nx σ' H') -> C D [some (.ref p),some (.ref g),some (.ref wa),some (.ref ka),some (.ref kt),none,none] H) -> C D σ H
theorem gr_p (T:Top K mg) {m:Nat} {f:Addr} {cdv:Value} {A:Around} {outer:List Env} {s:Shared} {H₀:Hp} {E:XK} (hr:Room (m + 2) (A.deeper (PyProof.Rows.envOfC "grown" (defScope s_grown) s.heap.objs.size f cdv))) (ih:Callee P w K mg base (m + 2) "grown" ["heap", "places", "writer", "known"] (sp_grown K m)):
  PSs (cxOf CX0 P w K mg base ["heap", "places", "writer", "known", "key", "no", "yes"] "grown" (defScope s_grown) f cdv A outer s H₀ E).nox (ifBody ((defBody s_grown).getD 3 (.Pass ⟨0,0,0,0⟩))) (mG K m):=by
 refine pss_weak (pss_cons (ps_set (i:=5) sc_grown.nd rfl lc (pe_fn ih hr.m rfl (pa_cons (pe_fn (ok_heap_side T) hr.m rfl (pa_cons (qv 0) (pa_cons (qs [48]) pa_nil))) (pa_cons (pe_slice (slE K rfl) (qv 1) (qo_some pe_int) po_none) (pa_cons (qv 2) (pa_cons (qv 3) pa_nil))))))
   (pss_cons (ps_set (i:=6) sc_grown.nd rfl lc (pe_fn ih hr.m rfl (pa_cons (pe_fn (ok_heap_side T) hr.m rfl (pa_cons (qv 0) (pa_cons (qs [49]) pa_nil))) (pa_cons (pe_slice (slE K rfl) (qv 1) (qo_some pe_int) po_none) (pa_cons (qv 2) (pa_cons (qv 3) pa_nil))))))
   (pss_one (qs_dput (hu_of hr) (qv 3) (qv 4) (pe_metT T.c_Writer (ok_Writer__node_number T) hr.m (qv 2) (pa_cons (pe_ix (ixE K rfl) (qv 1) pe_int (fun _ _=>rfl)) (pa_cons (qv 5) (pa_cons (qv 6) pa_nil)))))))) fun D σ H2 h=>h _ fun p g wa dx na ua ka kt hs p0 ps' s X H0 G2 e12 e22 ekt n1 n2 hw hm h12 h64 l1 l2 h0 hd' hk hX s02 q=>?_
 have hpos:0 < 2 ^ ps'.length:=Nat.two_pow_pos _
 have hlc:(p0 :: ps').length = ps'.length + 1:=rfl
 have naH:∀ {H':Hp} {s':GS},GrAt K H' wa dx na ua ka s' -> ∀ {b:Addr},H' b = none -> b ≠ na:=fun {H' s'} G' {b} hb z=>by
  obtain ⟨vs,e,_⟩:=G'.w.nl
  rw [z,e] at hb
  cases hb
 have wl:∀ r ∈ hs,0 < r.length /\ r.length <= 1000:=fun r hr'=>by have:=hw r hr'; omega
 have sd:∀ c,(sideL hs c).length < 1024:=fun c=>Nat.lt_of_le_of_lt (side_len hs c) h64
 walk_at "rd"
 refine ⟨hs,48,by rw [st_cps],SqL.of e12,wl,h64,fun q1 H3 f3 s3 e3=>⟨_,SqL.of (s3 _ _ e22),fun q2 hq2=>?_⟩⟩
 rw [List.map_cons,cutv_tail]
 have G3:=G2.same s3
 have s4:=same_new hq2 (.lst (ps'.map pl))
 refine ⟨sideL hs 48,ps',s,dx,na,ua,s4 _ _ e3,upd_same,naH G2 f3,naH G3 hq2,side_width hw,by omega,by omega,sd 48,G3.same s4,by omega,by omega,fun H5 g5 G5=>?_⟩
 have la:=grow_len ps' (sideL hs 48) s
 generalize hA:growG ps' (sideL hs 48) s = A at G5 la
 have g25:SameG na ua ka H2 H5:=(Same.g (s3.trans s4)).trans g5
 have kL:∀ {b:Addr} {xs:List V},b ≠ na -> H2 b = some (.lst xs) -> H5 b = some (.lst xs):=fun hb e=>g25 _ _ hb (G2.nes e fun _ z=>by cases z).1 (G2.nes e fun _ z=>by cases z).2 e
 have e15:=kL n1 e12
 have e25:=kL n2 e22
 walk_at "rd"
 refine ⟨hs,49,by rw [st_cps],SqL.of e15,wl,h64,fun q3 H6 f6 s6 e6=>⟨_,SqL.of (s6 _ _ e25),fun q4 hq4=>?_⟩⟩
 rw [List.map_cons,cutv_tail]
 have G6:=G5.same s6
 have s7:=same_new hq4 (.lst (ps'.map pl))
 refine ⟨sideL hs 49,ps',A.2,dx,na,ua,s7 _ _ e6,upd_same,naH G5 f6,naH G6 hq4,side_width hw,by omega,by omega,sd 49,G6.same s7,by omega,by omega,fun H8 g8 G8=>?_⟩
 have lb:=grow_len ps' (sideL hs 49) A.2
 generalize hB:growG ps' (sideL hs 49) A.2 = B at G8 lb
 have g58:SameG na ua ka H5 H8:=(Same.g (s6.trans s7)).trans g8
 have g28:=g25.trans g58
 have kL8:∀ {b:Addr} {u:HO},b ≠ na -> (∀ kvs,u ≠ .dT kvs) -> H2 b = some u -> H8 b = some u:=fun hb hd e=>g28 _ _ hb (G2.nes e hd).1 (G2.nes e hd).2 e
 have e18:=kL8 n2 (fun _ z=>by cases z) e22
 have ktn:kt ≠ na:=fun z=>by
  obtain ⟨vs,e,_⟩:=G2.w.nl
  rw [z,e] at ekt
  cases ekt
 have ek8:=kL8 ktn (fun _ z=>by cases z) ekt
 walk_at "rd"
 refine ⟨wa,dx,_,rfl,G8.w.wr,rfl,_,pl p0,.inl (SqL.of e18),atI_nat (j:=0) rfl,?_⟩
 refine ⟨(p0,A.1,B.1),dx,na,ua,B.2.1,rfl,rfl,rfl,G8.w,by omega,fun H9 k9 W9=>?_⟩
 have kna:ka ≠ na:=fun z=>by
  obtain ⟨vs,e,_⟩:=G8.w.nl
  rw [<- z,G8.kn] at e
  cases e
 have ek9:=k9 _ _ ktn (G8.nes ek8 fun _ z=>by cases z).1 ek8
 have kn9:=k9 _ _ kna (Ne.symm G8.ne) G8.kn
 have hlk:(knK B.2.2).length = B.2.2.length:=by simp [knK]
 refine ⟨_,DPut.t kn9 ek9 (by rw [hlk]; exact sizeBig (by omega)),q _ _ ?_⟩
 rw [put_knK]
 have eX:=hX.symm.trans (grow_step h0 hd' hk hA hB)
 have W9':WrAt K (upd H9 ka (.dT (knK (putG B.2.2 hs (numG B.2.1 (p0,A.1,B.1)).1)))) wa dx na ua (numG B.2.1 (p0,A.1,B.1)).2:=by
  obtain ⟨w1,⟨vs,w2,w3⟩,w4⟩:=W9
  have nk:∀ {b:Addr} {u:HO},H9 b = some u -> (∀ kvs,u ≠ .dT kvs) -> b ≠ ka:=fun e hd z=>by rw [z,kn9] at e; cases e; exact hd _ rfl
  refine ⟨by rw [upd_ne (nk w1 fun _ z=>by cases z)]; exact w1,⟨vs,by rw [upd_ne (nk w2 fun _ z=>by cases z)]; exact w2,L2.Paired.mapP w3 fun _ _ ⟨t,e,q⟩=>⟨t,e,by rw [upd_ne (nk q fun _ z=>by cases z)]; exact q⟩⟩,by rw [upd_ne G8.ne]; exact w4⟩
 refine ⟨_,_,rfl,fun b u b1 b2 b3 e=>?_,by rw [eX]; exact ⟨W9',upd_same,G8.ne⟩,?_,by rw [eX]; exact get_put _ _ _⟩
 ·rw [upd_ne b3]
  exact k9 _ _ b1 b2 (g28 b u b1 b2 b3 (s02 _ _ e))
 ·rw [upd_ne (fun z=>by rw [z,kn9] at ek9; cases ek9)]
  exact ek9
theorem rec_grown (T:Top K mg):∀ m:Nat,Callee P w K mg base (m + 2) "grown" ["heap", "places", "writer", "known"] (sp_grown K m):=by
 intro m
 induction m with
 | zero=>
  refine T.f_grown.cal sc_grown (by intro vs H Q E h; unfold sp_grown at h; split at h <;> first | rfl | exact h.elim) (fun _ _ _ _ _ _ us hl=>match us,hl with | [_,_,_,_],_=>rfl) (fun f cdv A outer s H vs Q E hr h=>?_)
  unfold sp_grown at h
  split at h
  case h_2=>exact h.elim
  obtain ⟨_,_,_,_,_,_,_,_,_,_,_,hn,_⟩:=h
  exact absurd hn (Nat.not_lt_zero _)
 | succ m ih=>
  refine T.f_grown.cal sc_grown (by intro vs H Q E h; unfold sp_grown at h; split at h <;> first | rfl | exact h.elim) (fun _ _ _ _ _ _ us hl=>match us,hl with | [_,_,_,_],_=>rfl) (fun f cdv A outer s0 H vs Q E hr h=>?_)
  unfold sp_grown at h
  split at h
  case h_2=>exact h.elim
  refine ⟨_,(pss_cons (ps_if (qt_cmp (eqNilE K rfl (hu1 hr)) (qv 0) (pe_lst pa_nil)) (pss_one (ps_ret pe_int)) pss_nil)
   (pss_cons (ps_if (qt_cmp (inE K rfl) (pe_op op_mulK (qs [45]) (pe_callB (lenE K rfl) rfl T.b_len bb_len (pa_cons (qv 1) pa_nil))) (qv 0)) (pss_one (ps_ret pe_int)) pss_nil)
   (pss_cons (ps_set (i:=4) sc_grown.nd rfl lc (pe_callTy (call_tupL K rfl) rfl T.b_tuple bb_tuple (pa_cons (qv 0) pa_nil)))
   (pss_join (ps_if (qt_dnotin (hu_of hr) (qv 4) (qv 3)) (gr_p T hr ih) pss_nil)
   (pss_one (ps_ret (qe_dget (hu_of hr) (qv 3) (qv 4) (fun _ _=>rfl)))))))),?_⟩
  rename_i p g wa ka
  obtain ⟨hs,ps,s,dx,na,ua,e1,e2,n1,n2,hw,hm,h12,h64,G0,l1,l2,q⟩:=h
  have hlm:(hs.map tx).length = hs.length:=List.length_map ..
  walk_at "rd"
  refine ⟨by decide,fun ea hea=>⟨_,SqL.of (same_new hea _ _ _ e1),SqL.of upd_same,ite2 (fun z=>?_) fun z=>?_⟩⟩
  ·have h0:hs = []:=by simpa using z
   have eg:growG ps hs s = (0,s):=by
    cases ps with
    | nil=>rw [growG,if_pos h0]
    | cons p ps=>rw [growG,if_pos h0]
   have:=q _ (Same.g (same_new hea (.lst []))) (by rw [eg]; exact G0.same (same_new hea (.lst [])))
   rw [eg] at this
   exact this
  have h0:hs ≠ []:=fun y=>z (by rw [y]; rfl)
  have s1:=same_new hea (.lst [])
  have G1:=G0.same s1
  have e11:=s1 _ _ e1
  have e21:=s1 _ _ e2
  generalize upd H ea (.lst []) = H1 at s1 G1 e11 e21 ⊢
  walk_at "rd"
  refine ⟨_,.inl (SqL.of e21),?_⟩
  rw [List.length_map]
  have ed:List.replicate (ps.length:Int).toNat 45 = dashes ps.length:=by rw [Int.toNat_natCast]; rfl
  have fl:(hs.map tx).all flatV = true:=by
   rw [List.all_map,List.all_eq_true]
   intro _ _
   rfl
  walk_at "rd"
  rw [ed]
  refine ⟨by omega,by omega,_,.inl (SqL.of e11),rfl,fl,?_⟩
  rw [show inV (V.str (st (dashes ps.length))) (hs.map tx) = decide (dashes ps.length ∈ hs) from inV_dash _ _]
  refine ite2d (fun hd=>?_) fun hd=>?_
  ·have eg:growG ps hs s = (1,s):=by
    cases ps with
    | nil=>rw [growG,if_neg h0]
    | cons p ps=>
     have hd':dashes (ps.length + 1) ∈ hs:=hd
     rw [growG,if_neg h0,if_pos hd']
   have:=q H1 (Same.g s1) (by rw [eg]; exact G1)
   rw [eg] at this
   exact this
  obtain ⟨p0,ps',rfl⟩:∃ p0 ps',ps = p0 :: ps':=by
   cases ps with
   | nil=>
    obtain ⟨r,hr'⟩:=List.exists_mem_of_ne_nil _ h0
    have:r = []:=List.length_eq_zero_iff.mp (hw r hr')
    rw [this] at hr'
    exact absurd hr' hd
   | cons p ps=>exact ⟨p,ps,rfl⟩
  have hpow:2 ^ (p0 :: ps').length = 2 ^ ps'.length + 2 ^ ps'.length:=by rw [List.length_cons,Nat.pow_succ]; omega
  have hpos:0 < 2 ^ ps'.length:=Nat.two_pow_pos _
  have hlc:(p0 :: ps').length = ps'.length + 1:=rfl
  have hd':dashes (ps'.length + 1) ∉ hs:=hd
  rw [hpow] at l1 l2
  refine ⟨_,SqL.of e11,fun kt hkt=>?_⟩
  have s2:=same_new hkt (.tup (hs.map tx))
  have G2:=G1.same s2
  have e12:=s2 _ _ e11
  have e22:=s2 _ _ e21
  have s02:=s1.trans s2
  have ekt:upd H1 kt (.tup (hs.map tx)) kt = some (.tup ((rowsK hs).map kV)):=by rw [rowsK_kV]; exact upd_same
  generalize upd H1 kt (.tup (hs.map tx)) = H2 at s2 G2 e12 e22 s02 ekt ⊢
  generalize hX:growG (p0 :: ps') hs s = X at q
  refine ⟨GrEnd K p g wa dx na ua ka kt H hs X,⟨_,DGet.t G2.kn ekt,?_⟩,?_⟩
  ·rw [val_knK]
   cases hk:getG s.2 hs with
   | some r=>
    have eg:growG (p0 :: ps') hs s = (r,s):=by rw [growG,if_neg h0,if_neg hd',hk]
    have eX:=hX.symm.trans eg
    exact ⟨_,_,rfl,Same.g s02,by rw [eX]; exact G2,ekt,by rw [eX]; exact hk⟩
   | none=>
    exact fun C k=>k p g wa dx na ua ka kt hs p0 ps' s X H G2 e12 e22 ekt n1 n2 hw (by omega) (by omega) h64 l1 l2 h0 hd' hk hX s02 fun _ _ z=>z
  ·rintro σ' H' ⟨u1,u2,rfl,sg,G,ek,hget⟩
   walk_at "rd"
   refine ⟨_,?_,q H' sg G⟩
   have:=DGet.t G.kn ek
   rw [val_knK,hget] at this
   exact this
theorem ok_grown (T:Top K mg):Callee P w K mg base 18 "grown" ["heap", "places", "writer", "known"] (sp_grown K 16):=rec_grown T 16
noncomputable def graphL (hs:Rows):Nat × List Node:=
 let g:=growG (placesL hs (hs.headD []).length) (narrowL hs (placesL hs (hs.headD []).length)) ([],[])
 (g.1,g.2.1)
def GraphAt (H:Hp) (q:Addr) (g:Nat × List Node):Prop:=∃ na vs,H q = some (.tup [.int (g.1:Nat),.ref na]) /\ H na = some (.lst vs) /\ Paired (NodeAt H) g.2 vs
theorem GraphAt.same {H H':Hp} {q:Addr} {g:Nat × List Node} (h:GraphAt H q g) (s:Same H H'):GraphAt H' q g:=by
 obtain ⟨na,vs,h1,h2,h3⟩:=h
 exact ⟨na,vs,s _ _ h1,s _ _ h2,L2.Paired.mapP h3 fun _ _ ⟨t,e,q⟩=>⟨t,e,s _ _ q⟩⟩
noncomputable def sp_graph_of (K:Frag):Sp:=fun vs H Q _=>match vs with
 | [.ref p]=>∃ (hs:Rows) (w:Nat),H p = some (.lst (hs.map tx)) /\ (∀ r ∈ hs,r.length = w) /\ w <= 1000 /\ hs.length < 1024 /\ (placesL hs (hs.headD []).length).length <= 12 /\
   ∀ q na vs H',H q = none -> H na = none -> Same H H' -> H' q = some (.tup [.int ((graphL hs).1:Nat),.ref na]) -> H' na = some (.lst vs) -> Paired (NodeAt H') (graphL hs).2 vs -> Q (.ref q) H'
 | _=>False
theorem ok_graph_of (T:Top K mg):Callee P w K mg base 19 "graph_of" ["heap"] (sp_graph_of K):=by
 refine T.f_graph_of.cal sc_graph_of (by intro vs H Q E h; unfold sp_graph_of at h; split at h <;> first | rfl | exact h.elim) (fun _ _ _ _ _ _ us hl=>match us,hl with | [_],_=>rfl) (fun f cdv A outer s H vs Q E hr h=>?_)
 unfold sp_graph_of at h
 split at h
 case h_2=>exact h.elim
 refine ⟨_,(pss_cons (ps_set (i:=1) sc_graph_of.nd rfl lc (pe_fn (ok_heap_places T) hr.m rfl (pa_cons (qv 0) pa_nil)))
   (pss_cons (ps_set (i:=2) sc_graph_of.nd rfl lc (pe_mkT T.c_Writer (ok_Writer____init__ T) hr.m rfl))
   (pss_cons (ps_set (i:=3) sc_graph_of.nd rfl lc (pe_fn (ok_grown T) hr.m rfl (pa_cons (pe_fn (ok_heap_narrowed T) hr.m rfl (pa_cons (qv 0) (pa_cons (qv 1) pa_nil))) (pa_cons (qv 1) (pa_cons (qv 2) (pa_cons pe_dnewT pa_nil))))))
   (pss_one (ps_ret (pe_tup (pa_cons (qv 3) (pa_cons (pe_fld (qv 2) rfl) pa_nil)))))))),?_⟩
 rename_i p
 obtain ⟨hs,w0,e0,hw,hw2,h64,h12,q⟩:=h
 walk_at "rd"
 refine ⟨hs,w0,SqL.of e0,hw,hw2,by omega,fun ga H1 f1 s1 e1=>?_⟩
 have hpl:∀ i ∈ placesL hs (hs.headD []).length,∀ r ∈ hs,i < r.length:=fun i hi r hr=>by
  have:=places_lt hi
  cases hs with
  | nil=>cases hr
  | cons x hs=>
   have e:((x :: hs).headD []).length = w0:=hw x List.mem_cons_self
   rw [hw r hr]
   omega
 unfold graphL at q
 generalize placesL hs (hs.headD []).length = ps at e1 q h12 hpl
 walk_at "rd"
 intro wa dx hwa hdx hne
 refine ⟨dx,upd_same,fun na ua H2 f2 f3 n23 k2 W2=>⟨rfl,?_⟩⟩
 have s12:Same H1 H2:=fun b u e=>k2 b u (ne_of_none e hwa) (by rw [upd_ne (ne_of_none e hwa),upd_ne (ne_of_none e hdx)]; exact e)
 have fr:∀ {b:Addr},upd (upd H1 dx (.own wa)) wa (.ins (clsW K) dx []) b = none -> H1 b = none:=fun {b} h=>by
  have n1:b ≠ wa:=fun z=>by rw [z,upd_same] at h; cases h
  rw [upd_ne n1] at h
  have n2:b ≠ dx:=fun z=>by rw [z,upd_same] at h; cases h
  rw [upd_ne n2] at h
  exact h
 have na1:=fr f2
 have ua1:=fr f3
 have e02:=s12 _ _ (s1 _ _ e0)
 have e12:=s12 _ _ e1
 walk_at "rd"
 refine ⟨hs,ps,SqL.of e02,SqL.of e12,fun r hr=>⟨by rw [hw r hr]; exact hw2,fun i hi=>hpl i hi r hr⟩,by omega,h64,fun qa H3 f4 s3 e3 ka hka=>?_⟩
 have W3:=W2.same s3
 have s4:=same_new hka (.dT [])
 have W4:=W3.same s4
 have uk:ua ≠ ka:=ne_of_none W3.nu hka
 have ng:ga ≠ na:=fun z=>by rw [z,na1] at e1; cases e1
 have nq:qa ≠ na:=fun z=>by
  obtain ⟨vs,e,_⟩:=W2.nl
  rw [z,e] at f4
  cases f4
 have p12:2 ^ ps.length <= 2 ^ 12:=Nat.pow_le_pow_right (by decide) h12
 have nl:(narrowL hs ps).length < 1024:=by
  unfold narrowL
  refine Nat.lt_of_le_of_lt (srt_len _) ?_
  rw [List.length_map]
  exact h64
 refine ⟨narrowL hs ps,ps,([],[]),dx,na,ua,s4 _ _ e3,s4 _ _ (s3 _ _ e12),nq,ng,narrowL_width,by omega,h12,nl,⟨W4,upd_same,uk⟩,by show 0 + _ <= _; omega,by show 0 + _ <= _; omega,fun H5 g5 G5=>?_⟩
 walk_at "rd"
 refine ⟨wa,_,dx,_,.ref na,rfl,G5.w.wr,T.c_Writer.c,T.a_Writer_nodes,rfl,by decide,fun t ht=>?_⟩
 have ka1:H1 ka = none:=s12.free (s3.free hka)
 have s15:Same H1 H5:=fun b u e=>g5 b u (ne_of_none e na1) (ne_of_none e ua1) (ne_of_none e ka1) (s4 _ _ (s3 _ _ (s12 _ _ e)))
 have s05:=(s1.trans s15).trans (same_new ht (.tup [V.int ((growG ps (narrowL hs ps) ([],[])).1:Nat),.ref na]))
 obtain ⟨vs,ev,pv⟩:=G5.w.nl
 exact q t na vs _ ((s1.trans s15).free ht) (s1.free na1) s05 upd_same (same_new ht _ _ _ ev) (L2.Paired.mapP pv fun _ _ ⟨r,e,q⟩=>⟨r,e,same_new ht _ _ _ q⟩)
noncomputable def walkG (ns:List Node):Nat -> Nat -> List Nat -> List Nat
 | 0,_,told=>told
 | k + 1,r,told=>if 1 < r /\ r ∉ told then match ns[r - 2]? with
   | some x=>walkG ns k x.2.2 (walkG ns k x.2.1 told) ++ [r]
   | none=>told
  else told
noncomputable def toldG (m:Nat):List Nat:=List.range' 2 m
theorem mem_toldG {m r:Nat}:r ∈ toldG m ↔ 2 <= r /\ r < m + 2:=by
 unfold toldG
 rw [List.mem_range'_1]
 omega
theorem told_inj {a b:Nat} (h:toldG a = toldG b):a = b:=by
 have:=congrArg List.length h
 simpa [toldG] using this
theorem told_succ (m:Nat):toldG m ++ [m + 2] = toldG (m + 1):=by
 unfold toldG
 rw [List.range'_concat]
 simp [Nat.add_comm]
theorem walk_known (ns:List Node) {k r m:Nat} (h:r < m + 2):walkG ns k r (toldG m) = toldG m:=by
 cases k with
 | zero=>rfl
 | succ k=>
  rw [walkG,if_neg]
  rintro ⟨h1,h2⟩
  exact h2 (mem_toldG.mpr ⟨by omega,h⟩)
theorem grow_walk {W:Nat} {P:List Nat} (hP:∀ p ∈ P,p < W) (inc:P.Pairwise (· < ·)) (N:List Node):∀ (ps:List Nat) (hs:Rows) (s:GS),ps <:+ P -> (∀ r ∈ hs,r.length = ps.length) -> GoodG W s.1 -> KnownG P s.1 s.2 ->
  (growG ps hs s).2.1 <+: N -> ∀ k,(growG ps hs s).1 <= k -> walkG N k (growG ps hs s).1 (toldG s.1.length) = toldG (growG ps hs s).2.1.length
 | [],hs,s,_,hr,g,kn,_,k,hk=>by
  have:(growG [] hs s).1 < s.1.length + 2:=by
   rw [growG]
   show (if hs = [] then 0 else 1) < _
   split <;> omega
  rw [walk_known N this]
  rfl
 | p :: ps,hs,s,suf,hr,g,kn,pre,k,hk=>by
  have suf':ps <:+ P:=(List.suffix_cons p ps).trans suf
  have hpP:p ∈ P:=suf.subset List.mem_cons_self
  have hpl:∀ q ∈ ps,p + 1 <= q:=fun q hq=>(List.pairwise_cons.mp (inc.sublist suf.sublist)).1 q hq
  by_cases h0:hs = []
  ·rw [growG,if_pos h0]
   exact walk_known N (by show 0 < _; omega)
  by_cases h1:dashes (ps.length + 1) ∈ hs
  ·rw [growG,if_neg h0,if_pos h1]
   exact walk_known N (by show 1 < _; omega)
  cases hkn:getG s.2 hs with
  | some r=>
   rw [growG,if_neg h0,if_neg h1,hkn]
   obtain ⟨_,qs,_,_,q3⟩:=kn _ (get_mem hkn)
   exact walk_known N (num_lt q3)
  | none=>
   have wd:∀ c,∀ r ∈ sideL hs c,r.length = ps.length:=fun c=>side_width hr
   obtain ⟨m1,a1,a2,a3,a4,a5⟩:=grow_good hP inc ps (sideL hs 48) s suf' (wd 48) g kn
   have ihA:=grow_walk hP inc N ps (sideL hs 48) s suf' (wd 48) g kn
   generalize hA:growG ps (sideL hs 48) s = A at a1 a4 a5 ihA
   have gA:GoodG W A.2.1:=by rw [a1]; exact a3
   have kA:KnownG P A.2.1 A.2.2:=by rw [a1]; exact a4
   obtain ⟨m2,b1,b2,b3,b4,b5⟩:=grow_good hP inc ps (sideL hs 49) A.2 suf' (wd 49) gA kA
   have ihB:=grow_walk hP inc N ps (sideL hs 49) A.2 suf' (wd 49) gA kA
   generalize hB:growG ps (sideL hs 49) A.2 = B at b1 b4 b5 ihB
   rw [grow_step h0 h1 hkn hA hB] at pre hk ⊢
   have la:A.2.1.length = s.1.length + m1.length:=by rw [a1,List.length_append]
   have lb:B.2.1.length = A.2.1.length + m2.length:=by rw [b1,List.length_append]
   have ltA:A.1 < A.2.1.length + 2:=by have:=num_lt a5; rw [<- a1] at this; exact this
   have ltB:B.1 < B.2.1.length + 2:=by have:=num_lt b5; rw [<- b1] at this; exact this
   have preB:∀ {x:Node},B.2.1 <+: (numG B.2.1 x).2:=fun {x}=>by
    unfold numG
    split
    ·exact List.prefix_refl _
    ·split
     ·exact List.prefix_refl _
     ·exact List.prefix_append _ _
   have pB:B.2.1 <+: N:=preB.trans pre
   have pA:A.2.1 <+: N:=(b1 ▸ List.prefix_append _ _:A.2.1 <+: B.2.1).trans pB
   have pB0:s.1 ++ m1 ++ m2 = B.2.1:=by rw [b1,a1]
   show walkG N k (numG B.2.1 (p,A.1,B.1)).1 (toldG s.1.length) = toldG (numG B.2.1 (p,A.1,B.1)).2.length
   have hk:(numG B.2.1 (p,A.1,B.1)).1 <= k:=hk
   unfold numG at hk ⊢
   by_cases e:A.1 = B.1
   ·rw [if_pos e] at hk ⊢
    show walkG N k A.1 (toldG s.1.length) = toldG B.2.1.length
    rw [ihA pA k hk]
    have:=ihB pB B.1 (Nat.le_refl _)
    rw [<- e,walk_known N ltA] at this
    exact this
   ·rw [if_neg e] at hk ⊢
    by_cases hm:(p,A.1,B.1) ∈ B.2.1
    ·rw [if_pos hm] at hk ⊢
     have hs1:(p,A.1,B.1) ∈ s.1:=by
      rw [<- pB0] at hm
      rcases List.mem_append.mp hm with z | z
      ·rcases List.mem_append.mp z with z | z
       ·exact z
       ·exact absurd (hpl _ (a2 _ z)) (by simp)
      ·exact absurd (hpl _ (b2 _ z)) (by simp)
     have hx:=node_at hs1
     have hil:=List.idxOf_lt_length_iff.mpr hs1
     obtain ⟨_,_,c1,c2,_,_⟩:=g.at_ _ _ hx
     have eA:=ihA pA A.1 (Nat.le_refl _)
     rw [walk_known N (show A.1 < s.1.length + 2 by simp at c1; omega)] at eA
     have eA:=told_inj eA
     have eB:=ihB pB B.1 (Nat.le_refl _)
     rw [walk_known N (show B.1 < A.2.1.length + 2 by simp at c2; omega)] at eB
     have eB:=told_inj eB
     show walkG N k (B.2.1.idxOf (p,A.1,B.1) + 2) (toldG s.1.length) = toldG B.2.1.length
     have hi:B.2.1.idxOf (p,A.1,B.1) < B.2.1.length:=List.idxOf_lt_length_iff.mpr hm
     rw [walk_known N (by omega),eA,eB]
    ·rw [if_neg hm] at hk ⊢
     have pre':B.2.1 ++ [(p,A.1,B.1)] <+: N:=by
      have:(numG B.2.1 (p,A.1,B.1)).2 = B.2.1 ++ [(p,A.1,B.1)]:=by rw [numG,if_neg e,if_neg hm]
      rw [<- this]
      exact pre
     show walkG N k (B.2.1.length + 2) (toldG s.1.length) = toldG (B.2.1 ++ [(p,A.1,B.1)]).length
     have hk:B.2.1.length + 2 <= k:=hk
     obtain ⟨k',rfl⟩:∃ k',k = k' + 1:=⟨k - 1,by omega⟩
     have hx:N[B.2.1.length + 2 - 2]? = some (p,A.1,B.1):=by
      obtain ⟨t,ht⟩:=pre'
      rw [<- ht,Nat.add_sub_cancel,List.append_assoc,List.getElem?_append_right (Nat.le_refl _),Nat.sub_self]
      rfl
     rw [walkG,if_pos ⟨by omega,fun z=>by have:=(mem_toldG.mp z).2; omega⟩,hx]
     show walkG N k' B.1 (walkG N k' A.1 (toldG s.1.length)) ++ [B.2.1.length + 2] = _
     rw [ihA pA k' (by omega),ihB pB k' (by omega),told_succ,List.length_append]
     rfl
theorem end_fuel {W:Nat} {ns:List Node} {y:List Nat} (g:GoodG W ns):∀ k r q,topG ns r q -> W <= k + q -> endG ns y k r = evG ns y r
 | 0,r,q,t,h=>by
  have:r < 2:=by
   apply Classical.byContradiction
   intro h2
   have hl:r - 2 < ns.length:=by have:=t.1; omega
   have:=t.2 _ (List.getElem?_eq_getElem hl) (by omega)
   have:=(g.at_ _ _ (List.getElem?_eq_getElem hl)).1
   omega
  unfold evG
  rw [end_low _ _ _ _ this,end_low _ _ _ _ this]
 | k + 1,r,q,t,h=>by
  by_cases h2:r < 2
  ·unfold evG
   rw [end_low _ _ _ _ h2,end_low _ _ _ _ h2]
  ·have hl:r - 2 < ns.length:=by have:=t.1; omega
   have hx:=List.getElem?_eq_getElem hl
   obtain ⟨_,_,_,_,t1,t2⟩:=g.at_ _ _ hx
   have hq:=t.2 _ hx (by omega)
   rw [ev_step g (by omega) hx,endG,if_neg h2,hx]
   show endG ns y k _ = _
   split
   ·exact end_fuel g k _ _ t1 (by omega)
   ·exact end_fuel g k _ _ t2 (by omega)
structure GraphOk (W:Nat) (g:Nat × List Node):Prop where
 good:GoodG W g.2
 root:topG g.2 g.1 0
noncomputable def stepG (ns:List Node) (y:List Nat) (r:Nat):Nat:=if r < 2 then r else match ns[r - 2]? with
 | some x=>if y.getD x.1 0 = 48 then x.2.1 else x.2.2
 | none=>r
theorem end_succ (ns:List Node) (y:List Nat):∀ k r,endG ns y (k + 1) r = stepG ns y (endG ns y k r)
 | 0,r=>by
  show endG ns y 1 r = stepG ns y r
  rw [endG]
  unfold stepG
  split
  ·rfl
  ·cases ns[r - 2]? <;> rfl
 | k + 1,r=>by
  rw [endG]
  split
  ·rename_i h
   rw [end_low _ _ _ _ h]
   unfold stepG
   rw [if_pos h]
  ·rename_i h
   cases e:ns[r - 2]? with
   | none=>
    have:endG ns y (k + 1) r = r:=by rw [endG,if_neg h,e]
    rw [this]
    unfold stepG
    rw [if_neg h,e]
   | some x=>
    have:endG ns y (k + 1) r = endG ns y k (if y.getD x.1 0 = 48 then x.2.1 else x.2.2):=by rw [endG,if_neg h,e]
    rw [this]
    exact end_succ ns y k _
theorem end_lt {W:Nat} {ns:List Node} {y:List Nat} (g:GoodG W ns):∀ k r,r < ns.length + 2 -> endG ns y k r < ns.length + 2
 | 0,r,h=>h
 | k + 1,r,h=>by
  rw [endG]
  split
  ·exact h
  ·rename_i h2
   have hl:r - 2 < ns.length:=by omega
   rw [List.getElem?_eq_getElem hl]
   obtain ⟨_,_,_,_,t1,t2⟩:=g.at_ _ _ (List.getElem?_eq_getElem hl)
   refine end_lt g k _ ?_
   split
   ·exact t1.1
   ·exact t2.1
theorem graph_node {H:Hp} {ns:List Node} {vs:List V} {r:Nat} (pv:Paired (NodeAt H) ns vs) (h2:2 <= r) (hr:r < ns.length + 2):∃ x t,ns[r - 2]? = some x /\ atI vs ((r:Int) - 2) = some (.ref t) /\ H t = some (.tup [.int x.1,.int x.2.1,.int x.2.2]):=by
 have hl:r - 2 < ns.length:=by omega
 obtain ⟨v,hv,t,rfl,et⟩:=paired_at pv (List.getElem?_eq_getElem hl)
 refine ⟨_,t,List.getElem?_eq_getElem hl,?_,et⟩
 rw [show (r:Int) - 2 = ((r - 2:Nat):Int) by omega]
 exact atI_nat hv
noncomputable def sp__law_end (K:Frag):Sp:=fun vs H Q _=>match vs with
 | [.ref q,.str y]=>∃ (g:Nat × List Node) (W:Nat),GraphAt H q g /\ GraphOk W g /\ y.cps.toList.length = W /\ W <= 1000 /\ IsLet y.cps.toList /\ g.2.length <= 10000 /\ ∀ H',Same H H' -> Q (.int (evG g.2 y.cps.toList g.1:Nat)) H'
 | _=>False
theorem ok__law_end (T:Top K mg):Callee P w K mg base 1 "_law_end" ["_law_graph", "_law_letter"] (sp__law_end K):=by
 refine T.f__law_end.cal sc__law_end (by intro vs H Q E h; unfold sp__law_end at h; split at h <;> first | rfl | exact h.elim) (fun _ _ _ _ _ _ us hl=>match us,hl with | [_,_],_=>rfl) (fun f cdv A outer s H vs Q E hr h=>?_)
 unfold sp__law_end at h
 split at h
 case h_2=>exact h.elim
 refine ⟨_,(pss_cons (ps_set (i:=2) sc__law_end.nd rfl lc (pe_ix (ixE K rfl) (qv 0) pe_int (fun _ _=>rfl)))
   (pss_cons (qs_for PassesOwn.never rfl (qi_range1 rfl T.b_range (pe_op op_addK (pe_callB (lenE K rfl) rfl T.b_len bb_len (pa_cons (qv 1) pa_nil)) pe_int)) (pg_name (i:=3) sc__law_end.nd rfl lc) (pss_one (ps_if (qt_cmp op_gtK (qv 2) pe_int) (pss_one (ps_set (i:=2) sc__law_end.nd rfl lc (pe_ix (ixE K rfl) (pe_ix (ixE K rfl) (pe_ix (ixE K rfl) (qv 0) pe_int (fun _ _=>rfl)) (pe_op op_subK (qv 2) pe_int) (fun _ _=>rfl)) (pe_op op_addK pe_int (pe_callTy call_intK rfl T.b_int bb_int (pa_cons (pe_ix (ixE K rfl) (qv 1) (pe_ix (ixE K rfl) (pe_ix (ixE K rfl) (pe_ix (ixE K rfl) (qv 0) pe_int (fun _ _=>rfl)) (pe_op op_subK (qv 2) pe_int) (fun _ _=>rfl)) pe_int (fun _ _=>rfl)) (fun _ _=>rfl)) pa_nil))) (fun _ _=>rfl)))) pss_nil)))
   (pss_one (ps_ret (qv 2))))),?_⟩
 rename_i ga y
 obtain ⟨y,rfl⟩:∃ x,y = st x:=⟨_,(st_eta y).symm⟩
 obtain ⟨g,W,⟨na,vs,e1,e2,pv⟩,go,hy,hW,hlet,hl,q⟩:=h
 simp only [st_cps] at hy q hlet
 have hlv:=pv.length
 walk_at "rd"
 refine ⟨_,_,.inr (SqT.of e1),rfl,?_⟩
 walk_at "rd"
 refine ⟨by omega,by omega,by omega,?_⟩
 refine loop_range (fun i σ H'=>∃ u,σ = [some (.ref ga),some (.str (st y)),some (.int (endG g.2 y i g.1:Nat)),u] /\ H' = H) ⟨none,rfl,rfl⟩ ?_ ?_
 ·rintro i σ H' hi ⟨u,rfl,rfl⟩
  have hlt:=end_lt (y:=y) go.good i g.1 go.root.1
  rw [end_succ]
  generalize endG g.2 y i g.1 = r at hlt
  walk_at "rd"
  refine ite2 (fun c=>?_) fun c=>?_
  ·obtain ⟨x,t,hx,ha,et⟩:=graph_node pv (show 2 <= r by omega) hlt
   obtain ⟨x1,_,x3,x4,x5,x6⟩:=go.good.at_ _ _ hx
   have hl':x.1 < y.length:=by omega
   have hyx:atI y (x.1:Int) = some (y.getD x.1 0):=by
    rw [atI_nat (List.getElem?_eq_getElem hl'),List.getD_eq_getElem?_getD,List.getElem?_eq_getElem hl']
    rfl
   have hy1:y.getD x.1 0 = 48 \/ y.getD x.1 0 = 49:=by
    rw [List.getD_eq_getElem?_getD,List.getElem?_eq_getElem hl']
    exact hlet _ (List.getElem_mem hl')
   have es:stepG g.2 y r = if y.getD x.1 0 = 48 then x.2.1 else x.2.2:=by
    unfold stepG
    rw [if_neg (by omega),hx]
   refine ⟨_,_,.inr (SqT.of e1),rfl,?_⟩
   walk_at "rd"
   refine ⟨_,_,.inl (SqL.of e2),ha,_,_,.inr (SqT.of e1),rfl,?_⟩
   walk_at "rd"
   refine ⟨_,_,.inl (SqL.of e2),ha,?_⟩
   walk_at "rd"
   refine ⟨_,_,.inr (SqT.of et),rfl,?_⟩
   walk_at "rd"
   refine ⟨by omega,_,hyx,?_⟩
   walk_at "rd"
   rw [es]
   rcases hy1 with e | e
   ·rw [e]
    exact ⟨by omega,by omega,_,_,.inr (SqT.of et),rfl,_,rfl⟩
   ·rw [e]
    exact ⟨by omega,by omega,_,_,.inr (SqT.of et),rfl,_,rfl⟩
  ·have:stepG g.2 y r = r:=by unfold stepG; rw [if_pos (by omega)]
   rw [this]
   exact ⟨_,rfl⟩
 ·rintro σ H' ⟨u,rfl,rfl⟩
  walk_at "rd"
  have:=q H' (Same.refl _)
  rw [<- end_fuel go.good (y.length + 1) g.1 0 go.root (by omega)] at this
  rw [show ((y.length:Int) + 1).toNat = y.length + 1 by omega]
  exact this
noncomputable def plG (W:Nat) (ns:List Node) (r:Nat):Nat:=([W,W] ++ ns.map (·.1)).getD r 0
theorem pl_at {W:Nat} {ns:List Node} {r:Nat} {x:Node} (h2:2 <= r) (hx:ns[r - 2]? = some x):plG W ns r = x.1:=by
 obtain ⟨i,rfl⟩:∃ i,r = i + 2:=⟨r - 2,by omega⟩
 rw [Nat.add_sub_cancel] at hx
 show (W :: W :: ns.map (·.1)).getD (i + 2) 0 = _
 rw [List.getD_cons_succ,List.getD_cons_succ,List.getD_eq_getElem?_getD,List.getElem?_map,hx]
 rfl
theorem pl_low {W:Nat} {ns:List Node} {r:Nat} (h:r < 2):plG W ns r = W:=by
 rcases (by omega:r = 0 \/ r = 1) with rfl | rfl <;> rfl
theorem pl_top {W:Nat} {ns:List Node} {r q:Nat} (t:topG ns r q) (hq:q <= W):q <= plG W ns r:=by
 by_cases h2:r < 2
 ·rw [pl_low h2]; exact hq
 ·have hl:r - 2 < ns.length:=by have:=t.1; omega
  have hx:=List.getElem?_eq_getElem hl
  rw [pl_at (by omega) hx]
  exact t.2 _ hx (by omega)
theorem pl_le {W:Nat} {ns:List Node} (g:GoodG W ns) {r:Nat} (h:r < ns.length + 2):plG W ns r <= W:=by
 by_cases h2:r < 2
 ·rw [pl_low h2]; exact Nat.le_refl _
 ·have hl:r - 2 < ns.length:=by omega
  have hx:=List.getElem?_eq_getElem hl
  rw [pl_at (by omega) hx]
  exact Nat.le_of_lt (g.at_ _ _ hx).1
theorem ev_agree {W:Nat} {ns:List Node} (g:GoodG W ns) {y y':List Nat}:∀ (n r q:Nat),r <= n -> topG ns r q -> (∀ p,q <= p -> y.getD p 0 = y'.getD p 0) -> evG ns y r = evG ns y' r
 | 0,r,q,hn,t,h=>by
  obtain rfl:r = 0:=by omega
  rfl
 | n + 1,r,q,hn,t,h=>by
  by_cases h2:r < 2
  ·unfold evG
   rw [end_low _ _ _ _ h2,end_low _ _ _ _ h2]
  ·have hl:r - 2 < ns.length:=by have:=t.1; omega
   have hx:=List.getElem?_eq_getElem hl
   obtain ⟨_,_,b1,b2,t1,t2⟩:=g.at_ _ _ hx
   have hq:=t.2 _ hx (by omega)
   rw [ev_step g (by omega) hx,ev_step (y:=y') g (by omega) hx,h _ hq]
   split
   ·exact ev_agree g n _ _ (by omega) t1 fun p hp=>h p (by omega)
   ·exact ev_agree g n _ _ (by omega) t2 fun p hp=>h p (by omega)
theorem filter_up:∀ (P:List Nat) {a b:Nat},a ∈ P -> a < b -> (P.filter fun p=>decide (b <= p)).length + 1 <= (P.filter fun p=>decide (a <= p)).length
 | [],_,_,h,_=>absurd h List.not_mem_nil
 | c :: P,a,b,h,hab=>by
  have mono:∀ P:List Nat,(P.filter fun p=>decide (b <= p)).length <= (P.filter fun p=>decide (a <= p)).length:=fun P=>by
   rw [<- List.countP_eq_length_filter,<- List.countP_eq_length_filter]
   exact List.countP_mono_left fun x _ hx=>by simp at hx ⊢; omega
  rw [List.filter_cons,List.filter_cons]
  by_cases hc:a = c
  ·subst hc
   have:=mono P
   rw [if_neg (by simp; omega),if_pos (by simp),List.length_cons]
   omega
  ·have ih:=filter_up P (by rcases List.mem_cons.mp h with z | z; exact absurd z hc; exact z) hab
   by_cases hb:b <= c
   ·rw [if_pos (by simpa using hb),if_pos (by simp; omega),List.length_cons,List.length_cons]
    omega
   ·rw [if_neg (by simpa using hb)]
    split
    ·rw [List.length_cons]; omega
    ·exact ih
structure LeastG (W:Nat) (ns:List Node) (P:List Nat) (root r:Nat) (s:List Nat) (q:Nat):Prop where
 len:s.length = W
 top:topG ns r q
 zero:∀ p,q <= p -> p < W -> s.getD p 0 = 48
 one:IsLet s
 off:∀ p,p ∉ P -> p < W -> s.getD p 0 = 48
 ev:∀ y,(∀ p,p < q -> y.getD p 0 = s.getD p 0) -> evG ns y root = evG ns y r
 low:∀ l:List Nat,l.length = W -> IsLet l -> evG ns l root = 1 -> (∃ i,i < q /\ i < W /\ (∀ j,j < i -> s.getD j 0 = l.getD j 0) /\ s.getD i 0 < l.getD i 0) \/ ∀ j,j < q -> s.getD j 0 = l.getD j 0
theorem let_at {y:List Nat} (h:IsLet y) {p:Nat} (hp:p < y.length):y.getD p 0 = 48 \/ y.getD p 0 = 49:=by
 rw [List.getD_eq_getElem?_getD,List.getElem?_eq_getElem hp]
 exact h _ (List.getElem_mem hp)
theorem set_same {s:List Nat} {p c:Nat} (h:p < s.length):(s.set p c).getD p 0 = c:=by
 rw [List.getD_eq_getElem?_getD,List.getElem?_set_self h]
 rfl
theorem set_else {s:List Nat} {p c j:Nat} (h:j ≠ p):(s.set p c).getD j 0 = s.getD j 0:=by
 rw [List.getD_eq_getElem?_getD,List.getElem?_set_ne (Ne.symm h),<- List.getD_eq_getElem?_getD]
def LetW (W:Nat) (y:List Nat):Prop:=y.length = W /\ IsLet y
theorem letW_set {W p c:Nat} {y:List Nat} (h:LetW W y) (hc:c = 48 \/ c = 49):LetW W (y.set p c):=
 ⟨by rw [List.length_set]; exact h.1,fun d hd=>by
  rcases List.mem_or_eq_of_mem_set hd with z | z
  ·exact h.2 d z
  ·rw [z]; exact hc⟩
def LikeG (W:Nat) (ns:List Node) (r:Nat) (ms:List Node) (s:Nat):Prop:=∀ y,LetW W y -> evG ns y r = evG ms y s
theorem LikeG.symm {W r s:Nat} {ns ms:List Node} (h:LikeG W ns r ms s):LikeG W ms s ns r:=fun y hy=>(h y hy).symm
theorem LikeG.trans {W r s t:Nat} {ns ms ks:List Node} (h:LikeG W ns r ms s) (k:LikeG W ms s ks t):LikeG W ns r ks t:=fun y hy=>(h y hy).trans (k y hy)
theorem ev_set {W:Nat} {ns:List Node} (g:GoodG W ns) {y:List Nat} {r p c:Nat} (t:topG ns r (p + 1)):evG ns (y.set p c) r = evG ns y r:=
 ev_agree g _ _ _ (Nat.le_refl _) t fun q hq=>set_else (by omega)
theorem ev_side {W:Nat} {ns:List Node} (g:GoodG W ns) {y:List Nat} {r:Nat} {x:Node} (h2:2 <= r) (hx:ns[r - 2]? = some x) (hy:LetW W y):evG ns (y.set x.1 48) r = evG ns y x.2.1 /\ evG ns (y.set x.1 49) r = evG ns y x.2.2:=by
 obtain ⟨x1,_,b1,b2,t1,t2⟩:=g.at_ _ _ hx
 have hl:x.1 < y.length:=by rw [hy.1]; exact x1
 rw [ev_step g h2 hx,ev_step (y:=y.set x.1 49) g h2 hx,set_same hl,set_same hl,if_pos rfl,if_neg (by decide),ev_set g t1,ev_set g t2]
 exact ⟨rfl,rfl⟩
theorem like_top {W:Nat} {ns ms:List Node} {r s:Nat} {x:Node} (g:GoodG W ns) (k:GoodG W ms) (h2:2 <= r) (hx:ns[r - 2]? = some x) (t:topG ms s (x.1 + 1)) (like:LikeG W ns r ms s):LikeG W ns x.2.1 ns x.2.2:=fun y hy=>by
 have:=ev_side g h2 hx hy
 rw [<- this.1,<- this.2,like _ (letW_set hy (.inl rfl)),like _ (letW_set hy (.inr rfl)),ev_set k t,ev_set k t]
theorem like_sides {W:Nat} {ns ms:List Node} {r s:Nat} {x z:Node} (g:GoodG W ns) (k:GoodG W ms) (h2:2 <= r) (hx:ns[r - 2]? = some x) (k2:2 <= s) (hz:ms[s - 2]? = some z) (e:x.1 = z.1) (like:LikeG W ns r ms s):LikeG W ns x.2.1 ms z.2.1 /\ LikeG W ns x.2.2 ms z.2.2:=by
 refine ⟨fun y hy=>?_,fun y hy=>?_⟩
 ·rw [<- (ev_side g h2 hx hy).1,<- (ev_side k k2 hz hy).1,e,like _ (letW_set hy (.inl rfl))]
 ·rw [<- (ev_side g h2 hx hy).2,<- (ev_side k k2 hz hy).2,e,like _ (letW_set hy (.inr rfl))]
theorem letW_0 (W:Nat):LetW W (List.replicate W 48):=⟨List.length_replicate,fun c hc=>.inl (List.eq_of_mem_replicate hc)⟩
theorem like_low {W:Nat} {ns ms:List Node} {r s:Nat} (hr:r < 2) (hs:s < 2) (like:LikeG W ns r ms s):r = s:=by
 have:=like _ (letW_0 W)
 rwa [show evG ns _ r = r from end_low _ _ _ _ hr,show evG ms _ s = s from end_low _ _ _ _ hs] at this
theorem top_or {ns:List Node} {r:Nat} (p:Nat) (hr:r < ns.length + 2):topG ns r (p + 1) \/ ∃ x,2 <= r /\ ns[r - 2]? = some x /\ x.1 <= p:=by
 by_cases h2:r < 2
 ·exact .inl ⟨hr,fun x _ h=>absurd h (by omega)⟩
 ·have hl:r - 2 < ns.length:=by omega
  have hx:=List.getElem?_eq_getElem hl
  by_cases hp:ns[r - 2].1 <= p
  ·exact .inr ⟨_,by omega,hx,hp⟩
  ·exact .inl ⟨hr,fun y hy _=>by rw [hx] at hy; cases hy; omega⟩
theorem like_inj {W:Nat} {ns:List Node} (g:GoodG W ns):∀ (n a b:Nat),a < n -> b < n -> a < ns.length + 2 -> b < ns.length + 2 -> LikeG W ns a ns b -> a = b
 | 0,a,b,h,_,_,_,_=>absurd h (Nat.not_lt_zero _)
 | n + 1,a,b,han,hbn,ha,hb,like=>by
  have half:∀ {a b:Nat} {x:Node},a < n + 1 -> 2 <= a -> ns[a - 2]? = some x -> topG ns b (x.1 + 1) -> LikeG W ns a ns b -> False:=fun {a b x} han h2 hx t like=>by
   obtain ⟨x1,xne,b1,b2,t1,t2⟩:=g.at_ _ _ hx
   exact xne (like_inj g n _ _ (by omega) (by omega) t1.1 t2.1 (like_top g g h2 hx t like))
  by_cases a2:a < 2
  ·by_cases b2:b < 2
   ·exact like_low a2 b2 like
   ·have hl:b - 2 < ns.length:=by omega
    exact (half hbn (by omega) (List.getElem?_eq_getElem hl) ⟨ha,fun _ _ h=>absurd h (by omega)⟩ like.symm).elim
  ·have hl:a - 2 < ns.length:=by omega
   have hx:=List.getElem?_eq_getElem hl
   generalize ns[a - 2] = x at hx
   rcases top_or x.1 hb with t | ⟨z,b2,hz,hp⟩
   ·exact (half han (by omega) hx t like).elim
   ·by_cases e:x.1 = z.1
    ·obtain ⟨l1,l2⟩:=like_sides g g (by omega) hx b2 hz e like
     obtain ⟨_,_,c1,c2,t1,t2⟩:=g.at_ _ _ hx
     obtain ⟨_,_,d1,d2,t3,t4⟩:=g.at_ _ _ hz
     have f1:=like_inj g n _ _ (by omega) (by omega) t1.1 t3.1 l1
     have f2:=like_inj g n _ _ (by omega) (by omega) t2.1 t4.1 l2
     have:x = z:=Prod.ext e (Prod.ext f1 f2)
     subst this
     have:a - 2 = b - 2:=(List.getElem?_inj hl g.nd).mp (hx.trans hz.symm)
     omega
    ·refine (half hbn b2 hz ⟨ha,fun y hy _=>?_⟩ like.symm).elim
     rw [hx] at hy
     cases hy
     omega
theorem like_step {W:Nat} {ns ms:List Node} {r s:Nat} (g:GoodG W ns) (k:GoodG W ms) (hr:r < ns.length + 2) (hs:s < ms.length + 2) (like:LikeG W ns r ms s):
  (r < 2 /\ s = r) \/ (∃ x z,2 <= r /\ 2 <= s /\ ns[r - 2]? = some x /\ ms[s - 2]? = some z /\ x.1 = z.1 /\ LikeG W ns x.2.1 ms z.2.1 /\ LikeG W ns x.2.2 ms z.2.2):=by
 have half:∀ {ns ms:List Node} {r s:Nat} {x:Node},GoodG W ns -> GoodG W ms -> 2 <= r -> ns[r - 2]? = some x -> topG ms s (x.1 + 1) -> LikeG W ns r ms s -> False:=fun g k h2 hx t like=>by
  obtain ⟨x1,xne,b1,b2,t1,t2⟩:=g.at_ _ _ hx
  exact xne (like_inj g _ _ _ b1 b2 t1.1 t2.1 (like_top g k h2 hx t like))
 by_cases r2:r < 2
 ·by_cases s2:s < 2
  ·exact .inl ⟨r2,(like_low r2 s2 like).symm⟩
  ·have hl:s - 2 < ms.length:=by omega
   exact (half k g (by omega) (List.getElem?_eq_getElem hl) ⟨hr,fun _ _ h=>absurd h (by omega)⟩ like.symm).elim
 ·have hl:r - 2 < ns.length:=by omega
  have hx:=List.getElem?_eq_getElem hl
  generalize ns[r - 2] = x at hx
  rcases top_or x.1 hs with t | ⟨z,s2,hz,hp⟩
  ·exact (half g k (by omega) hx t like).elim
  ·by_cases e:x.1 = z.1
   ·exact .inr ⟨x,z,by omega,s2,hx,hz,e,like_sides g k (by omega) hx s2 hz e like⟩
   ·refine (half k g s2 hz ⟨hr,fun y hy _=>?_⟩ like.symm).elim
    rw [hx] at hy
    cases hy
    omega
def SameTo (ns ms:List Node) (m:Nat):Prop:=m <= ns.length /\ m <= ms.length /\ ns.take m = ms.take m
theorem same_at {ns ms:List Node} {m i:Nat} (h:SameTo ns ms m) (hi:i < m):ns[i]? = ms[i]?:=by
 have:=congrArg (·[i]?) h.2.2
 simpa [List.getElem?_take,hi] using this
theorem same_ev {W:Nat} {ns ms:List Node} {y:List Nat} {m:Nat} (g:GoodG W ns) (k:GoodG W ms) (h:SameTo ns ms m):∀ (n r:Nat),r <= n -> r < m + 2 -> evG ns y r = evG ms y r
 | 0,r,hn,_=>by
  obtain rfl:r = 0:=by omega
  rfl
 | n + 1,r,hn,hr=>by
  by_cases h2:r < 2
  ·unfold evG
   rw [end_low _ _ _ _ h2,end_low _ _ _ _ h2]
  ·have hl:r - 2 < ns.length:=by have:=h.1; omega
   have hx:=List.getElem?_eq_getElem hl
   have hz:=hx
   rw [same_at h (by omega)] at hz
   obtain ⟨_,_,b1,b2,t1,t2⟩:=g.at_ _ _ hx
   rw [ev_step g (by omega) hx,ev_step k (by omega) hz]
   split
   ·exact same_ev g k h n _ (by omega) (by omega)
   ·exact same_ev g k h n _ (by omega) (by omega)
theorem same_one {W:Nat} {ns ms:List Node} {m r s:Nat} (g:GoodG W ns) (k:GoodG W ms) (h:SameTo ns ms m) (hr:r < m + 2) (hs:s < ms.length + 2) (like:LikeG W ns r ms s):s = r:=by
 have hl:r < ms.length + 2:=by have:=h.2.1; omega
 refine like_inj k (max s r + 1) s r (by omega) (by omega) hs hl (like.symm.trans fun y _=>same_ev g k h r r (Nat.le_refl _) hr)
theorem SameTo.symm {ns ms:List Node} {m:Nat} (h:SameTo ns ms m):SameTo ms ns m:=⟨h.2.1,h.1,h.2.2.symm⟩
theorem walk_pre (ns:List Node):∀ (k r:Nat) (told:List Nat),told <+: walkG ns k r told
 | 0,r,told=>List.prefix_refl _
 | k + 1,r,told=>by
  rw [walkG]
  split
  ·cases ns[r - 2]? with
   | none=>exact List.prefix_refl _
   | some x=>exact ((walk_pre ns k x.2.1 told).trans (walk_pre ns k x.2.2 _)).trans (List.prefix_append _ _)
  ·exact List.prefix_refl _
theorem told_pre {l:List Nat} {n:Nat} (h:l <+: toldG n):l = toldG l.length /\ l.length <= n:=by
 have e:=List.prefix_iff_eq_take.mp h
 have hl:=h.length_le
 unfold toldG at e hl ⊢
 rw [List.length_range'] at hl
 refine ⟨?_,hl⟩
 have:∀ a,a <= n -> (List.range' 2 n).take a = List.range' 2 a:=fun a ha=>by
  obtain ⟨b,rfl⟩:∃ b,n = a + b:=⟨n - a,by omega⟩
  rw [<- List.range'_append_1,List.take_left' List.length_range']
 rw [this _ hl] at e
 exact e
theorem take_up {ns:List Node} {m:Nat} {x:Node} (h:ns[m]? = some x):ns.take (m + 1) = ns.take m ++ [x]:=by
 rw [List.take_succ,h]
 rfl
theorem walk_like {W:Nat} {ns ms:List Node} (g:GoodG W ns) (h:GoodG W ms):∀ (k k' r s m m1 m2:Nat),r <= k -> s <= k' -> r < ns.length + 2 -> s < ms.length + 2 -> LikeG W ns r ms s -> SameTo ns ms m -> walkG ns k r (toldG m) = toldG m1 -> walkG ms k' s (toldG m) = toldG m2 ->
  m1 = m2 /\ SameTo ns ms m1 /\ r < m1 + 2 /\ s = r:=by
 intro k
 induction k with
 | zero=>
  intro k' r s m m1 m2 hr hs hr2 hs2 like sm e1 e2
  have e:=same_one g h sm (show r < m + 2 by omega) hs2 like
  have e1:=told_inj e1
  rw [walk_known ms (by omega)] at e2
  have e2:=told_inj e2
  exact ⟨by omega,by rw [<- e1]; exact sm,by omega,e⟩
 | succ k ih=>
  intro k' r s m m1 m2 hr hs hr2 hs2 like sm e1 e2
  by_cases hrm:r < m + 2
  ·have e:=same_one g h sm hrm hs2 like
   rw [walk_known ns hrm] at e1
   rw [walk_known ms (by omega)] at e2
   have e1:=told_inj e1
   have e2:=told_inj e2
   exact ⟨by omega,by rw [<- e1]; exact sm,by omega,e⟩
  by_cases hsm:s < m + 2
  ·have e:=same_one h g sm.symm hsm hr2 like.symm
   exact absurd hsm (by omega)
  rcases like_step g h hr2 hs2 like with ⟨a,_⟩ | ⟨x,z,r2,s2,hx,hz,exz,l1,l2⟩
  ·omega
  obtain ⟨k',rfl⟩:∃ j,k' = j + 1:=⟨k' - 1,by omega⟩
  obtain ⟨_,_,b1,b2,t1,t2⟩:=g.at_ _ _ hx
  obtain ⟨_,_,c1,c2,t3,t4⟩:=h.at_ _ _ hz
  have nr:r ∉ toldG m:=fun q=>hrm (mem_toldG.mp q).2
  have ns':s ∉ toldG m:=fun q=>hsm (mem_toldG.mp q).2
  rw [walkG,if_pos ⟨by omega,nr⟩,hx] at e1
  rw [walkG,if_pos ⟨by omega,ns'⟩,hz] at e2
  have e1:walkG ns k x.2.2 (walkG ns k x.2.1 (toldG m)) ++ [r] = toldG m1:=e1
  have e2:walkG ms k' z.2.2 (walkG ms k' z.2.1 (toldG m)) ++ [s] = toldG m2:=e2
  have last:∀ {l:List Nat} {r n:Nat},l ++ [r] = toldG n -> ∃ n',n = n' + 1 /\ l = toldG n' /\ r = n' + 2:=fun {l r n} e=>by
   cases n with
   | zero=>exact absurd e (by simp [toldG])
   | succ n=>
    rw [<- told_succ] at e
    obtain ⟨a,b⟩:=List.append_inj' e rfl
    exact ⟨n,rfl,a,by simpa using b⟩
  obtain ⟨n1,rfl,f1,g1⟩:=last e1
  obtain ⟨n2,rfl,f2,g2⟩:=last e2
  obtain ⟨p1,_⟩:=told_pre (f1 ▸ walk_pre ns k x.2.2 (walkG ns k x.2.1 (toldG m)))
  obtain ⟨p2,_⟩:=told_pre (f2 ▸ walk_pre ms k' z.2.2 (walkG ms k' z.2.1 (toldG m)))
  obtain ⟨ea,sa,ra,za⟩:=ih k' x.2.1 z.2.1 m _ _ (by omega) (by omega) t1.1 t3.1 l1 sm p1 p2
  rw [p1] at f1
  rw [p2,<- ea] at f2
  obtain ⟨eb,sb,rb,zb⟩:=ih k' x.2.2 z.2.2 _ n1 n2 (by omega) (by omega) t2.1 t4.1 l2 sa f1 f2
  subst eb
  have exz':x = z:=Prod.ext exz (Prod.ext za.symm zb.symm)
  subst exz'
  rw [g1,Nat.add_sub_cancel] at hx
  rw [g2,Nat.add_sub_cancel] at hz
  refine ⟨rfl,⟨(List.getElem?_eq_some_iff.mp hx).1,(List.getElem?_eq_some_iff.mp hz).1,?_⟩,by omega,by omega⟩
  rw [take_up hx,take_up hz,sb.2.2]
theorem graph_one {W:Nat} {a b:Nat × List Node} (ga:GoodG W a.2) (gb:GoodG W b.2) (ta:a.1 < a.2.length + 2) (tb:b.1 < b.2.length + 2) (wa:walkG a.2 a.1 a.1 [] = toldG a.2.length) (wb:walkG b.2 b.1 b.1 [] = toldG b.2.length)
  (h:∀ y,LetW W y -> evG a.2 y a.1 = evG b.2 y b.1):a = b:=by
 obtain ⟨e,s,_,r⟩:=walk_like ga gb a.1 b.1 a.1 b.1 0 _ _ (Nat.le_refl _) (Nat.le_refl _) ta tb h ⟨Nat.zero_le _,Nat.zero_le _,rfl⟩ wa wb
 have:=s.2.2
 rw [List.take_length,e,List.take_length] at this
 exact Prod.ext r.symm this
theorem choices_mem:∀ (n:Nat) (c:List Nat),c.length = n -> IsLet c -> c ∈ choicesL n
 | 0,c,h,_=>by rw [List.length_eq_zero_iff.mp h]; simp [choicesL]
 | n + 1,c,h,hl=>by
  have hne:c ≠ []:=fun z=>by rw [z] at h; cases h
  have e:=List.dropLast_concat_getLast hne
  have hd:c.dropLast ∈ choicesL n:=choices_mem n _ (by rw [List.length_dropLast]; omega) fun k hk=>hl k (by rw [<- e]; exact List.mem_append_left _ hk)
  rw [choicesL]
  rcases hl (c.getLast hne) (List.getLast_mem hne) with z | z
  ·exact List.mem_append_left _ (List.mem_map.mpr ⟨_,hd,by rw [<- z]; exact e⟩)
  ·exact List.mem_append_right _ (List.mem_map.mpr ⟨_,hd,by rw [<- z]; exact e⟩)
theorem sub_len:∀ (l m:List Nat),l.Nodup -> (∀ x ∈ l,x ∈ m) -> l.length <= m.length
 | [],m,_,_=>Nat.zero_le _
 | x :: l,m,hn,h=>by
  rw [List.nodup_cons] at hn
  have ih:=sub_len l (m.erase x) hn.2 fun y hy=>(List.mem_erase_of_ne (show y ≠ x from fun e=>hn.1 (by rw [<- e]; exact hy))).mpr (h y (List.mem_cons_of_mem _ hy))
  have hx:=h x List.mem_cons_self
  rw [List.length_erase_of_mem hx] at ih
  have:=List.length_pos_of_mem hx
  rw [List.length_cons]
  omega
theorem laid_places {hs ss:List (List Nat)} {W:Nat} {ps:List Nat} (m:∀ r ∈ hs,r ∈ ss.map fun s=>setAll s ps (dashes W)) (h8:ps.length <= 8):(placesL hs (headLen hs)).length <= 12:=by
 have w:∀ r ∈ hs,r.length = W:=fun r hr=>by
  obtain ⟨s,_,rfl⟩:=List.mem_map.mp (m r hr)
  rw [setAll_len]
  simp [dashes]
 have:(placesL hs (headLen hs)).length <= ps.length:=sub_len _ _ ((places_sorted hs (headLen hs)).imp fun h=>Nat.ne_of_lt h) fun i hi=>by
  have hlt:=Nat.lt_of_lt_of_le (places_lt hi) (headLen_le w)
  obtain ⟨r,hr,h45⟩:=List.any_eq_true.mp (List.mem_filter.mp hi).2
  obtain ⟨s,_,rfl⟩:=List.mem_map.mp (m r hr)
  apply Classical.byContradiction
  intro hn
  rw [setAll_other ps s _ i hn] at h45
  simp [dashes,hlt] at h45
 omega
theorem places_nil (n:Nat):placesL [] n = []:=by
 unfold placesL
 rw [List.filter_eq_nil_iff]
 intro i _
 simp [told]
theorem places_head {hs:Rows} {W:Nat} (hw:∀ r ∈ hs,r.length = W):placesL hs (hs.headD []).length = placesL hs W:=by
 cases hs with
 | nil=>rw [places_nil,places_nil]
 | cons x hs=>
  have:((x :: hs).headD []).length = W:=hw x List.mem_cons_self
  rw [this]
theorem graph_told {hs:Rows} {W:Nat} (hw:∀ r ∈ hs,r.length = W):GraphOk W (graphL hs) /\ walkG (graphL hs).2 (graphL hs).1 (graphL hs).1 [] = toldG (graphL hs).2.length /\
  (graphL hs).2.length + 1 <= 2 ^ (placesL hs W).length /\ ∀ y:List Nat,y.length = W -> IsLet y -> evG (graphL hs).2 y (graphL hs).1 = if inH hs y = true then 1 else 0:=by
 have e:graphL hs = ((growG (placesL hs W) (narrowL hs (placesL hs W)) ([],[])).1,(growG (placesL hs W) (narrowL hs (placesL hs W)) ([],[])).2.1):=by
  unfold graphL
  rw [places_head hw]
 have hP:∀ p ∈ placesL hs W,p < W:=fun p hp=>places_lt hp
 have g0:GoodG W ([]:List Node):=⟨List.nodup_nil,fun i x h=>by simp at h⟩
 have k0:KnownG (placesL hs W) ([]:List Node) ([]:List (Rows × Nat)):=fun e he=>absurd he List.not_mem_nil
 obtain ⟨ms,a1,_,a3,_,a5⟩:=grow_good hP (places_sorted hs W) (placesL hs W) (narrowL hs (placesL hs W)) ([],[]) (List.suffix_refl _) narrowL_width g0 k0
 have wk:=grow_walk hP (places_sorted hs W) (growG (placesL hs W) (narrowL hs (placesL hs W)) ([],[])).2.1 (placesL hs W) (narrowL hs (placesL hs W)) ([],[]) (List.suffix_refl _) narrowL_width g0 k0 (List.prefix_refl _) _ (Nat.le_refl _)
 have ln:=(grow_len (placesL hs W) (narrowL hs (placesL hs W)) ([],[])).1
 rw [e]
 have a1:(growG (placesL hs W) (narrowL hs (placesL hs W)) ([],[])).2.1 = ms:=a1
 have a3:GoodG W ms:=a3
 have a5:NumG (placesL hs W) ms _ (placesL hs W) (narrowL hs (placesL hs W)):=a5
 rw [a1] at wk ln ⊢
 refine ⟨⟨a3,a5.1 0 fun _ _=>Nat.zero_le _⟩,wk,by simpa using ln,fun y h1 h2=>?_⟩
 rw [inH_narrow hw h1]
 refine a5.2 y fun p hp=>?_
 have hl:p < y.length:=by rw [h1]; exact hP p hp
 rw [List.getD_eq_getElem?_getD,List.getElem?_eq_getElem hl]
 exact h2 _ (List.getElem_mem hl)
theorem setAll_let {s ps b:List Nat} (hs:IsLet s) (hb:IsLet b):IsLet (setAll s ps b):=by
 unfold setAll
 have hz:∀ q ∈ s.zip ps,q.1 ∈ s:=fun q hq=>(List.of_mem_zip hq).1
 generalize s.zip ps = l at hz
 induction l generalizing b with
 | nil=>exact hb
 | cons x l ih=>
  rw [List.foldl_cons]
  refine ih (fun y hy=>?_) fun q hq=>hz q (List.mem_cons_of_mem _ hq)
  rcases List.mem_or_eq_of_mem_set hy with h | h
  ·exact hb y h
  ·rw [h]
   exact hs _ (hz x List.mem_cons_self)
noncomputable def nodeD (x:Node):D:=.t [.f (V.int (x.1:Nat)),.f (V.int (x.2.1:Nat)),.f (V.int (x.2.2:Nat))]
theorem deep_nodes {H:Hp} {na:Addr} {ns:List Node} {vs:List V} (e:H na = some (.lst vs)) (pv:Paired (NodeAt H) ns vs):Deep K H 2 (.ref na) (.l (ns.map nodeD)):=by
 refine .inr (.inl ⟨na,vs,ns.map nodeD,rfl,rfl,SqL.of e,?_⟩)
 clear e
 induction pv with
 | nil=>exact .nil
 | cons r _ ih=>
  obtain ⟨t,rfl,q⟩:=r
  exact .cons (.inr (.inr ⟨t,_,_,rfl,rfl,SqT.of q,.cons (deep_flat 0 rfl) (.cons (deep_flat 0 rfl) (.cons (deep_flat 0 rfl) .nil))⟩)) ih
theorem deep_graph {H:Hp} {q na:Addr} {r:Nat} {ns:List Node} {vs:List V} (e0:H q = some (.tup [.int (r:Nat),.ref na])) (e:H na = some (.lst vs)) (pv:Paired (NodeAt H) ns vs):Deep K H 3 (.ref q) (.t [.f (V.int (r:Nat)),.l (ns.map nodeD)]):=
 .inr (.inr ⟨q,_,_,rfl,rfl,SqT.of e0,.cons (deep_flat 2 rfl) (.cons (deep_nodes e pv) .nil)⟩)
theorem eq_graph (r:Nat) (ns:List Node):eqD (.t [.f (V.int (r:Nat)),.l (ns.map nodeD)]) (.t [.f (V.int (r:Nat)),.l (ns.map nodeD)]) = true:=by
 have en:∀ l:List Node,eqDs (l.map nodeD) (l.map nodeD) = true:=fun l=>by
  induction l with
  | nil=>simp [eqDs]
  | cons x l ih=>
   rw [List.map_cons,eqDs,ih]
   simp [nodeD,eqD,eqDs,eqV]
 simp [eqD,eqDs,eqV,en]
theorem cut_len_le {α:Type} (f:α -> V) (l:List α) (lo hi:Nat):∃ cs:List α,cutV (l.map f) (some lo) (some hi) = cs.map f /\ cs.length <= hi - lo:=by
 refine ⟨(l.drop (HT.sIx (l.map f).length 0 (some (lo:Int)))).take (HT.sIx (l.map f).length (l.map f).length (some (hi:Int)) - HT.sIx (l.map f).length 0 (some (lo:Int))),?_,?_⟩
 ·unfold cutV
  rw [<- List.map_drop,<- List.map_take]
 ·rw [List.length_take,HT.sIx_nat,HT.sIx_nat]
  omega
noncomputable def sp__law_base:Sp:=fun vs H Q _=>match vs with
 | [.int c,.int w]=>∃ W:Nat,w = (W:Int) /\ W <= 100 /\ ∀ (y:List Nat) H',Same H H' -> y.length = W -> IsLet y -> Q (tx y) H'
 | _=>False
theorem ok__law_base (T:Top K mg):Callee P w K mg base 2 "_law_base" ["_law_cell", "_law_width_here"] sp__law_base:=by
 refine T.f__law_base.cal sc__law_base (by intro vs H Q E h; unfold sp__law_base at h; split at h <;> first | rfl | exact h.elim) (fun _ _ _ _ _ _ us hl=>match us,hl with | [_,_],_=>rfl) (fun f cdv A outer s H vs Q E hr h=>?_)
 unfold sp__law_base at h
 split at h
 case h_2=>exact h.elim
 refine ⟨_,(pss_one (ps_ret (joinE K rfl (qe_comp (nt:=1) (fi:=[]) (N':=["_law_number"]) rfl (cscope rfl (by decide +kernel)) (cnames (N:=["_law_cell", "_law_width_here"]) (sc:=defScope s__law_base) rfl rfl (by decide +kernel)) (gk_name (by decide)) (iterE K rfl (pe_fn (ok__law_stream T) hr.m rfl (pa_cons (qv 0) (pa_cons (qv 1) pa_nil)))) (fun _ _ _ _ _=>(pg_name (i:=0) (by show (["_law_number"]:List Str).Nodup; decide +kernel) rfl lc)) (fun _ _ _ _ _=>pif_nil) (fun _ _ _ _ _=>(pe_ix (ixE K rfl) (qs [48,49]) (pe_op op_modK (pe_op op_fdivK (qv 0) pe_int) pe_int) (fun _ _=>rfl))))))),?_⟩
 rename_i c w
 obtain ⟨W,rfl,hW,q⟩:=h
 walk_at "rd"
 refine ⟨by omega,by omega,fun p H2 hp s2 e2=>.inl ⟨⟨_,SqL.of e2⟩,fun D hD=>?_⟩⟩
 refine comp_list (item:=V.int) (xs:=stream c (W:Int).toNat) (h:=fun e=>[V.str (st [bit (e / 4)])]) hD (SqL.of e2) (by rw [stream_len]; omega) (fun _=>by simp) ?_ ?_
 ·intro e H3 out non he s3 ho hn'
  walk_at "rd"
  exact ⟨_,at01 _,ho _ _ rfl (Same.refl _)⟩
 intro H3 s3 e3
 obtain ⟨B,hBl,hBs,e3⟩:∃ B:List Nat,B.length = W /\ IsLet B /\ H3 D = some (.lst (B.map fun b=>V.str (st [b]))):=by
  refine ⟨(stream c (W:Int).toNat).map fun e=>bit (e / 4),by rw [List.length_map,stream_len]; omega,fun x hx=>?_,?_⟩
  ·obtain ⟨e,_,rfl⟩:=List.mem_map.mp hx
   exact bit_or _
  ·rw [e3,flat_one (fun e=>V.str (st [bit (e / 4)])),List.map_map]
   rfl
 exact ⟨B,SqL.of e3,by omega,q B H3 (s2.trans s3) hBl hBs⟩
inductive Stp (κ:Type) where
 | fin (n:Nat)
 | go (k:κ)
 | node (p:Nat) (a b:κ)
section
variable {κ:Type} [DecidableEq κ]
noncomputable def getB (kn:List (κ × Nat)) (k:κ):Option Nat:=(kn.find? fun kv=>decide (kv.1 = k)).map (·.2)
noncomputable def putB (kn:List (κ × Nat)) (k:κ) (r:Nat):List (κ × Nat):=
 if (kn.any fun kv=>decide (kv.1 = k)) = true then kn.map (fun kv=>if kv.1 = k then (kv.1,r) else kv) else kn ++ [(k,r)]
noncomputable abbrev BS (κ:Type):=List Node × List (κ × Nat)
noncomputable def buildG (stp:κ -> Stp κ):Nat -> κ -> BS κ -> Nat × BS κ
 | 0,_,s=>(0,s)
 | f + 1,k,s=>match stp k with
  | .fin n=>(n,s)
  | .go k'=>match getB s.2 k with
   | some r=>(r,s)
   | none=>((buildG stp f k' s).1,((buildG stp f k' s).2.1,putB (buildG stp f k' s).2.2 k (buildG stp f k' s).1))
  | .node p k0 k1=>match getB s.2 k with
   | some r=>(r,s)
   | none=>
    let b:=buildG stp f k1 (buildG stp f k0 s).2
    let c:=numG b.2.1 (p,(buildG stp f k0 s).1,b.1)
    (c.1,(c.2,putB b.2.2 k c.1))
theorem bld_node {S:κ -> Stp κ} {fu p:Nat} {n a b:κ} {s:BS κ} {A C:Nat × BS κ} (est:S n = .node p a b) (hk:getB s.2 n = none) (hA:buildG S fu a s = A) (hC:buildG S fu b A.2 = C):
  buildG S (fu + 1) n s = ((numG C.2.1 (p,A.1,C.1)).1,((numG C.2.1 (p,A.1,C.1)).2,putB C.2.2 n (numG C.2.1 (p,A.1,C.1)).1)):=by
 subst hA
 subst hC
 rw [buildG,est]
 show (match getB s.2 n with | some r=>(r,s) | none=>_) = _
 rw [hk]
theorem bld_known {S:κ -> Stp κ} {fu p r:Nat} {n a b:κ} {s:BS κ} (est:S n = .node p a b) (hk:getB s.2 n = some r):buildG S (fu + 1) n s = (r,s):=by
 rw [buildG,est]
 show (match getB s.2 n with | some r=>(r,s) | none=>_) = _
 rw [hk]
theorem getB_mem {kn:List (κ × Nat)} {k:κ} {r:Nat} (h:getB kn k = some r):(k,r) ∈ kn:=by
 unfold getB at h
 cases e:kn.find? fun kv=>decide (kv.1 = k) with
 | none=>rw [e] at h; cases h
 | some x=>
  rw [e] at h
  have h1:=List.mem_of_find?_eq_some e
  have h2:x.1 = k:=by simpa using List.find?_some e
  have h3:x.2 = r:=by simpa using h
  rw [<- h2,<- h3]
  exact h1
theorem putB_mem {kn:List (κ × Nat)} {k:κ} {r:Nat} {e:κ × Nat} (h:e ∈ putB kn k r):e ∈ kn \/ e = (k,r):=by
 unfold putB at h
 split at h
 ·obtain ⟨x,hx,rfl⟩:=List.mem_map.mp h
  split
  ·rename_i hk; exact .inr (by rw [hk])
  ·exact .inl hx
 ·rcases List.mem_append.mp h with z | z
  ·exact .inl z
  ·exact .inr (List.mem_singleton.mp z)
structure KeysB (W:Nat) (stp:κ -> Stp κ) (rk tp:κ -> Nat) (ok:κ -> Prop) (sem:κ -> List Nat -> Nat):Prop where
 fin:∀ k n,ok k -> stp k = .fin n -> n < 2 /\ ∀ y,LetW W y -> sem k y = n
 go:∀ k k',ok k -> stp k = .go k' -> ok k' /\ rk k' < rk k /\ tp k <= tp k' /\ ∀ y,LetW W y -> sem k y = sem k' y
 node:∀ k p a b,ok k -> stp k = .node p a b -> ok a /\ ok b /\ rk a < rk k /\ rk b < rk k /\ tp k <= p /\ p < W /\ p + 1 <= tp a /\ p + 1 <= tp b /\ ∀ y,LetW W y -> sem k y = if y.getD p 0 = 48 then sem a y else sem b y
def NumB (W:Nat) (ns:List Node) (r:Nat) (t:Nat) (sm:List Nat -> Nat):Prop:=topG ns r t /\ ∀ y,LetW W y -> evG ns y r = sm y
def KnownB (W:Nat) (ns:List Node) (tp:κ -> Nat) (sem:κ -> List Nat -> Nat) (kn:List (κ × Nat)):Prop:=∀ e ∈ kn,NumB W ns e.2 (tp e.1) (sem e.1)
theorem numB_app {W:Nat} {ns ms:List Node} {r t:Nat} {sm:List Nat -> Nat} (g:GoodG W ns) (h:NumB W ns r t sm):NumB W (ns ++ ms) r t sm:=
 ⟨topG_app h.1,fun y hy=>by rw [ev_app g h.1.1]; exact h.2 y hy⟩
theorem build_good {W:Nat} {stp:κ -> Stp κ} {rk tp:κ -> Nat} {ok:κ -> Prop} {sem:κ -> List Nat -> Nat} (B:KeysB W stp rk tp ok sem):∀ (f:Nat) (k:κ) (s:BS κ),rk k < f -> ok k -> GoodG W s.1 -> KnownB W s.1 tp sem s.2 ->
  ∃ ms,(buildG stp f k s).2.1 = s.1 ++ ms /\ (∀ z ∈ ms,tp k <= z.1) /\ GoodG W (s.1 ++ ms) /\ KnownB W (s.1 ++ ms) tp sem (buildG stp f k s).2.2 /\ NumB W (s.1 ++ ms) (buildG stp f k s).1 (tp k) (sem k):=by
 intro f
 induction f with
 | zero=>intro k s h; omega
 | succ f ih=>
  intro k s hf hk g kn
  rw [buildG]
  cases hs:stp k with
  | fin n=>
   obtain ⟨f1,f2⟩:=B.fin k n hk hs
   dsimp only
   refine ⟨[],by simp,by simp,by simpa using g,by simpa using kn,⟨by simp; omega,fun x hx h2=>by omega⟩,fun y hy=>?_⟩
   rw [f2 y hy]
   exact end_low _ _ _ n f1
  | go k'=>
   obtain ⟨g1,g2,g3,g4⟩:=B.go k k' hk hs
   cases hg:getB s.2 k with
   | some r=>
    dsimp only
    exact ⟨[],by simp,by simp,by simpa using g,by simpa using kn,by simpa using kn _ (getB_mem hg)⟩
   | none=>
    dsimp only
    obtain ⟨m1,a1,a2,a3,a4,a5⟩:=ih k' s (by omega) g1 g kn
    generalize buildG stp f k' s = A at a1 a4 a5
    have hn:NumB W (s.1 ++ m1) A.1 (tp k) (sem k):=⟨topG_less a5.1 g3,fun y hy=>by rw [a5.2 y hy,g4 y hy]⟩
    refine ⟨m1,a1,fun z hz=>Nat.le_trans g3 (a2 z hz),a3,fun e he=>?_,hn⟩
    rcases putB_mem he with z | z
    ·exact a4 e z
    ·rw [z]
     exact hn
  | node p k0 k1=>
   obtain ⟨n1,n2,n3,n4,n5,n6,n7,n8,n9⟩:=B.node k p k0 k1 hk hs
   cases hg:getB s.2 k with
   | some r=>
    dsimp only
    exact ⟨[],by simp,by simp,by simpa using g,by simpa using kn,by simpa using kn _ (getB_mem hg)⟩
   | none=>
    dsimp only
    obtain ⟨m1,a1,a2,a3,a4,a5⟩:=ih k0 s (by omega) n1 g kn
    generalize buildG stp f k0 s = A at a1 a4 a5
    obtain ⟨m2,b1,b2,b3,b4,b5⟩:=ih k1 A.2 (by omega) n2 (by rw [a1]; exact a3) (by rw [a1]; exact a4)
    generalize buildG stp f k1 A.2 = C at b1 b4 b5
    rw [a1] at b1 b3 b4 b5
    have a5':=numB_app (ms:=m2) a3 a5
    obtain ⟨m3,c1,c2,c3,c4,c5⟩:=num_node (x:=(p,A.1,C.1)) b3 n6 (topG_less a5'.1 n7) (topG_less b5.1 n8)
    have hn:NumB W (s.1 ++ m1 ++ m2 ++ m3) (numG (s.1 ++ m1 ++ m2) (p,A.1,C.1)).1 (tp k) (sem k):=by
     refine ⟨c4 _ n5,fun y hy=>?_⟩
     rw [c5 y,n9 y hy]
     split
     ·exact (numB_app b3 a5').2 y hy
     ·exact (numB_app b3 b5).2 y hy
    have e0:s.1 ++ (m1 ++ m2 ++ m3) = s.1 ++ m1 ++ m2 ++ m3:=by simp
    rw [b1]
    refine ⟨m1 ++ m2 ++ m3,by rw [c1]; simp,fun z hz=>?_,by rw [e0]; exact c3,?_,by rw [e0]; exact hn⟩
    ·rcases List.mem_append.mp hz with hz | hz
     ·rcases List.mem_append.mp hz with hz | hz
      ·have:=a2 z hz; omega
      ·have:=b2 z hz; omega
     ·rw [c2 z hz]
      exact n5
    ·rw [e0]
     intro e he
     rcases putB_mem he with z | z
     ·exact numB_app b3 (b4 e z)
     ·rw [z]
      exact hn
theorem build_walk {W:Nat} {stp:κ -> Stp κ} {rk tp:κ -> Nat} {ok:κ -> Prop} {sem:κ -> List Nat -> Nat} (B:KeysB W stp rk tp ok sem) (N:List Node):∀ (f:Nat) (k:κ) (s:BS κ),rk k < f -> ok k -> GoodG W s.1 -> KnownB W s.1 tp sem s.2 ->
  (buildG stp f k s).2.1 <+: N -> ∀ j,(buildG stp f k s).1 <= j -> walkG N j (buildG stp f k s).1 (toldG s.1.length) = toldG (buildG stp f k s).2.1.length:=by
 intro f
 induction f with
 | zero=>intro k s h; omega
 | succ f ih=>
  intro k s hf hk g kn pre j hj
  rw [buildG] at pre hj ⊢
  cases hs:stp k with
  | fin n=>
   rw [hs] at pre hj
   dsimp only at pre hj ⊢
   have:=(B.fin k n hk hs).1
   exact walk_known N (by omega)
  | go k'=>
   obtain ⟨g1,g2,g3,g4⟩:=B.go k k' hk hs
   rw [hs] at pre hj
   cases hg:getB s.2 k with
   | some r=>
    rw [hg] at pre hj
    dsimp only at pre hj ⊢
    exact walk_known N (kn _ (getB_mem hg)).1.1
   | none=>
    rw [hg] at pre hj
    dsimp only at pre hj ⊢
    exact ih k' s (by omega) g1 g kn pre j hj
  | node p k0 k1=>
   obtain ⟨n1,n2,n3,n4,n5,n6,n7,n8,n9⟩:=B.node k p k0 k1 hk hs
   rw [hs] at pre hj
   cases hg:getB s.2 k with
   | some r=>
    rw [hg] at pre hj
    dsimp only at pre hj ⊢
    exact walk_known N (kn _ (getB_mem hg)).1.1
   | none=>
    rw [hg] at pre hj
    dsimp only at pre hj ⊢
    obtain ⟨m1,a1,a2,a3,a4,a5⟩:=build_good B f k0 s (by omega) n1 g kn
    have ihA:=ih k0 s (by omega) n1 g kn
    generalize buildG stp f k0 s = A at a1 a4 a5 ihA pre hj ⊢
    have gA:GoodG W A.2.1:=by rw [a1]; exact a3
    have kA:KnownB W A.2.1 tp sem A.2.2:=by rw [a1]; exact a4
    obtain ⟨m2,b1,b2,b3,b4,b5⟩:=build_good B f k1 A.2 (by omega) n2 gA kA
    have ihB:=ih k1 A.2 (by omega) n2 gA kA
    generalize buildG stp f k1 A.2 = C at b1 b4 b5 ihB pre hj ⊢
    have la:A.2.1.length = s.1.length + m1.length:=by rw [a1,List.length_append]
    have lb:C.2.1.length = A.2.1.length + m2.length:=by rw [b1,List.length_append]
    have ltA:A.1 < A.2.1.length + 2:=by have:=a5.1.1; rw [<- a1] at this; exact this
    have ltB:C.1 < C.2.1.length + 2:=by have:=b5.1.1; rw [<- b1] at this; exact this
    have preB:∀ {x:Node},C.2.1 <+: (numG C.2.1 x).2:=fun {x}=>by
     unfold numG
     split
     ·exact List.prefix_refl _
     ·split
      ·exact List.prefix_refl _
      ·exact List.prefix_append _ _
    have pB:C.2.1 <+: N:=preB.trans pre
    have pA:A.2.1 <+: N:=(b1 ▸ List.prefix_append _ _:A.2.1 <+: C.2.1).trans pB
    have pB0:s.1 ++ m1 ++ m2 = C.2.1:=by rw [b1,a1]
    unfold numG at hj pre ⊢
    by_cases e:A.1 = C.1
    ·rw [if_pos e] at hj ⊢
     dsimp only at hj ⊢
     rw [ihA pA j hj]
     have:=ihB pB C.1 (Nat.le_refl _)
     rw [<- e,walk_known N ltA] at this
     exact this
    ·rw [if_neg e] at hj pre ⊢
     by_cases hm:(p,A.1,C.1) ∈ C.2.1
     ·rw [if_pos hm] at hj ⊢
      have hs1:(p,A.1,C.1) ∈ s.1:=by
       rw [<- pB0] at hm
       rcases List.mem_append.mp hm with z | z
       ·rcases List.mem_append.mp z with z | z
        ·exact z
        ·have:=a2 _ z
         exact absurd this (by show ¬ tp k0 <= p; omega)
       ·have:=b2 _ z
        exact absurd this (by show ¬ tp k1 <= p; omega)
      have hx:=node_at hs1
      have hil:=List.idxOf_lt_length_iff.mpr hs1
      obtain ⟨_,_,c1,c2,_,_⟩:=g.at_ _ _ hx
      have eA:=ihA pA A.1 (Nat.le_refl _)
      rw [walk_known N (show A.1 < s.1.length + 2 by simp at c1; omega)] at eA
      have eA:=told_inj eA
      have eB:=ihB pB C.1 (Nat.le_refl _)
      rw [walk_known N (show C.1 < A.2.1.length + 2 by simp at c2; omega)] at eB
      have eB:=told_inj eB
      have hi:C.2.1.idxOf (p,A.1,C.1) < C.2.1.length:=List.idxOf_lt_length_iff.mpr hm
      dsimp only
      rw [walk_known N (by omega),eA,eB]
     ·rw [if_neg hm] at hj pre ⊢
      dsimp only at hj pre ⊢
      obtain ⟨j',rfl⟩:∃ j',j = j' + 1:=⟨j - 1,by omega⟩
      have hx:N[C.2.1.length + 2 - 2]? = some (p,A.1,C.1):=by
       obtain ⟨t,ht⟩:=pre
       rw [<- ht,Nat.add_sub_cancel,List.append_assoc,List.getElem?_append_right (Nat.le_refl _),Nat.sub_self]
       rfl
      rw [walkG,if_pos ⟨by omega,fun z=>by have:=(mem_toldG.mp z).2; omega⟩,hx]
      show walkG N j' C.1 (walkG N j' A.1 (toldG s.1.length)) ++ [C.2.1.length + 2] = _
      rw [ihA pA j' (by omega),ihB pB j' (by omega),told_succ,List.length_append]
      rfl
end
section
variable {κ:Type} [DecidableEq κ]
structure LenB (stp:κ -> Stp κ) (ok:κ -> Prop) (s:BS κ):Prop where
 nd:(s.2.map (·.1)).Nodup
 ok:∀ e ∈ s.2,ok e.1 /\ ∀ n,stp e.1 ≠ .fin n
 le:s.1.length <= s.2.length
theorem num_one (ns:List Node) (x:Node):(numG ns x).2.length <= ns.length + 1:=by
 unfold numG
 split
 ·simp
 ·split <;> simp
end
noncomputable def ledG (ns:List Node) (r p:Nat):Nat × Nat:=if r < 2 then (r,r) else match ns[r - 2]? with
 | some x=>if x.1 = p then (x.2.1,x.2.2) else (r,r)
 | none=>(r,r)
noncomputable def bleS (W:Nat) (n1 n2:List Node) (e:Nat -> Nat -> Nat) (k:Nat × Nat):Stp (Nat × Nat):=if k.1 < 2 /\ k.2 < 2 then .fin (e k.1 k.2) else
 .node (min (plG W n1 k.1) (plG W n2 k.2)) ((ledG n1 k.1 (min (plG W n1 k.1) (plG W n2 k.2))).1,(ledG n2 k.2 (min (plG W n1 k.1) (plG W n2 k.2))).1) ((ledG n1 k.1 (min (plG W n1 k.1) (plG W n2 k.2))).2,(ledG n2 k.2 (min (plG W n1 k.1) (plG W n2 k.2))).2)
theorem led_told {W:Nat} {ns:List Node} (g:GoodG W ns) {r p:Nat} (hr:r < ns.length + 2) (hp:p <= plG W ns r) (hW:p < W):
  ((ledG ns r p).1 < ns.length + 2 /\ (ledG ns r p).2 < ns.length + 2 /\ p + 1 <= plG W ns (ledG ns r p).1 /\ p + 1 <= plG W ns (ledG ns r p).2 /\ (ledG ns r p).1 <= r /\ (ledG ns r p).2 <= r /\ (plG W ns r = p -> (ledG ns r p).1 < r /\ (ledG ns r p).2 < r)) /\
  ∀ y,evG ns y r = evG ns y (if y.getD p 0 = 48 then (ledG ns r p).1 else (ledG ns r p).2):=by
 by_cases h2:r < 2
 ·have e:ledG ns r p = (r,r):=by unfold ledG; rw [if_pos h2]
  have pw:plG W ns r = W:=pl_low h2
  rw [e]
  refine ⟨⟨hr,hr,?_,?_,Nat.le_refl _,Nat.le_refl _,fun z=>?_⟩,fun y=>?_⟩
  ·show p + 1 <= plG W ns r; omega
  ·show p + 1 <= plG W ns r; omega
  ·omega
  ·dsimp only
   split <;> rfl
 ·have hx:=List.getElem?_eq_getElem (show r - 2 < ns.length by omega)
  generalize ns[r - 2] = x at hx
  obtain ⟨x1,_,b1,b2,t1,t2⟩:=g.at_ _ _ hx
  have q1:=pl_top t1 x1
  have q2:=pl_top t2 x1
  have pw:plG W ns r = x.1:=pl_at (by omega) hx
  by_cases hxp:x.1 = p
  ·have e:ledG ns r p = (x.2.1,x.2.2):=by unfold ledG; rw [if_neg h2,hx]; dsimp only; rw [if_pos hxp]
   rw [e]
   refine ⟨⟨t1.1,t2.1,?_,?_,?_,?_,fun _=>⟨?_,?_⟩⟩,fun y=>?_⟩
   ·show p + 1 <= plG W ns x.2.1; omega
   ·show p + 1 <= plG W ns x.2.2; omega
   ·show x.2.1 <= r; omega
   ·show x.2.2 <= r; omega
   ·show x.2.1 < r; omega
   ·show x.2.2 < r; omega
   ·rw [ev_step g (by omega) hx,hxp]
  ·have e:ledG ns r p = (r,r):=by unfold ledG; rw [if_neg h2,hx]; dsimp only; rw [if_neg hxp]
   rw [e]
   refine ⟨⟨hr,hr,?_,?_,Nat.le_refl _,Nat.le_refl _,fun z=>?_⟩,fun y=>?_⟩
   ·show p + 1 <= plG W ns r; omega
   ·show p + 1 <= plG W ns r; omega
   ·omega
   ·dsimp only
    split <;> rfl
theorem ble_keys {W:Nat} {n1 n2:List Node} {e:Nat -> Nat -> Nat} (g1:GoodG W n1) (g2:GoodG W n2) (he:∀ a b,a < 2 -> b < 2 -> e a b < 2):
  KeysB W (bleS W n1 n2 e) (fun k=>k.1 + k.2) (fun k=>min (plG W n1 k.1) (plG W n2 k.2)) (fun k=>k.1 < n1.length + 2 /\ k.2 < n2.length + 2) (fun k y=>e (evG n1 y k.1) (evG n2 y k.2)):=by
 refine ⟨fun k n hk hs=>?_,fun k k' hk hs=>?_,fun k p a b hk hs=>?_⟩
 ·unfold bleS at hs
  split at hs
  ·rename_i h
   cases hs
   refine ⟨he _ _ h.1 h.2,fun y _=>?_⟩
   rw [show evG n1 y k.1 = k.1 from end_low _ _ _ _ h.1,show evG n2 y k.2 = k.2 from end_low _ _ _ _ h.2]
  ·cases hs
 ·unfold bleS at hs
  split at hs <;> cases hs
 ·unfold bleS at hs
  split at hs
  ·cases hs
  ·rename_i h
   have l1:=pl_le g1 hk.1
   have l2:=pl_le g2 hk.2
   have lt1:¬ k.1 < 2 -> plG W n1 k.1 < W:=fun h2=>by
    have hx:=List.getElem?_eq_getElem (show k.1 - 2 < n1.length by omega)
    rw [pl_at (by omega) hx]
    exact (g1.at_ _ _ hx).1
   have lt2:¬ k.2 < 2 -> plG W n2 k.2 < W:=fun h2=>by
    have hx:=List.getElem?_eq_getElem (show k.2 - 2 < n2.length by omega)
    rw [pl_at (by omega) hx]
    exact (g2.at_ _ _ hx).1
   have hpW:min (plG W n1 k.1) (plG W n2 k.2) < W:=by
    by_cases c:k.1 < 2
    ·have:=lt2 fun z=>h ⟨c,z⟩
     omega
    ·have:=lt1 c
     omega
   obtain ⟨⟨a1,a2,a3,a4,a5,a6,a7⟩,a8⟩:=led_told g1 hk.1 (Nat.min_le_left (plG W n1 k.1) (plG W n2 k.2)) hpW
   obtain ⟨⟨b1,b2,b3,b4,b5,b6,b7⟩,b8⟩:=led_told g2 hk.2 (Nat.min_le_right (plG W n1 k.1) (plG W n2 k.2)) hpW
   have one:plG W n1 k.1 = min (plG W n1 k.1) (plG W n2 k.2) \/ plG W n2 k.2 = min (plG W n1 k.1) (plG W n2 k.2):=by omega
   generalize min (plG W n1 k.1) (plG W n2 k.2) = m at hs a1 a2 a3 a4 a5 a6 a7 a8 b1 b2 b3 b4 b5 b6 b7 b8 one hpW
   cases hs
   have dec:(ledG n1 k.1 p).1 + (ledG n2 k.2 p).1 < k.1 + k.2 /\ (ledG n1 k.1 p).2 + (ledG n2 k.2 p).2 < k.1 + k.2:=by
    rcases one with z | z
    ·have:=a7 z; omega
    ·have:=b7 z; omega
   refine ⟨⟨a1,b1⟩,⟨a2,b2⟩,dec.1,dec.2,Nat.le_refl _,hpW,?_,?_,fun y hy=>?_⟩
   ·dsimp only; omega
   ·dsimp only; omega
   ·dsimp only
    rw [a8 y,b8 y]
    split <;> rfl
section
variable {κ:Type} [DecidableEq κ]
theorem filter_low (P:List Nat) {a b:Nat} (h:a <= b):(P.filter fun p=>decide (b <= p)).length <= (P.filter fun p=>decide (a <= p)).length:=by
 rw [<- List.countP_eq_length_filter,<- List.countP_eq_length_filter]
 exact List.countP_mono_left fun x _ hx=>by simp at hx ⊢; omega
theorem putB_len (kn:List (κ × Nat)) (k:κ) (r:Nat):(putB kn k r).length <= kn.length + 1:=by
 unfold putB
 split <;> simp
theorem build_pow {W:Nat} {stp:κ -> Stp κ} {rk tp:κ -> Nat} {ok:κ -> Prop} {sem:κ -> List Nat -> Nat} (B:KeysB W stp rk tp ok sem) {P:List Nat} (hP:∀ k p a b,ok k -> stp k = .node p a b -> p ∈ P) (hgo:∀ k k',ok k -> stp k ≠ .go k'):∀ (f:Nat) (k:κ) (s:BS κ),rk k < f -> ok k ->
  (buildG stp f k s).2.1.length + 1 <= s.1.length + 2 ^ (P.filter fun p=>decide (tp k <= p)).length /\ (buildG stp f k s).2.2.length + 1 <= s.2.length + 2 ^ (P.filter fun p=>decide (tp k <= p)).length:=by
 intro f
 induction f with
 | zero=>intro k s h; omega
 | succ f ih=>
  intro k s hf hk
  have hpos:0 < 2 ^ (P.filter fun p=>decide (tp k <= p)).length:=Nat.two_pow_pos _
  rw [buildG]
  cases hs:stp k with
  | fin n=>dsimp only; omega
  | go k'=>exact absurd hs (hgo k k' hk)
  | node p k0 k1=>
   obtain ⟨n1,n2,n3,n4,n5,n6,n7,n8,_⟩:=B.node k p k0 k1 hk hs
   cases hg:getB s.2 k with
   | some r=>dsimp only; omega
   | none=>
    dsimp only
    have a:=ih k0 s (by omega) n1
    generalize buildG stp f k0 s = A at a
    have b:=ih k1 A.2 (by omega) n2
    generalize buildG stp f k1 A.2 = C at b
    have hp:=hP k p k0 k1 hk hs
    have c0:=filter_up P hp (b:=tp k0) n7
    have c1:=filter_up P hp (b:=tp k1) n8
    have c2:=filter_low P n5
    generalize (P.filter fun q=>decide (tp k <= q)).length = c at c2
    generalize (P.filter fun q=>decide (p <= q)).length = d at c0 c1 c2
    obtain ⟨c,rfl⟩:∃ c',c = c' + 1:=⟨c - 1,by omega⟩
    have p0:2 ^ (P.filter fun q=>decide (tp k0 <= q)).length <= 2 ^ c:=Nat.pow_le_pow_right (by decide) (by omega)
    have p1:2 ^ (P.filter fun q=>decide (tp k1 <= q)).length <= 2 ^ c:=Nat.pow_le_pow_right (by decide) (by omega)
    have e:=num_one C.2.1 (p,A.1,C.1)
    have g:=putB_len C.2.2 k (numG C.2.1 (p,A.1,C.1)).1
    rw [Nat.pow_succ]
    omega
end
noncomputable def bleL (W:Nat) (g h:Nat × List Node) (e:Nat -> Nat -> Nat):Nat × List Node:=((buildG (bleS W g.2 h.2 e) (g.1 + h.1 + 1) (g.1,h.1) ([],[])).1,(buildG (bleS W g.2 h.2 e) (g.1 + h.1 + 1) (g.1,h.1) ([],[])).2.1)
theorem ble_told {W:Nat} {g h:Nat × List Node} {e:Nat -> Nat -> Nat} (gg:GoodG W g.2) (gh:GoodG W h.2) (rg:g.1 < g.2.length + 2) (rh:h.1 < h.2.length + 2) (he:∀ a b,a < 2 -> b < 2 -> e a b < 2):
  GoodG W (bleL W g h e).2 /\ topG (bleL W g h e).2 (bleL W g h e).1 0 /\ walkG (bleL W g h e).2 (bleL W g h e).1 (bleL W g h e).1 [] = toldG (bleL W g h e).2.length /\ ∀ y,LetW W y -> evG (bleL W g h e).2 y (bleL W g h e).1 = e (evG g.2 y g.1) (evG h.2 y h.1):=by
 have B:=ble_keys gg gh he
 have g0:GoodG W ([]:List Node):=⟨List.nodup_nil,fun i x h=>by simp at h⟩
 have k0:KnownB W ([]:List Node) (fun k:Nat × Nat=>min (plG W g.2 k.1) (plG W h.2 k.2)) (fun k y=>e (evG g.2 y k.1) (evG h.2 y k.2)) ([]:List ((Nat × Nat) × Nat)):=fun e he=>absurd he List.not_mem_nil
 obtain ⟨ms,a1,_,a3,_,a5⟩:=build_good B (g.1 + h.1 + 1) (g.1,h.1) ([],[]) (Nat.lt_succ_self _) ⟨rg,rh⟩ g0 k0
 have wk:=build_walk B (buildG (bleS W g.2 h.2 e) (g.1 + h.1 + 1) (g.1,h.1) ([],[])).2.1 (g.1 + h.1 + 1) (g.1,h.1) ([],[]) (Nat.lt_succ_self _) ⟨rg,rh⟩ g0 k0 (List.prefix_refl _) _ (Nat.le_refl _)
 have a1:(buildG (bleS W g.2 h.2 e) (g.1 + h.1 + 1) (g.1,h.1) ([],[])).2.1 = ms:=a1
 have a3:GoodG W ms:=a3
 have a5:NumB W ms _ _ _:=a5
 unfold bleL
 rw [a1] at wk ⊢
 exact ⟨a3,topG_less a5.1 (Nat.zero_le _),wk,a5.2⟩
theorem nodes_zip {H:Hp} {ns:List Node} {vs:List V} (h:Paired (NodeAt H) ns vs):∃ zs:List (Node × Addr),ns = zs.map (·.1) /\ vs = zs.map (fun z=>V.ref z.2) /\ ∀ z ∈ zs,H z.2 = some (.tup [.int z.1.1,.int z.1.2.1,.int z.1.2.2]):=by
 induction h with
 | nil=>exact ⟨[],rfl,rfl,fun _ h=>absurd h List.not_mem_nil⟩
 | cons r _ ih=>
  rename_i x _ _ _ _
  obtain ⟨t,rfl,e⟩:=r
  obtain ⟨zs,rfl,rfl,hz⟩:=ih
  exact ⟨(x,t) :: zs,rfl,rfl,fun z h=>by
   rcases List.mem_cons.mp h with rfl | h
   ·exact e
   ·exact hz z h⟩
theorem within_let:∀ {y c:List Nat},y.length = c.length -> IsLet c -> (within y c = true ↔ y = c)
 | [],[],_,_=>by simp [within]
 | [],_ :: _,h,_=>by simp at h
 | _ :: _,[],h,_=>by simp at h
 | a :: y,b :: c,h,hc=>by
  have hb:¬ b = 45:=by rcases hc b List.mem_cons_self with z | z <;> omega
  have ih:=within_let (y:=y) (c:=c) (by simpa using h) fun d hd=>hc d (List.mem_cons_of_mem _ hd)
  rw [within_cons,Bool.and_eq_true,ih]
  simp only [Bool.or_eq_true,beq_iff_eq,hb,false_or,List.cons.injEq]
  constructor
  ·rintro ⟨a1,a2⟩; exact ⟨a1.symm,a2⟩
  ·rintro ⟨a1,a2⟩; exact ⟨a1.symm,a2⟩
theorem inH_lets {due:List (List Nat)} {n:Nat} {y:List Nat} (hd:∀ c ∈ due,c.length = n /\ IsLet c) (hy:y.length = n):inH due y = decide (y ∈ due):=by
 rw [Bool.eq_iff_iff,decide_eq_true_eq]
 unfold inH
 rw [List.any_eq_true]
 constructor
 ·rintro ⟨c,hc,h⟩
  rw [(within_let (by rw [hy,(hd c hc).1]) (hd c hc).2).mp h]
  exact hc
 ·intro h
  exact ⟨y,h,(within_let rfl (hd y h).2).mpr rfl⟩
structure VeryG (W:Nat) (ps:List Nat) (due:List (List Nat)) (g:Nat × List Node):Prop where
 ok:GraphOk W g
 walk:walkG g.2 g.1 g.1 [] = toldG g.2.length
 ev:∀ y,LetW W y -> evG g.2 y g.1 = if narrow y ps ∈ due then 1 else 0
theorem very_one {W:Nat} {ps:List Nat} {due:List (List Nat)} {g:Nat × List Node} (hd:∀ c ∈ due,c.length = ps.length /\ IsLet c) (nd:ps.Nodup) (lt:∀ p ∈ ps,p < W) (h:VeryG W ps due g):g = graphL (due.map fun s=>setAll s ps (dashes W)):=by
 have wid:∀ r ∈ due.map (fun s=>setAll s ps (dashes W)),r.length = W:=fun r hr=>by
  obtain ⟨s,_,rfl⟩:=List.mem_map.mp hr
  rw [setAll_len]
  simp [dashes]
 obtain ⟨o,w,_,v⟩:=graph_told wid
 refine graph_one h.ok.good o.good h.ok.root.1 o.root.1 h.walk w fun y hy=>?_
 rw [h.ev y hy,v y hy.1 hy.2,inH_laid (fun s hs=>(hd s hs).1) nd lt (fun r=>Iff.rfl) hy.1,inH_lets hd (by simp [narrow])]
 simp
theorem very_good {ss:List (List Nat)} {W:Nat} {ps:List Nat} (h1:∀ s ∈ ss,s.length = ps.length) (nd:ps.Nodup) (lt:∀ p ∈ ps,p < W):VeryG W ps (goodL ss ps.length) (graphL (ss.map fun s=>setAll s ps (dashes W))):=by
 have wid:∀ r ∈ ss.map (fun s=>setAll s ps (dashes W)),r.length = W:=fun r hr=>by
  obtain ⟨s,_,rfl⟩:=List.mem_map.mp hr
  rw [setAll_len]
  simp [dashes]
 obtain ⟨o,w,_,v⟩:=graph_told wid
 refine ⟨o,w,fun y hy=>?_⟩
 have nl:IsLet (narrow y ps):=fun c hc=>by
  obtain ⟨p,hp,rfl⟩:=List.mem_map.mp hc
  exact let_at hy.2 (by rw [hy.1]; exact lt p hp)
 have hm:=choices_mem ps.length (narrow y ps) (by simp [narrow]) nl
 rw [v y hy.1 hy.2,inH_laid h1 nd lt (fun r=>Iff.rfl) hy.1,<- any_ok nl]
 unfold goodL
 simp [hm]
noncomputable def sp__law_wholes (K:Frag):Sp:=fun vs H Q _=>match vs with
 | [.ref ga]=>∃ g:Nat × List Node,GraphAt H ga g /\ g.2.length <= 5000 /\ ∀ H',Same H H' -> Q (.bl true) H'
 | _=>False
theorem ok__law_wholes (T:Top K mg):Callee P w K mg base 1 "_law_wholes" ["_law_graph"] (sp__law_wholes K):=by
 refine T.f__law_wholes.cal sc__law_wholes (by intro vs H Q E h; unfold sp__law_wholes at h; split at h <;> first | rfl | exact h.elim) (fun _ _ _ _ _ _ us hl=>match us,hl with | [_],_=>rfl) (fun f cdv A outer s H vs Q E hr h=>?_)
 unfold sp__law_wholes at h
 split at h
 case h_2=>exact h.elim
 refine ⟨_,(pss_cons (qs_for PassesOwn.never rfl (iterE K rfl (pe_op op_addK (pe_lst (pa_cons (pe_tup (pa_cons (pe_ix (ixE K rfl) (qv 0) pe_int (fun _ _=>rfl)) pa_nil)) pa_nil)) (pe_ix (ixE K rfl) (qv 0) pe_int (fun _ _=>rfl)))) (pg_name (i:=1) sc__law_wholes.nd rfl lc) (pss_one (ps_if (qt_cmp (neNilE K rfl (hu1 hr)) (qe_comp (nt:=1) (fi:=[]) (N':=["_law_part"]) rfl (cscope rfl (by decide +kernel)) (cnames (N:=["_law_graph", "_law_node"]) (sc:=defScope s__law_wholes) rfl rfl (by decide +kernel)) (gk_name (by decide)) (iterE K rfl (qv 1)) (fun _ _ _ _ _=>(pg_name (i:=0) (by show (["_law_part"]:List Str).Nodup; decide +kernel) rfl lc)) (fun _ _ _ _ _=>(pif_one (PW.pt (pw_or (pt_not (qt_val (qe_isinst .int rfl T.b_isinstance (qv 0) rfl T.b_int bb_int))) (pw_or1 (qt_val (qe_isinst .bool rfl T.b_isinstance (qv 0) rfl T.b_bool bb_bool))))))) (fun _ _ _ _ _=>(qv 0))) (pe_lst pa_nil)) (pss_one (ps_ret pe_bl)) pss_nil)))
   (pss_one (ps_ret pe_bl))),?_⟩
 rename_i ga
 obtain ⟨g,⟨na,vs,e1,e2,pv⟩,hl,q⟩:=h
 have hlv:=pv.length
 walk_at "rd"
 refine ⟨_,_,.inr (SqT.of e1),rfl,by decide,fun t0 h0=>⟨by decide,fun l0 hl0=>?_⟩⟩
 have s1:Same H (upd (upd H t0 (.tup [V.int (g.1:Nat)])) l0 (.lst [V.ref t0])):=(same_new h0 _).trans (same_new hl0 _)
 have et0:upd (upd H t0 (.tup [V.int (g.1:Nat)])) l0 (.lst [V.ref t0]) t0 = some (.tup [V.int (g.1:Nat)]):=same_new hl0 _ _ _ upd_same
 have el0:upd (upd H t0 (.tup [V.int (g.1:Nat)])) l0 (.lst [V.ref t0]) l0 = some (.lst [V.ref t0]):=upd_same
 generalize upd (upd H t0 (.tup [V.int (g.1:Nat)])) l0 (.lst [V.ref t0]) = H1 at s1 et0 el0
 refine ⟨_,_,.inr (SqT.of (s1 _ _ e1)),rfl,?_⟩
 walk_at "rd"
 refine ⟨_,_,el0,s1 _ _ e2,by rw [sizeLine_eq]; simp; omega,fun lp hlp=>.inl ⟨⟨_,SqL.of upd_same⟩,?_⟩⟩
 have s2:=same_new hlp (.lst ([V.ref t0] ++ vs))
 have all:∀ v ∈ [V.ref t0] ++ vs,∃ (t:Addr) (is:List Int),v = .ref t /\ upd H1 lp (.lst ([V.ref t0] ++ vs)) t = some (.tup (is.map V.int)) /\ is.length <= 3:=fun v hv=>by
  rcases List.mem_append.mp hv with h | h
  ·rw [List.mem_singleton.mp h]
   exact ⟨t0,[(g.1:Int)],rfl,s2 _ _ et0,by simp⟩
  ·obtain ⟨x,_,t,e,q⟩:=paired_memr pv v h
   exact ⟨t,[(x.1:Int),(x.2.1:Int),(x.2.2:Int)],e,s2 _ _ (s1 _ _ q),by simp⟩
 refine loop_list (fun i σ H'=>∃ u,σ = [some (.ref ga),u] /\ Same (upd H1 lp (.lst ([V.ref t0] ++ vs))) H') ⟨none,rfl,Same.refl _⟩ (fun i σ H' _ ⟨_,_,z⟩=>SqL.of (z _ _ upd_same)) ?_ ?_
 ·rintro i v σ H' hv ⟨u,rfl,sH⟩
  obtain ⟨t,is,rfl,et,hil⟩:=all v (List.mem_of_getElem? hv)
  walk_at "rd"
  refine .inr ⟨⟨_,SqT.of (sH _ _ et)⟩,fun D hD=>?_⟩
  refine comp_tup (item:=V.int) (xs:=is) (h:=fun _=>[]) hD (sH _ _ et) (by omega) (fun _=>by simp) ?_ ?_
  ·intro j H2 out non hm s3 ho hno
   walk_at "rd"
   exact hno _ rfl (Same.refl _)
  intro H2 s3 e3
  have e3:H2 D = some (.lst []):=by
   rw [e3]
   simp
  refine ⟨Nat.zero_le _,fun p2 hp2=>⟨[],SqL.of (same_new hp2 _ _ _ e3),SqL.of upd_same,?_⟩⟩
  walk_at "rd"
  exact ⟨_,rfl,sH.trans (s3.trans (same_new hp2 _))⟩
 ·rintro σ H' ⟨u,rfl,sH⟩
  walk_at "rd"
  exact q H' (s1.trans (s2.trans sH))
theorem very_blend {W:Nat} {ps:List Nat} {gs1 gs2:List (List Nat)} {g1 g2:Nat × List Node} {e:Nat -> Nat -> Nat} (he:∀ a b,a < 2 -> b < 2 -> e a b < 2) (V1:VeryG W ps gs1 g1) (V2:VeryG W ps gs2 g2) (lt:∀ p ∈ ps,p < W):
  VeryG W ps ((choicesL ps.length).filter fun c=>decide (e (if c ∈ gs1 then 1 else 0) (if c ∈ gs2 then 1 else 0) = 1)) (bleL W g1 g2 e):=by
 obtain ⟨a,b,c,d⟩:=ble_told V1.ok.good V2.ok.good V1.ok.root.1 V2.ok.root.1 he
 refine ⟨⟨a,b⟩,c,fun y hy=>?_⟩
 have nl:IsLet (narrow y ps):=fun c hc=>by
  obtain ⟨p,hp,rfl⟩:=List.mem_map.mp hc
  exact let_at hy.2 (by rw [hy.1]; exact lt p hp)
 have hm:=choices_mem ps.length (narrow y ps) (by simp [narrow]) nl
 rw [d y hy,V1.ev y hy,V2.ev y hy]
 have h2:=he (if narrow y ps ∈ gs1 then 1 else 0) (if narrow y ps ∈ gs2 then 1 else 0) (by split <;> decide) (by split <;> decide)
 generalize hz:e (if narrow y ps ∈ gs1 then 1 else 0) (if narrow y ps ∈ gs2 then 1 else 0) = z at h2
 have:(narrow y ps ∈ (choicesL ps.length).filter fun c=>decide (e (if c ∈ gs1 then 1 else 0) (if c ∈ gs2 then 1 else 0) = 1)) ↔ z = 1:=by
  rw [List.mem_filter]
  simp [hm,hz]
 by_cases h1:z = 1
 ·rw [if_pos (this.mpr h1),h1]
 ·rw [if_neg fun x=>h1 (this.mp x)]
  omega
noncomputable def nodesS (bh:Nat) (ns:List Node):List Node:=(bh,0,0) :: (bh,1,1) :: ns
theorem steps_low {bh r:Nat} {ns:List Node} (h:r < 2):(nodesS bh ns)[r]? = some (bh,r,r):=by
 unfold nodesS
 match r,h with
 | 0,_=>rfl
 | 1,_=>rfl
theorem steps_up {bh r:Nat} {ns:List Node} (h:2 <= r):(nodesS bh ns)[r]? = ns[r - 2]?:=by
 obtain ⟨k,rfl⟩:∃ k,r = k + 2:=⟨r - 2,by omega⟩
 rfl
theorem steps_some {bh r:Nat} {ns:List Node} (h:r < ns.length + 2):∃ x,(nodesS bh ns)[r]? = some x /\ ∀ p,ledG ns r p = if x.1 = p then (x.2.1,x.2.2) else (r,r):=by
 by_cases h2:r < 2
 ·refine ⟨_,steps_low h2,fun p=>?_⟩
  unfold ledG
  rw [if_pos h2]
  split <;> rfl
 ·have hx:=List.getElem?_eq_getElem (show r - 2 < ns.length by omega)
  refine ⟨ns[r - 2],by rw [steps_up (by omega),hx],fun p=>?_⟩
  unfold ledG
  rw [if_neg h2,hx]
theorem steps_min {W bh a b:Nat} {n1 n2:List Node} {x y:Node} (g1:GoodG W n1) (g2:GoodG W n2) (b1:∀ z ∈ n1,z.1 < bh) (b2:∀ z ∈ n2,z.1 < bh) (ha:a < n1.length + 2) (hb:b < n2.length + 2) (hn:¬ (a < 2 /\ b < 2)) (hx:(nodesS bh n1)[a]? = some x) (hy:(nodesS bh n2)[b]? = some y):
  (if (y.1:Int) < (x.1:Int) then (y.1:Int) else (x.1:Int)) = ((min (plG W n1 a) (plG W n2 b):Nat):Int):=by
 have side:∀ {ns:List Node} {r:Nat} {z:Node},GoodG W ns -> (∀ z ∈ ns,z.1 < bh) -> r < ns.length + 2 -> (nodesS bh ns)[r]? = some z -> (r < 2 /\ z.1 = bh /\ plG W ns r = W) \/ (2 <= r /\ z.1 < bh /\ z.1 < W /\ plG W ns r = z.1):=fun {ns r z} g hb hr hz=>by
  by_cases h2:r < 2
  ·rw [steps_low h2] at hz
   cases hz
   exact .inl ⟨h2,rfl,pl_low h2⟩
  ·rw [steps_up (by omega)] at hz
   exact .inr ⟨by omega,hb _ (List.mem_of_getElem? hz),(g.at_ _ _ hz).1,pl_at (by omega) hz⟩
 rcases side g1 b1 ha hx with ⟨z1,z2,z3⟩ | ⟨z1,z2,z4,z3⟩ <;> rcases side g2 b2 hb hy with ⟨w1,w2,w3⟩ | ⟨w1,w2,w4,w3⟩
 ·exact absurd ⟨z1,w1⟩ hn
 all_goals (rw [z3,w3]; split <;> omega)
structure BlOk (W bh:Nat) (n1 n2:List Node) (es P:List Nat):Prop where
 g1:GoodG W n1
 g2:GoodG W n2
 b1:∀ x ∈ n1,x.1 < bh
 b2:∀ x ∈ n2,x.1 < bh
 p1:∀ x ∈ n1,x.1 ∈ P
 p2:∀ x ∈ n2,x.1 ∈ P
 el:es.length = 4
 eb:∀ e ∈ es,e < 2
 pl:P.length <= 12
 hW:W <= 1000
noncomputable def eE (es:List Nat) (i j:Nat):Nat:=es.getD (i + i + j) 0
theorem BlOk.ends {W bh:Nat} {n1 n2:List Node} {es P:List Nat} (k:BlOk W bh n1 n2 es P):∀ a b,a < 2 -> b < 2 -> eE es a b < 2:=fun a b ha hb=>by
 unfold eE
 have h:a + a + b < es.length:=by rw [k.el]; omega
 rw [List.getD_eq_getElem?_getD,List.getElem?_eq_getElem h]
 exact k.eb _ (List.getElem_mem h)
theorem BlOk.mem {W bh:Nat} {n1 n2:List Node} {es P:List Nat} (k:BlOk W bh n1 n2 es P) (c:Nat × Nat) (p:Nat) (x y:Nat × Nat) (hc:c.1 < n1.length + 2 /\ c.2 < n2.length + 2) (hs:bleS W n1 n2 (eE es) c = .node p x y):p ∈ P:=by
 unfold bleS at hs
 split at hs
 ·cases hs
 ·rename_i hn
  have q:∀ {ns:List Node} {r:Nat},(∀ x ∈ ns,x.1 ∈ P) -> r < ns.length + 2 -> 2 <= r -> plG W ns r ∈ P:=fun {ns r} hp hr h2=>by
   have hx:=List.getElem?_eq_getElem (show r - 2 < ns.length by omega)
   rw [pl_at h2 hx]
   exact hp _ (List.getElem_mem _)
  have l1:=pl_le k.g1 hc.1
  have l2:=pl_le k.g2 hc.2
  have w1:c.1 < 2 -> plG W n1 c.1 = W:=pl_low
  have w2:c.2 < 2 -> plG W n2 c.2 = W:=pl_low
  generalize hm:min (plG W n1 c.1) (plG W n2 c.2) = m at hs
  have hpm:p = m:=by cases hs; rfl
  rw [hpm]
  by_cases c1:c.1 < 2
  ·have c2:2 <= c.2:=by
    rcases Nat.lt_or_ge c.2 2 with z | z
    ·exact absurd ⟨c1,z⟩ hn
    ·exact z
   have:=q k.p2 hc.2 c2
   rw [show m = plG W n2 c.2 by have:=w1 c1; omega]
   exact this
  ·by_cases c2:c.2 < 2
   ·rw [show m = plG W n1 c.1 by have:=w2 c2; omega]
    exact q k.p1 hc.1 (by omega)
   ·rcases Nat.le_total (plG W n1 c.1) (plG W n2 c.2) with z | z
    ·rw [show m = plG W n1 c.1 by omega]
     exact q k.p1 hc.1 (by omega)
    ·rw [show m = plG W n2 c.2 by omega]
     exact q k.p2 hc.2 (by omega)
noncomputable abbrev cutP (W:Nat) (n1 n2:List Node) (P:List Nat) (k:Nat × Nat):Nat:=(P.filter fun p=>decide (min (plG W n1 k.1) (plG W n2 k.2) <= p)).length
theorem BlOk.pow {W bh:Nat} {n1 n2:List Node} {es P:List Nat} (k:BlOk W bh n1 n2 es P) (f:Nat) (a:Nat × Nat) (s:BS (Nat × Nat)) (hf:a.1 + a.2 < f) (h1:a.1 < n1.length + 2) (h2:a.2 < n2.length + 2):
  (buildG (bleS W n1 n2 (eE es)) f a s).2.1.length + 1 <= s.1.length + 2 ^ cutP W n1 n2 P a /\ (buildG (bleS W n1 n2 (eE es)) f a s).2.2.length + 1 <= s.2.length + 2 ^ cutP W n1 n2 P a:=
 build_pow (ble_keys k.g1 k.g2 k.ends) (P:=P) k.mem (fun c c' _ hs=>by unfold bleS at hs; split at hs <;> cases hs) f a s hf ⟨h1,h2⟩
structure BLE (W m fu p:Nat) (k0 k1:Nat × Nat) (n1 n2:List Node) (es P:List Nat) (s:BS (Nat × Nat)):Prop where
 a1:k0.1 < n1.length + 2
 b1:k0.2 < n2.length + 2
 a2:k1.1 < n1.length + 2
 b2:k1.2 < n2.length + 2
 f1:k0.1 + k0.2 < fu
 f2:k1.1 + k1.2 < fu
 m1:W < m + min (plG W n1 k0.1) (plG W n2 k0.2)
 m2:W < m + min (plG W n1 k1.1) (plG W n2 k1.2)
 l1:s.1.length + 2 ^ cutP W n1 n2 P k0 <= 20000
 l2:s.2.length + 2 ^ cutP W n1 n2 P k0 <= 20000
 l3:(buildG (bleS W n1 n2 (eE es)) fu k0 s).2.1.length + 2 ^ cutP W n1 n2 P k1 <= 20000
 l4:(buildG (bleS W n1 n2 (eE es)) fu k0 s).2.2.length + 2 ^ cutP W n1 n2 P k1 <= 20000
theorem BLE.of {W bh m fu p:Nat} {k k0 k1:Nat × Nat} {n1 n2:List Node} {es P:List Nat} {s:BS (Nat × Nat)} (ok:BlOk W bh n1 n2 es P) (hk:k.1 < n1.length + 2 /\ k.2 < n2.length + 2) (est:bleS W n1 n2 (eE es) k = .node p k0 k1) (hf:k.1 + k.2 < fu + 1) (hm:W < m + 1 + min (plG W n1 k.1) (plG W n2 k.2))
  (l1:s.1.length + 2 ^ cutP W n1 n2 P k <= 20000) (l2:s.2.length + 2 ^ cutP W n1 n2 P k <= 20000):BLE W m fu p k0 k1 n1 n2 es P s:=by
 obtain ⟨c1,c2,c3,c4,c5,c6,c7,c8,_⟩:=(ble_keys ok.g1 ok.g2 ok.ends).node k p k0 k1 hk est
 have hp:=ok.mem k p k0 k1 hk est
 have d0:=filter_up P hp (b:=min (plG W n1 k0.1) (plG W n2 k0.2)) c7
 have d1:=filter_up P hp (b:=min (plG W n1 k1.1) (plG W n2 k1.2)) c8
 have d2:=filter_low P c5
 have z:=ok.pow fu k0 s (by omega) c1.1 c1.2
 unfold cutP at l1 l2 z
 generalize hc:(P.filter fun q=>decide (min (plG W n1 k.1) (plG W n2 k.2) <= q)).length = c at l1 l2 d2
 generalize (P.filter fun q=>decide (p <= q)).length = d at d0 d1 d2
 obtain ⟨c,rfl⟩:∃ c',c = c' + 1:=⟨c - 1,by omega⟩
 have p0:2 ^ (P.filter fun q=>decide (min (plG W n1 k0.1) (plG W n2 k0.2) <= q)).length <= 2 ^ c:=Nat.pow_le_pow_right (by decide) (by omega)
 have p1:2 ^ (P.filter fun q=>decide (min (plG W n1 k1.1) (plG W n2 k1.2) <= q)).length <= 2 ^ c:=Nat.pow_le_pow_right (by decide) (by omega)
 rw [Nat.pow_succ] at l1 l2
 refine ⟨c1.1,c1.2,c2.1,c2.2,by omega,by omega,by omega,by omega,?_,?_,?_,?_⟩ <;> unfold cutP <;> omega
theorem getB_new (kn:List ((Nat × Nat) × Nat)) (k:Nat × Nat) (r:Nat):getB (putB kn k r) k = some r:=by
 unfold putB
 split
 ·rename_i h
  unfold getB
  induction kn with
  | nil=>simp at h
  | cons e l ih=>
   rw [List.map_cons,List.find?_cons]
   by_cases he:e.1 = k
   ·simp [he]
   ·simp only [he,if_false,decide_false]
    exact ih (by simpa [he] using h)
 ·rename_i h
  unfold getB
  rw [List.find?_append]
  have:kn.find? (fun kv=>decide (kv.1 = k)) = none:=by
   rw [List.find?_eq_none]
   intro x hx z
   exact h (List.any_eq_true.mpr ⟨x,hx,z⟩)
  rw [this]
  simp
noncomputable def pairK (k:Nat × Nat):List Key:=[.inl (k.1:Int),.inl (k.2:Int)]
noncomputable def kpK (kn:List ((Nat × Nat) × Nat)):List (List Key × V):=kn.map fun e=>(pairK e.1,V.int (e.2:Nat))
theorem pairK_inj {a b:Nat × Nat}:pairK a = pairK b ↔ a = b:=by
 unfold pairK
 constructor
 ·intro h
  injection h with h1 h2
  injection h2 with h2 _
  injection h1 with h1
  injection h2 with h2
  exact Prod.ext (by omega) (by omega)
 ·intro h; rw [h]
theorem val_kpK:∀ (kn:List ((Nat × Nat) × Nat)) (k:Nat × Nat),valV (kpK kn) (pairK k) = (getB kn k).map fun r=>V.int (r:Nat)
 | [],k=>rfl
 | e :: kn,k=>by
  have ih:=val_kpK kn k
  unfold valV kpK getB at ih ⊢
  rw [List.map_cons,List.find?_cons,List.find?_cons]
  by_cases h:e.1 = k
  ·simp [h]
  ·rw [show decide (pairK e.1 = pairK k) = false by simpa [pairK_inj] using h,show decide (e.1 = k) = false by simpa using h]
   exact ih
theorem put_kpK (kn:List ((Nat × Nat) × Nat)) (k:Nat × Nat) (r:Nat):putK (kpK kn) (pairK k) (V.int (r:Nat)) = kpK (putB kn k r):=by
 unfold putK putB kpK
 have ha:(kn.map fun e=>(pairK e.1,V.int (e.2:Nat))).any (fun kv=>decide (kv.1 = pairK k)) = kn.any fun kv=>decide (kv.1 = k):=by
  rw [List.any_map]
  congr 1
  funext e
  simp [pairK_inj]
 rw [ha]
 split
 ·rw [List.map_map,List.map_map]
  refine List.map_congr_left fun e _=>?_
  simp only [Function.comp]
  by_cases h:e.1 = k
  ·rw [if_pos (pairK_inj.mpr h),if_pos h]
  ·rw [if_neg (fun z=>h (pairK_inj.mp z)),if_neg h]
 ·rw [List.map_append]
  rfl
theorem num_in {ns:List Node} {x z:Node} (h:z ∈ (numG ns x).2):z ∈ ns \/ z = x:=by
 unfold numG at h
 split at h
 ·exact .inl h
 ·split at h
  ·exact .inl h
  ·rcases List.mem_append.mp h with h | h
   ·exact .inl h
   ·exact .inr (List.mem_singleton.mp h)
theorem grow_in:∀ (ps:List Nat) (hs:Rows) (s:GS) (x:Node),x ∈ (growG ps hs s).2.1 -> x ∈ s.1 \/ x.1 ∈ ps
 | [],hs,s,x,h=>.inl h
 | p :: ps,hs,s,x,h=>by
  by_cases h0:hs = []
  ·rw [growG,if_pos h0] at h
   exact .inl h
  by_cases h1:dashes (ps.length + 1) ∈ hs
  ·rw [growG,if_neg h0,if_pos h1] at h
   exact .inl h
  cases hk:getG s.2 hs with
  | some r=>
   rw [growG,if_neg h0,if_neg h1,hk] at h
   exact .inl h
  | none=>
   rw [grow_step h0 h1 hk rfl rfl] at h
   rcases num_in h with h | h
   ·rcases grow_in ps _ _ x h with h | h
    ·rcases grow_in ps _ _ x h with h | h
     ·exact .inl h
     ·exact .inr (List.mem_cons_of_mem _ h)
    ·exact .inr (List.mem_cons_of_mem _ h)
   ·rw [h]
    exact .inr List.mem_cons_self
theorem laid_in {ss:List (List Nat)} {ps:List Nat} {W:Nat}:∀ x ∈ (graphL (ss.map fun s=>setAll s ps (dashes W))).2,x.1 ∈ ps:=fun x hx=>by
 have w:∀ r ∈ ss.map (fun s=>setAll s ps (dashes W)),r.length = W:=fun r hr=>by
  obtain ⟨s,_,rfl⟩:=List.mem_map.mp hr
  rw [setAll_len]
  simp [dashes]
 rcases grow_in _ _ _ x hx with h | h
 ·exact absurd h List.not_mem_nil
 ·rw [places_head w] at h
  have hlt:=places_lt h
  obtain ⟨r,hr,h45⟩:=List.any_eq_true.mp (List.mem_filter.mp h).2
  obtain ⟨s,_,rfl⟩:=List.mem_map.mp hr
  apply Classical.byContradiction
  intro hn
  rw [setAll_other ps s _ _ hn] at h45
  simp [dashes,hlt] at h45
noncomputable def wordsB:List (Str × List Int):=[("join",[0,1,1,1]),("common",[0,0,0,1]),("less",[0,0,1,0]),("either",[0,1,1,0])]
noncomputable def liesB (w:List Nat) (a b:Bool):Bool:=if w = [106,111,105,110] then a || b else if w = [99,111,109,109,111,110] then a && b else if w = [108,101,115,115] then a && !b else a != b
def WordE (w es:List Nat):Prop:=PyProof.Rows.KTD.datumAt (st w) wordsB = some (es.map fun e:Nat=>(e:Int)) /\ es.length = 4 /\ (∀ e ∈ es,e < 2) /\ ∀ a b:Bool,liesB w a b = decide (eE es (if a then 1 else 0) (if b then 1 else 0) = 1)
theorem word_all:WordE [106,111,105,110] [0,1,1,1] /\ WordE [99,111,109,109,111,110] [0,0,0,1] /\ WordE [108,101,115,115] [0,0,1,0] /\ WordE [101,105,116,104,101,114] [0,1,1,0]:=by
 unfold WordE
 refine ⟨⟨by decide,rfl,by decide,by decide⟩,⟨by decide,rfl,by decide,by decide⟩,⟨by decide,rfl,by decide,by decide⟩,⟨by decide,rfl,by decide,by decide⟩⟩
def StepsAt (H:Hp) (q:Addr) (bh:Nat) (ns:List Node):Prop:=∃ vs,H q = some (.lst vs) /\ Paired (NodeAt H) (nodesS bh ns) vs
theorem StepsAt.keep {H H':Hp} {q:Addr} {bh:Nat} {ns:List Node} (h:StepsAt H q bh ns) (kt:∀ b xs,H b = some (.tup xs) -> H' b = some (.tup xs)) (kq:∀ vs,H q = some (.lst vs) -> H' q = some (.lst vs)):StepsAt H' q bh ns:=by
 obtain ⟨vs,h1,h2⟩:=h
 exact ⟨vs,kq _ h1,L2.Paired.mapP h2 fun _ _ ⟨t,e,q⟩=>⟨t,e,kt _ _ q⟩⟩
theorem StepsAt.same {H H':Hp} {q:Addr} {bh:Nat} {ns:List Node} (h:StepsAt H q bh ns) (s:Same H H'):StepsAt H' q bh ns:=h.keep (fun _ _ e=>s _ _ e) fun _ e=>s _ _ e
noncomputable def sp_steps_of (K:Frag):Sp:=fun vs H Q _=>match vs with
 | [.ref ga,.int b]=>∃ (g:Nat × List Node) (bh:Nat),GraphAt H ga g /\ b = (bh:Int) /\ g.2.length <= 5000 /\ ∀ q H',H q = none -> Same H H' -> StepsAt H' q bh g.2 -> Q (.ref q) H'
 | _=>False
theorem ok_steps_of (T:Top K mg):Callee P w K mg base 1 "steps_of" ["graph", "behind"] (sp_steps_of K):=by
 refine T.f_steps_of.cal sc_steps_of (by intro vs H Q E h; unfold sp_steps_of at h; split at h <;> first | rfl | exact h.elim) (fun _ _ _ _ _ _ us hl=>match us,hl with | [_,_],_=>rfl) (fun f cdv A outer s H vs Q E hr h=>?_)
 unfold sp_steps_of at h
 split at h
 case h_2=>exact h.elim
 refine ⟨_,(pss_one (ps_ret (pe_op op_addK (pe_lst (pa_cons (pe_tup (pa_cons (qv 1) (pa_cons pe_int (pa_cons pe_int pa_nil)))) (pa_cons (pe_tup (pa_cons (qv 1) (pa_cons pe_int (pa_cons pe_int pa_nil)))) pa_nil))) (pe_ix (ixE K rfl) (qv 0) pe_int (fun _ _=>rfl))))),?_⟩
 rename_i ga b
 obtain ⟨g,bh,⟨na,vs,e1,e2,pv⟩,rfl,hl,q⟩:=h
 have hlv:=pv.length
 walk_at "rd"
 refine ⟨by decide,fun t0 h0=>⟨by decide,fun t1 h1=>⟨by decide,fun l0 hl0=>?_⟩⟩⟩
 have s1:=((same_new h0 (.tup [V.int (bh:Nat),V.int 0,V.int 0])).trans (same_new h1 (.tup [V.int (bh:Nat),V.int 1,V.int 1]))).trans (same_new hl0 (.lst [V.ref t0,V.ref t1]))
 have et0:=same_new hl0 (.lst [V.ref t0,V.ref t1]) _ _ (same_new h1 (.tup [V.int (bh:Nat),V.int 1,V.int 1]) t0 _ upd_same)
 have et1:=same_new hl0 (.lst [V.ref t0,V.ref t1]) t1 _ upd_same
 have el0:upd (upd (upd H t0 (.tup [V.int (bh:Nat),V.int 0,V.int 0])) t1 (.tup [V.int (bh:Nat),V.int 1,V.int 1])) l0 (.lst [V.ref t0,V.ref t1]) l0 = _:=upd_same
 generalize upd (upd (upd H t0 (.tup [V.int (bh:Nat),V.int 0,V.int 0])) t1 (.tup [V.int (bh:Nat),V.int 1,V.int 1])) l0 (.lst [V.ref t0,V.ref t1]) = H1 at s1 et0 et1 el0 ⊢
 refine ⟨_,_,.inr (SqT.of (s1 _ _ e1)),rfl,?_⟩
 walk_at "rd"
 refine ⟨_,_,el0,s1 _ _ e2,by rw [sizeLine_eq]; simp; omega,fun lp hlp=>?_⟩
 have s2:=same_new hlp (.lst ([V.ref t0,V.ref t1] ++ vs))
 exact q lp _ (s1.free hlp) (s1.trans s2) ⟨_,upd_same,.cons ⟨t0,rfl,s2 _ _ et0⟩ (.cons ⟨t1,rfl,s2 _ _ et1⟩ (L2.Paired.mapP pv fun _ _ ⟨t,e,q⟩=>⟨t,e,s2 _ _ (s1 _ _ q)⟩))⟩
noncomputable def sp_led_on (K:Frag):Sp:=fun vs H Q _=>match vs with
 | [.ref p,.int r,.int pl,.int sd]=>∃ (ns:List Node) (vs:List V) (n q:Nat) (x:Node) (b:Bool),r = (n:Int) /\ pl = (q:Int) /\ sd = (if b then 2 else 1) /\ H p = some (.lst vs) /\ Paired (NodeAt H) ns vs /\ ns[n]? = some x /\
   Q (.int ((if x.1 = q then (if b then x.2.2 else x.2.1) else n:Nat):Int)) H
 | _=>False
theorem ok_led_on (T:Top K mg):Callee P w K mg base 1 "led_on" ["steps", "number", "place", "side"] (sp_led_on K):=by
 refine T.f_led_on.cal sc_led_on (by intro vs H Q E h; unfold sp_led_on at h; split at h <;> first | rfl | exact h.elim) (fun _ _ _ _ _ _ us hl=>match us,hl with | [_,_,_,_],_=>rfl) (fun f cdv A outer s H vs Q E hr h=>?_)
 unfold sp_led_on at h
 split at h
 case h_2=>exact h.elim
 refine ⟨_,(pss_one (ps_ret (pe_ifExp (qt_cmp op_eqK (pe_ix (ixE K rfl) (pe_ix (ixE K rfl) (qv 0) (qv 1) (fun _ _=>rfl)) pe_int (fun _ _=>rfl)) (qv 2)) (pe_ix (ixE K rfl) (pe_ix (ixE K rfl) (qv 0) (qv 1) (fun _ _=>rfl)) (qv 3) (fun _ _=>rfl)) (qv 1)))),?_⟩
 rename_i p r pl sd
 obtain ⟨ns,vs,n,q,x,b,rfl,rfl,rfl,e1,pv,hx,qq⟩:=h
 obtain ⟨v,hv,t,rfl,et⟩:=paired_at pv hx
 walk_at "rd"
 refine ⟨_,_,.inl (SqL.of e1),atI_nat hv,?_⟩
 walk_at "rd"
 refine ⟨_,_,.inr (SqT.of et),rfl,?_⟩
 walk_at "rd"
 refine ite2 (fun c=>⟨_,_,.inl (SqL.of e1),atI_nat hv,?_⟩) fun c=>?_
 ·rw [if_pos (by omega)] at qq
  cases b with
  | true=>exact ⟨_,_,.inr (SqT.of et),rfl,qq⟩
  | false=>exact ⟨_,_,.inr (SqT.of et),rfl,qq⟩
 ·rw [if_neg (by omega)] at qq
  exact qq
noncomputable abbrev clsB (K:Frag):Addr:=xA K "Blender"
noncomputable abbrev fieldsB (oa ta ea wa ka:Addr):List (Str × V):=[("one",.ref oa),("other",.ref ta),("ends",.ref ea),("writer",.ref wa),("known",.ref ka)]
structure BlAt (K:Frag) (H:Hp) (ba bx oa ta ea wa ka dx na ua:Addr) (bh:Nat) (n1 n2:List Node) (s:BS (Nat × Nat)):Prop where
 self:H ba = some (.ins (clsB K) bx (fieldsB oa ta ea wa ka))
 one:StepsAt H oa bh n1
 other:StepsAt H ta bh n2
 w:WrAt K H wa dx na ua s.1
 kn:H ka = some (.dT (kpK s.2))
 ne:ua ≠ ka
 n1:oa ≠ na
 n2:ta ≠ na
theorem BlAt.same {H H':Hp} {ba bx oa ta ea wa ka dx na ua:Addr} {bh:Nat} {n1 n2:List Node} {s:BS (Nat × Nat)} (h:BlAt K H ba bx oa ta ea wa ka dx na ua bh n1 n2 s) (e:Same H H'):BlAt K H' ba bx oa ta ea wa ka dx na ua bh n1 n2 s:=
 ⟨e _ _ h.self,h.one.same e,h.other.same e,h.w.same e,e _ _ h.kn,h.ne,h.n1,h.n2⟩
theorem BlAt.ntup {H:Hp} {ba bx oa ta ea wa ka dx na ua:Addr} {bh:Nat} {n1 n2:List Node} {s:BS (Nat × Nat)} (h:BlAt K H ba bx oa ta ea wa ka dx na ua bh n1 n2 s) {b:Addr} {xs:List V} (e:H b = some (.tup xs)):b ≠ na /\ b ≠ ua /\ b ≠ ka:=
 ⟨fun z=>(by obtain ⟨vs,e2,_⟩:=h.w.nl; rw [z,e2] at e; cases e),fun z=>(by rw [z,h.w.nu] at e; cases e),fun z=>(by rw [z,h.kn] at e; cases e)⟩
theorem BlAt.put {H H9:Hp} {ba bx oa ta ea wa ka dx na ua:Addr} {bh:Nat} {n1 n2:List Node} {s:BS (Nat × Nat)} {ms:List Node} {kn:List ((Nat × Nat) × Nat)} (h:BlAt K H ba bx oa ta ea wa ka dx na ua bh n1 n2 s) (k9:∀ b u,b ≠ na -> b ≠ ua -> H b = some u -> H9 b = some u) (W9:WrAt K H9 wa dx na ua ms):
  BlAt K (upd H9 ka (.dT (kpK kn))) ba bx oa ta ea wa ka dx na ua bh n1 n2 (ms,kn):=by
 have nn:na ≠ ka:=fun z=>by obtain ⟨vs,e2,_⟩:=h.w.nl; rw [z,h.kn] at e2; cases e2
 have kn9:=k9 _ _ (Ne.symm nn) (Ne.symm h.ne) h.kn
 have nk:∀ {b:Addr} {u:HO},H9 b = some u -> (∀ kvs,u ≠ .dT kvs) -> b ≠ ka:=fun e hd z=>by rw [z,kn9] at e; cases e; exact hd _ rfl
 have kt:∀ b xs,H b = some (.tup xs) -> upd H9 ka (.dT (kpK kn)) b = some (.tup xs):=fun b xs e=>by
  obtain ⟨z1,z2,z3⟩:=h.ntup e
  rw [upd_ne z3]
  exact k9 _ _ z1 z2 e
 have kl:∀ {q:Addr} (vs:List V),q ≠ na -> H q = some (.lst vs) -> upd H9 ka (.dT (kpK kn)) q = some (.lst vs):=fun {q} vs hq e=>by
  have e9:=k9 _ _ hq (fun z=>by rw [z,h.w.nu] at e; cases e) e
  rw [upd_ne (nk e9 fun _ z=>by cases z)]
  exact e9
 have es:=k9 _ _ (fun z=>by obtain ⟨vs,e2,_⟩:=h.w.nl; rw [<- z,h.self] at e2; cases e2) (fun z=>by have:=h.w.nu; rw [<- z,h.self] at this; cases this) h.self
 obtain ⟨w1,⟨ws,w2,w3⟩,w4⟩:=W9
 exact ⟨by rw [upd_ne (nk es fun _ z=>by cases z)]; exact es,h.one.keep kt fun vs e=>kl vs h.n1 e,h.other.keep kt fun vs e=>kl vs h.n2 e,
  ⟨by rw [upd_ne (nk w1 fun _ z=>by cases z)]; exact w1,⟨ws,by rw [upd_ne nn]; exact w2,L2.Paired.mapP w3 fun _ _ ⟨t,e,q⟩=>⟨t,e,by rw [upd_ne (nk q fun _ z=>by cases z)]; exact q⟩⟩,by rw [upd_ne h.ne]; exact w4⟩,upd_same,h.ne,h.n1,h.n2⟩
noncomputable def sp_blended (K:Frag) (m:Nat):Sp:=fun vs H Q _=>match vs with
 | [.ref ba,.int r1,.int r2]=>∃ (W bh a b f:Nat) (n1 n2:List Node) (es P:List Nat) (s:BS (Nat × Nat)) (bx oa ta ea wa ka dx na ua:Addr),r1 = (a:Int) /\ r2 = (b:Int) /\ BlAt K H ba bx oa ta ea wa ka dx na ua bh n1 n2 s /\ BlOk W bh n1 n2 es P /\
   (∀ H',SqT K H' ea (es.map pl)) /\ a < n1.length + 2 /\ b < n2.length + 2 /\ a + b < f /\ W < m + min (plG W n1 a) (plG W n2 b) /\
   s.1.length + 2 ^ (P.filter fun p=>decide (min (plG W n1 a) (plG W n2 b) <= p)).length <= 20000 /\ s.2.length + 2 ^ (P.filter fun p=>decide (min (plG W n1 a) (plG W n2 b) <= p)).length <= 20000 /\
   ∀ H',SameG na ua ka H H' -> BlAt K H' ba bx oa ta ea wa ka dx na ua bh n1 n2 (buildG (bleS W n1 n2 (eE es)) f (a,b) s).2 -> Q (.int ((buildG (bleS W n1 n2 (eE es)) f (a,b) s).1:Nat)) H'
 | _=>False
def BlEnd (K:Frag) (a b:Nat) (pt ba bx oa ta ea wa ka dx na ua:Addr) (bh:Nat) (n1 n2:List Node) (H:Hp) (X:Nat × BS (Nat × Nat)) (σ:St) (H':Hp):Prop:=
 ∃ u1 u2 u3,σ = [some (.ref ba),some (.int a),some (.int b),some (.ref pt),u1,u2,u3] /\ SameG na ua ka H H' /\ BlAt K H' ba bx oa ta ea wa ka dx na ua bh n1 n2 X.2 /\ H' pt = some (.tup ((pairK (a,b)).map kV)) /\ getB X.2.2 (a,b) = some X.1
theorem nat2 {a:Nat}:(a:Int) < 2 ↔ a < 2:=by omega
theorem nat3 (a b:Nat):(a:Int) + a + b = ((a + a + b:Nat):Int):=by omega
theorem led_at {H:Hp} {q:Addr} {bh a p:Nat} {ns:List Node} {Q:VK} {sd:Bool} (ha:a < ns.length + 2) (h:StepsAt H q bh ns) (z:Q (.int ((if sd then (ledG ns a p).2 else (ledG ns a p).1:Nat):Int)) H):sp_led_on K [.ref q,.int a,.int p,.int (if sd then 2 else 1)] H Q E0:=by
 obtain ⟨x,hx,lx⟩:=steps_some (bh:=bh) ha
 obtain ⟨vs,e1,e2⟩:=h
 refine ⟨_,vs,a,p,x,sd,rfl,rfl,rfl,e1,e2,hx,?_⟩
 rw [lx p] at z
 by_cases c:x.1 = p
 ·rw [if_pos c] at z ⊢; exact z
 ·rw [if_neg c] at z ⊢; cases sd <;> exact z
noncomputable def mB (K:Frag) (m:Nat):TS:=fun D σ H=>∀ C:TS,(∀ (W bh a b p fu:Nat) (n1 n2:List Node) (es P:List Nat) (s:BS (Nat × Nat)) (X:Nat × BS (Nat × Nat)) (pt ba bx oa ta ea wa ka dx na ua:Addr) (H0:Hp),BlAt K H ba bx oa ta ea wa ka dx na ua bh n1 n2 s -> BlOk W bh n1 n2 es P -> (∀ H',SqT K H' ea (es.map pl)) -> a < n1.length + 2 -> b < n2.length + 2 ->
  bleS W n1 n2 (eE es) (a,b) = .node p ((ledG n1 a p).1,(ledG n2 b p).1) ((ledG n1 a p).2,(ledG n2 b p).2) -> BLE W m fu p ((ledG n1 a p).1,(ledG n2 b p).1) ((ledG n1 a p).2,(ledG n2 b p).2) n1 n2 es P s -> getB s.2 (a,b) = none -> buildG (bleS W n1 n2 (eE es)) (fu + 1) (a,b) s = X -> Same H0 H -> H pt = some (.tup ((pairK (a,b)).map kV)) ->
  (∀ σ' H',BlEnd K a b pt ba bx oa ta ea wa ka dx na ua bh n1 n2 H0 X σ' H' -> D.nx σ' H') -> C D [some (.ref ba),some (.int a),some (.int b),some (.ref pt),some (.int p),none,none] H) -> C D σ H
theorem bl_p (T:Top K mg) {m:Nat} {f:Addr} {cdv:Value} {A:Around} {outer:List Env} {s:Shared} {H₀:Hp} {E:XK} (hr:Room (m + 2) (A.deeper (PyProof.Rows.envOfC "Blender.blended" (defScope s_Blender__blended) s.heap.objs.size f cdv))) (ih:MCal P w K mg base (m + 2) "Blender" "blended" ["self", "mine", "its"] (sp_blended K m)):
  PSs (cxOf CX0 P w K mg base ["self", "mine", "its", "pair", "place", "no", "yes"] "Blender.blended" (defScope s_Blender__blended) f cdv A outer s H₀ E).nox ((ifBody ((defBody s_Blender__blended).getD 2 (.Pass ⟨0,0,0,0⟩))).drop 1) (mB K m):=by
 refine pss_weak (pss_cons (ps_set (i:=5) sc_Blender__blended.nd rfl lc (pe_metT T.c_Blender ih hr.m (qv 0) (pa_cons (pe_fn (ok_led_on T) hr.m rfl (pa_cons (pe_fld (qv 0) rfl) (pa_cons (qv 1) (pa_cons (qv 4) (pa_cons pe_int pa_nil))))) (pa_cons (pe_fn (ok_led_on T) hr.m rfl (pa_cons (pe_fld (qv 0) rfl) (pa_cons (qv 2) (pa_cons (qv 4) (pa_cons pe_int pa_nil))))) pa_nil))))
   (pss_cons (ps_set (i:=6) sc_Blender__blended.nd rfl lc (pe_metT T.c_Blender ih hr.m (qv 0) (pa_cons (pe_fn (ok_led_on T) hr.m rfl (pa_cons (pe_fld (qv 0) rfl) (pa_cons (qv 1) (pa_cons (qv 4) (pa_cons pe_int pa_nil))))) (pa_cons (pe_fn (ok_led_on T) hr.m rfl (pa_cons (pe_fld (qv 0) rfl) (pa_cons (qv 2) (pa_cons (qv 4) (pa_cons pe_int pa_nil))))) pa_nil))))
   (pss_one (qs_dput (hu_of hr) (pe_fld (qv 0) rfl) (qv 3) (pe_metT T.c_Writer (ok_Writer__node_number T) hr.m (pe_fld (qv 0) rfl) (pa_cons (qv 4) (pa_cons (qv 5) (pa_cons (qv 6) pa_nil)))))))) fun D σ H1 h=>h _ fun W bh a b p fu n1 n2 es P s X pt ba bx oa ta ea wa ka dx na ua H0 B1 ok hes ha hb est kb hk hX s1 ept q=>?_
 walk_at "rd"
 refine ⟨ba,bx,_,rfl,B1.self,rfl,ba,_,bx,_,.ref oa,rfl,B1.self,T.c_Blender.c,T.a_Blender_one,rfl,led_at (sd:=false) ha B1.one ⟨ba,_,bx,_,.ref ta,rfl,B1.self,T.c_Blender.c,T.a_Blender_other,rfl,led_at (sd:=false) hb B1.other ?_⟩⟩
 refine ⟨W,bh,(ledG n1 a p).1,(ledG n2 b p).1,fu,n1,n2,es,P,s,bx,oa,ta,ea,wa,ka,dx,na,ua,rfl,rfl,B1,ok,hes,kb.a1,kb.b1,kb.f1,kb.m1,kb.l1,kb.l2,fun H2 g2 B2=>?_⟩
 have l3:=kb.l3
 have l4:=kb.l4
 generalize bA:buildG (bleS W n1 n2 (eE es)) fu ((ledG n1 a p).1,(ledG n2 b p).1) s = A at l3 l4 B2 ⊢
 walk_at "rd"
 refine ⟨ba,bx,_,rfl,B2.self,rfl,ba,_,bx,_,.ref oa,rfl,B2.self,T.c_Blender.c,T.a_Blender_one,rfl,led_at (sd:=true) ha B2.one ⟨ba,_,bx,_,.ref ta,rfl,B2.self,T.c_Blender.c,T.a_Blender_other,rfl,led_at (sd:=true) hb B2.other ?_⟩⟩
 refine ⟨W,bh,(ledG n1 a p).2,(ledG n2 b p).2,fu,n1,n2,es,P,A.2,bx,oa,ta,ea,wa,ka,dx,na,ua,rfl,rfl,B2,ok,hes,kb.a2,kb.b2,kb.f2,kb.m2,l3,l4,fun H3 g3 B3=>?_⟩
 have LC:=ok.pow fu ((ledG n1 a p).2,(ledG n2 b p).2) A.2 kb.f2 kb.a2 kb.b2
 generalize bC:buildG (bleS W n1 n2 (eE es)) fu ((ledG n1 a p).2,(ledG n2 b p).2) A.2 = C at LC B3 ⊢
 have c1:C.2.1.length <= 20000:=Nat.le_trans (Nat.le_of_succ_le LC.1) l3
 have c2:C.2.2.length <= 20000:=Nat.le_trans (Nat.le_of_succ_le LC.2) l4
 have eX:=hX.symm.trans (bld_node est hk bA bC)
 have g13:SameG na ua ka H1 H3:=g2.trans g3
 clear l3 l4 LC kb est hX bA bC g2 g3 B2 hk
 walk_at "rd"
 refine ⟨ba,_,bx,_,.ref wa,rfl,B3.self,T.c_Blender.c,T.a_Blender_writer,rfl,wa,dx,_,rfl,B3.w.wr,rfl,?_⟩
 refine ⟨(p,A.1,C.1),dx,na,ua,C.2.1,rfl,rfl,rfl,B3.w,c1,fun H9 k9 W9=>?_⟩
 have np:=B1.ntup ept
 have ep9:=k9 _ _ np.1 np.2.1 (g13 _ _ np.1 np.2.1 np.2.2 ept)
 have nn:ka ≠ na:=fun z=>by obtain ⟨vs,e2,_⟩:=B3.w.nl; rw [<- z,B3.kn] at e2; cases e2
 have kn9:=k9 _ _ nn (Ne.symm B3.ne) B3.kn
 have hlk:(kpK C.2.2).length = C.2.2.length:=by simp [kpK]
 have B9:=B3.put (kn:=putB C.2.2 (a,b) (numG C.2.1 (p,A.1,C.1)).1) k9 W9
 have es9:=k9 _ _ (fun z=>by obtain ⟨vs,e2,_⟩:=B3.w.nl; rw [<- z,B3.self] at e2; cases e2) (fun z=>by have:=B3.w.nu; rw [<- z,B3.self] at this; cases this) B3.self
 refine ⟨ba,_,bx,_,.ref ka,rfl,es9,T.c_Blender.c,T.a_Blender_known,rfl,_,DPut.t kn9 ep9 (by rw [hlk]; exact sizeBig (Nat.le_trans c2 (by decide))),q _ _ ?_⟩
 rw [put_kpK]
 refine ⟨_,_,_,rfl,fun b u b1 b2 b3 e=>?_,by rw [eX]; exact B9,?_,by rw [eX]; exact getB_new _ _ _⟩
 ·rw [upd_ne b3]
  exact k9 _ _ b1 b2 (g13 _ _ b1 b2 b3 (s1 _ _ e))
 ·rw [upd_ne np.2.2]
  exact ep9
theorem rec_blended (T:Top K mg):∀ m:Nat,MCal P w K mg base (m + 2) "Blender" "blended" ["self", "mine", "its"] (sp_blended K m):=by
 intro m
 induction m with
 | zero=>
  refine T.f_Blender__blended.cal sc_Blender__blended (by intro vs H Q E h; unfold sp_blended at h; split at h <;> first | rfl | exact h.elim) (fun _ _ _ _ _ _ us hl=>match us,hl with | [_,_,_],_=>rfl) (fun f cdv A outer s H vs Q E hr h=>?_)
  unfold sp_blended at h
  split at h
  case h_2=>exact h.elim
  obtain ⟨W,bh,a,b,f,n1,n2,es,P,s,bx,oa,ta,ea,wa,ka,dx,na,ua,_,_,_,ok,_,ha,_,_,hm,_⟩:=h
  exact absurd (Nat.lt_of_lt_of_le hm (Nat.le_trans (Nat.le_of_eq (Nat.zero_add _)) (Nat.min_le_left _ _))) (Nat.not_lt.mpr (pl_le ok.g1 ha))
 | succ m ih=>
  refine T.f_Blender__blended.cal sc_Blender__blended (by intro vs H Q E h; unfold sp_blended at h; split at h <;> first | rfl | exact h.elim) (fun _ _ _ _ _ _ us hl=>match us,hl with | [_,_,_],_=>rfl) (fun f cdv A outer s0 H vs Q E hr h=>?_)
  unfold sp_blended at h
  split at h
  case h_2=>exact h.elim
  refine ⟨_,(pss_join (ps_if (PW.pt (pw_and (qt_cmp op_ltK (qv 1) pe_int) (pw_and1 (qt_cmp op_ltK (qv 2) pe_int)))) (pss_one (ps_ret (pe_ix (ixE K rfl) (pe_fld (qv 0) rfl) (pe_op op_addK (pe_op op_addK (qv 1) (qv 1)) (qv 2)) (fun _ _=>rfl)))) pss_nil)
   (pss_cons (ps_set (i:=3) sc_Blender__blended.nd rfl lc (pe_tup (pa_cons (qv 1) (pa_cons (qv 2) pa_nil))))
   (pss_join (ps_if (qt_dnotin (hu_of hr) (qv 3) (pe_fld (qv 0) rfl)) (pss_cons (ps_set (i:=4) sc_Blender__blended.nd rfl lc (pe_callB (call_min2K rfl) rfl T.b_min bb_min (pa_cons (pe_ix (ixE K rfl) (pe_ix (ixE K rfl) (pe_fld (qv 0) rfl) (qv 1) (fun _ _=>rfl)) pe_int (fun _ _=>rfl)) (pa_cons (pe_ix (ixE K rfl) (pe_ix (ixE K rfl) (pe_fld (qv 0) rfl) (qv 2) (fun _ _=>rfl)) pe_int (fun _ _=>rfl)) pa_nil))))
   (bl_p T hr ih)) pss_nil)
   (pss_one (ps_ret (qe_dget (hu_of hr) (pe_fld (qv 0) rfl) (qv 3) (fun _ _=>rfl))))))),?_⟩
  rename_i ba r1 r2
  obtain ⟨W,bh,a,b,fu,n1,n2,es,P,s,bx,oa,ta,ea,wa,ka,dx,na,ua,rfl,rfl,B0,ok,hes,ha,hb,hf,hm,l1,l2,q⟩:=h
  obtain ⟨fu,rfl⟩:∃ g,fu = g + 1:=⟨fu - 1,by omega⟩
  walk_at "rd"
  refine ⟨fun σ' H'=>σ' = [some (.ref ba),some (.int a),some (.int b),none,none,none,none] /\ H' = H /\ ¬ (a < 2 /\ b < 2),?_,?_⟩
  ·refine ite2 (fun c1=>ite2 (fun c2=>?_) fun c2=>⟨rfl,rfl,fun z=>c2 (nat2.mpr z.2)⟩) fun c1=>⟨rfl,rfl,fun z=>c1 (nat2.mpr z.1)⟩
   refine ⟨ba,_,bx,_,.ref ea,rfl,B0.self,T.c_Blender.c,T.a_Blender_ends,rfl,?_⟩
   walk_at "rd"
   have c1:=nat2.mp c1
   have c2:=nat2.mp c2
   have hx:es[a + a + b]? = some (eE es a b):=by
    have h:a + a + b < es.length:=by rw [ok.el]; clear hf hm l1 l2 ha hb; omega
    unfold eE
    rw [List.getD_eq_getElem?_getD,List.getElem?_eq_getElem h]
    rfl
   refine ⟨_,pl (eE es a b),.inr (hes H),?_,?_⟩
   ·rw [nat3]
    exact atI_nat (by rw [List.getElem?_map,hx]; rfl)
   ·have eb:buildG (bleS W n1 n2 (eE es)) (fu + 1) (a,b) s = (eE es a b,s):=by
     rw [buildG,show bleS W n1 n2 (eE es) (a,b) = .fin (eE es a b) by unfold bleS; rw [if_pos ⟨c1,c2⟩]]
    rw [eb] at q
    exact q H (fun _ _ _ _ _ e=>e) B0
  rintro σ' H0 ⟨rfl,rfl,hn⟩
  have est:bleS W n1 n2 (eE es) (a,b) = .node (min (plG W n1 a) (plG W n2 b)) ((ledG n1 a (min (plG W n1 a) (plG W n2 b))).1,(ledG n2 b (min (plG W n1 a) (plG W n2 b))).1) ((ledG n1 a (min (plG W n1 a) (plG W n2 b))).2,(ledG n2 b (min (plG W n1 a) (plG W n2 b))).2):=by
   unfold bleS
   rw [if_neg hn]
  have kb:=BLE.of (m:=m) ok ⟨ha,hb⟩ est hf hm l1 l2
  generalize hX:buildG (bleS W n1 n2 (eE es)) (fu + 1) (a,b) s = X at q
  walk_at "rd"
  refine ⟨by decide,fun pt hpt=>?_⟩
  have s1:=same_new hpt (.tup [V.int (a:Nat),V.int (b:Nat)])
  have B1:=B0.same s1
  have ept:upd H0 pt (.tup [V.int (a:Nat),V.int (b:Nat)]) pt = some (.tup ((pairK (a,b)).map kV)):=upd_same
  generalize upd H0 pt (.tup [V.int (a:Nat),V.int (b:Nat)]) = H1 at s1 B1 ept ⊢
  refine ⟨BlEnd K a b pt ba bx oa ta ea wa ka dx na ua bh n1 n2 H0 X,⟨ba,_,bx,_,.ref ka,rfl,B1.self,T.c_Blender.c,T.a_Blender_known,rfl,_,DGet.t B1.kn ept,?_⟩,?_⟩
  ·rw [val_kpK]
   cases hk:getB s.2 (a,b) with
   | some r=>
    have eX:=hX.symm.trans (bld_known est hk)
    exact ⟨_,_,_,rfl,Same.g s1,by rw [eX]; exact B1,ept,by rw [eX]; exact hk⟩
   | none=>
    obtain ⟨x,hx,_⟩:=steps_some (bh:=bh) ha
    obtain ⟨y,hy,_⟩:=steps_some (bh:=bh) hb
    have hmin:=steps_min ok.g1 ok.g2 ok.b1 ok.b2 ha hb hn hx hy
    obtain ⟨vs1,o1,o2⟩:=id B1.one
    obtain ⟨vs2,t1,t2⟩:=id B1.other
    obtain ⟨v1,hv1,tx1,rfl,ex1⟩:=paired_at o2 hx
    obtain ⟨v2,hv2,ty1,rfl,ey1⟩:=paired_at t2 hy
    refine ⟨ba,_,bx,_,.ref oa,rfl,B1.self,T.c_Blender.c,T.a_Blender_one,rfl,?_⟩
    walk_at "rd"
    refine ⟨_,_,.inl (SqL.of o1),atI_nat hv1,?_⟩
    walk_at "rd"
    refine ⟨_,_,.inr (SqT.of ex1),rfl,ba,_,bx,_,.ref ta,rfl,B1.self,T.c_Blender.c,T.a_Blender_other,rfl,?_⟩
    walk_at "rd"
    refine ⟨_,_,.inl (SqL.of t1),atI_nat hv2,?_⟩
    walk_at "rd"
    refine ⟨_,_,.inr (SqT.of ey1),rfl,?_⟩
    walk_at "rd"
    rw [hmin]
    exact fun C k=>k W bh a b _ fu n1 n2 es P s X pt ba bx oa ta ea wa ka dx na ua H0 B1 ok hes ha hb est kb hk hX s1 ept fun _ _ z=>z
  ·rintro σ' H' ⟨u1,u2,u3,rfl,sg,G,ek,hget⟩
   walk_at "rd"
   refine ⟨ba,_,bx,_,.ref ka,rfl,G.self,T.c_Blender.c,T.a_Blender_known,rfl,_,?_,q H' sg G⟩
   have:=DGet.t G.kn ek
   rw [val_kpK,hget] at this
   exact this
theorem ok_Blender__blended (T:Top K mg):MCal P w K mg base 62 "Blender" "blended" ["self", "mine", "its"] (sp_blended K 60):=rec_blended T 60
noncomputable def sp_Blender____init__ (K:Frag):Sp:=fun vs H Q _=>match vs with
 | [.ref ba,.ref ga,.ref ha,.ref ea]=>∃ (bx:Addr) (g h:Nat × List Node),H ba = some (.ins (clsB K) bx []) /\ GraphAt H ga g /\ GraphAt H ha h /\ g.2.length <= 5000 /\ h.2.length <= 5000 /\
   ∀ (bh:Nat) (oa ta wa ka dx na ua:Addr) H',(∀ x ∈ g.2,x.1 < bh) -> (∀ x ∈ h.2,x.1 < bh) -> H na = none -> H ua = none -> H ka = none -> (∀ b u,b ≠ ba -> H b = some u -> H' b = some u) -> BlAt K H' ba bx oa ta ea wa ka dx na ua bh g.2 h.2 ([],[]) -> Q .non H'
 | _=>False
def Keep1 (ba:Addr) (H H':Hp):Prop:=∀ b u,b ≠ ba -> H b = some u -> H' b = some u
theorem Keep1.trans {ba:Addr} {H H1 H2:Hp} (a:Keep1 ba H H1) (b:Keep1 ba H1 H2):Keep1 ba H H2:=fun x u h e=>b x u h (a x u h e)
theorem same_k1 {ba:Addr} {H H':Hp} (s:Same H H'):Keep1 ba H H':=fun x u _ e=>s x u e
theorem upd_k1 {ba:Addr} {H:Hp} {o:HO}:Keep1 ba H (upd H ba o):=fun x u h e=>by rw [upd_ne h]; exact e
section
variable {ba bx C:Addr} {fs:List (Str × V)} {H H':Hp}
theorem Keep1.tup (k:Keep1 ba H H') (eb:H ba = some (.ins C bx fs)) {b:Addr} {xs:List V} (e:H b = some (.tup xs)):H' b = some (.tup xs):=k b _ (fun z=>by rw [z,eb] at e; cases e) e
theorem Keep1.lst (k:Keep1 ba H H') (eb:H ba = some (.ins C bx fs)) {b:Addr} {xs:List V} (e:H b = some (.lst xs)):H' b = some (.lst xs):=k b _ (fun z=>by rw [z,eb] at e; cases e) e
theorem Keep1.graph (k:Keep1 ba H H') (eb:H ba = some (.ins C bx fs)) {q:Addr} {g:Nat × List Node} (h:GraphAt H q g):GraphAt H' q g:=by
 obtain ⟨na,vs,h1,h2,h3⟩:=h
 exact ⟨na,vs,k.tup eb h1,k.lst eb h2,L2.Paired.mapP h3 fun _ _ ⟨t,e,q⟩=>⟨t,e,k.tup eb q⟩⟩
theorem Keep1.steps (k:Keep1 ba H H') (eb:H ba = some (.ins C bx fs)) {q:Addr} {bh:Nat} {ns:List Node} (h:StepsAt H q bh ns):StepsAt H' q bh ns:=h.keep (fun _ _ e=>k.tup eb e) fun _ e=>k.lst eb e
theorem Keep1.writer (k:Keep1 ba H H') (eb:H ba = some (.ins C bx fs)) {wa dx na ua:Addr} {ns:List Node} (hw:wa ≠ ba) (h:WrAt K H wa dx na ua ns):WrAt K H' wa dx na ua ns:=by
 obtain ⟨h1,⟨vs,h2,h3⟩,h4⟩:=h
 exact ⟨k _ _ hw h1,⟨vs,k.lst eb h2,L2.Paired.mapP h3 fun _ _ ⟨t,e,q⟩=>⟨t,e,k.tup eb q⟩⟩,k _ _ (fun z=>by rw [z,eb] at h4; cases h4) h4⟩
end
theorem ok_Blender____init__ (T:Top K mg):KCal P w K mg base 3 "Blender" ["self", "one", "other", "ends"] (sp_Blender____init__ K):=by
 refine T.f_Blender____init__.cal sc_Blender____init__ (by intro vs H Q E h; unfold sp_Blender____init__ at h; split at h <;> first | rfl | exact h.elim) (fun _ _ _ _ _ _ us hl=>match us,hl with | [_,_,_,_],_=>rfl) (fun f cdv A outer s H vs Q E hr h=>?_)
 unfold sp_Blender____init__ at h
 split at h
 case h_2=>exact h.elim
 refine ⟨_,(pss_cons (ps_set (i:=4) sc_Blender____init__.nd rfl lc (pe_op op_addK pe_int (qe_maxd (K:=K) rfl rfl rfl T.b_max (pa_cons (qe_comp (nt:=1) (fi:=[]) (N':=["node"]) rfl (cscope rfl (by decide +kernel)) (cnames (N:=["self", "one", "other", "ends", "behind"]) (sc:=defScope s_Blender____init__) rfl rfl (by decide +kernel)) (gk_name (by decide)) (iterE K rfl (pe_op op_addK (pe_ix (ixE K rfl) (qv 1) pe_int (fun _ _=>rfl)) (pe_ix (ixE K rfl) (qv 2) pe_int (fun _ _=>rfl)))) (fun _ _ _ _ _=>(pg_name (i:=0) (by show (["node"]:List Str).Nodup; decide +kernel) rfl lc)) (fun _ _ _ _ _=>pif_nil) (fun _ _ _ _ _=>(pe_ix (ixE K rfl) (qv 0) pe_int (fun _ _=>rfl)))) pa_nil) (pk_cons pe_int pk_nil))))
   (pss_cons (ps_fld (qv 0) (pe_fn (ok_steps_of T) hr.m rfl (pa_cons (qv 1) (pa_cons (qv 4) pa_nil))) rfl)
   (pss_cons (ps_fld (qv 0) (pe_fn (ok_steps_of T) hr.m rfl (pa_cons (qv 2) (pa_cons (qv 4) pa_nil))) rfl)
   (pss_cons (ps_fld (qv 0) (qv 3) rfl)
   (pss_cons (ps_fld (qv 0) (pe_mkT T.c_Writer (ok_Writer____init__ T) hr.m rfl) rfl)
   (pss_one (ps_fld (qv 0) pe_dnewT rfl))))))),?_⟩
 rename_i ba ga ha ea
 obtain ⟨bx,g,h,eb,⟨na1,vs1,a1,a2,a3⟩,⟨na2,vs2,c1,c2,c3⟩,hl1,hl2,q⟩:=h
 have hv1:=a3.length
 have hv2:=c3.length
 obtain ⟨z1,hz1,hy1,hm1⟩:=nodes_zip a3
 obtain ⟨z2,hz2,hy2,hm2⟩:=nodes_zip c3
 have hm:∀ z ∈ z1 ++ z2,H z.2 = some (.tup [.int z.1.1,.int z.1.2.1,.int z.1.2.2]):=fun z hz=>by
  rcases List.mem_append.mp hz with y | y
  ·exact hm1 z y
  ·exact hm2 z y
 have hlz:(z1 ++ z2).length <= 10000:=by
  have y1:=congrArg List.length hz1
  have y2:=congrArg List.length hz2
  rw [List.length_map] at y1 y2
  rw [List.length_append]
  omega
 walk_at "rd"
 refine ⟨_,_,.inr (SqT.of a1),rfl,_,_,.inr (SqT.of c1),rfl,?_⟩
 walk_at "rd"
 refine ⟨_,_,a2,c2,by rw [sizeLine_eq]; omega,fun lp hlp=>.inl ⟨⟨_,SqL.of upd_same⟩,fun D hD=>?_⟩⟩
 have s1:=same_new hlp (.lst (vs1 ++ vs2))
 refine comp_list (item:=fun z:Node × Addr=>V.ref z.2) (xs:=z1 ++ z2) (h:=fun z=>[V.int (z.1.1:Nat)]) hD (SqL.of (by rw [List.map_append,<- hy1,<- hy2]; exact upd_same)) (by omega) (fun _=>by simp) ?_ ?_
 ·intro z H2 out non hz s2 ho hn
  walk_at "rd"
  exact ⟨_,_,.inr (SqT.of (s2 _ _ (s1 _ _ (hm z hz)))),rfl,ho _ _ rfl (Same.refl _)⟩
 intro H2 s2 e2
 have e2:H2 D = some (.lst (((z1 ++ z2).map fun z=>(z.1.1:Int)).map V.int)):=by rw [e2,flat_one (fun z:Node × Addr=>V.int (z.1.1:Nat)),List.map_map]; rfl
 refine ⟨_,SqL.of e2,fun M hM0 hM1=>?_⟩
 obtain ⟨mn,rfl,hle⟩:∃ n:Nat,M = (n:Int) /\ ∀ z ∈ z1 ++ z2,z.1.1 <= n:=by
  by_cases hn:((z1 ++ z2).map fun z=>(z.1.1:Int)) = []
  ·refine ⟨0,hM0 hn,fun z hz=>?_⟩
   rw [List.map_eq_nil_iff.mp hn] at hz
   exact absurd hz List.not_mem_nil
  ·obtain ⟨h1,h2⟩:=hM1 hn
   obtain ⟨z,hz,rfl⟩:=List.mem_map.mp h1
   exact ⟨z.1.1,rfl,fun y hy=>by have:=h2 _ (List.mem_map.mpr ⟨y,hy,rfl⟩); omega⟩
 have hbg:∀ x ∈ g.2,x.1 < mn + 1:=fun x hx=>by
  rw [hz1] at hx
  obtain ⟨z,hz,rfl⟩:=List.mem_map.mp hx
  have:=hle z (List.mem_append_left _ hz)
  omega
 have hbh:∀ x ∈ h.2,x.1 < mn + 1:=fun x hx=>by
  rw [hz2] at hx
  obtain ⟨z,hz,rfl⟩:=List.mem_map.mp hx
  have:=hle z (List.mem_append_right _ hz)
  omega
 have s02:=s1.trans s2
 have G1:GraphAt H ga g:=⟨na1,vs1,a1,a2,a3⟩
 have G2:GraphAt H ha h:=⟨na2,vs2,c1,c2,c3⟩
 refine ⟨g,mn + 1,G1.same s02,by omega,hl1,fun oa H3 f3 s3 O3=>?_⟩
 have s03:=s02.trans s3
 refine ⟨ba,_,bx,[],rfl,s03 _ _ eb,T.c_Blender.c,T.a_Blender_one,by decide,?_⟩
 have k4:Keep1 ba H3 (upd H3 ba (.ins (clsB K) bx (putF "one" (.ref oa) []))):=upd_k1
 have eb4:upd H3 ba (.ins (clsB K) bx (putF "one" (.ref oa) [])) ba = _:=upd_same
 generalize upd H3 ba (.ins (clsB K) bx (putF "one" (.ref oa) [])) = H4 at k4 eb4 ⊢
 refine ⟨h,mn + 1,k4.graph (s03 _ _ eb) (G2.same s03),by omega,hl2,fun ta H5 f5 s5 O5=>?_⟩
 have eb5:=s5 _ _ eb4
 refine ⟨ba,_,bx,_,rfl,eb5,T.c_Blender.c,T.a_Blender_other,by show 1 < 1000; decide,ba,_,bx,_,rfl,upd_same,T.c_Blender.c,T.a_Blender_ends,by show 2 < 1000; decide,fun wa dx hwa hdx hne=>?_⟩
 have k7:Keep1 ba H5 (upd (upd H5 ba (.ins (clsB K) bx (putF "other" (.ref ta) (putF "one" (.ref oa) [])))) ba (.ins (clsB K) bx (putF "ends" (.ref ea) (putF "other" (.ref ta) (putF "one" (.ref oa) []))))):=upd_k1.trans upd_k1
 have eb7:upd (upd H5 ba (.ins (clsB K) bx (putF "other" (.ref ta) (putF "one" (.ref oa) [])))) ba (.ins (clsB K) bx (putF "ends" (.ref ea) (putF "other" (.ref ta) (putF "one" (.ref oa) [])))) ba = _:=upd_same
 generalize upd (upd H5 ba (.ins (clsB K) bx (putF "other" (.ref ta) (putF "one" (.ref oa) [])))) ba (.ins (clsB K) bx (putF "ends" (.ref ea) (putF "other" (.ref ta) (putF "one" (.ref oa) [])))) = H7 at k7 eb7 hwa hdx ⊢
 have wb:wa ≠ ba:=fun z=>by rw [z,eb7] at hwa; cases hwa
 have kb:∀ {b:Addr},H7 b = none -> b ≠ ba -> H b = none:=fun {b} e nb=>by
  cases hb:H b with
  | none=>rfl
  | some u=>
   have:=k7 b u nb (s5 _ _ (k4 b u nb (s03 _ _ hb)))
   rw [e] at this
   cases this
 refine ⟨dx,upd_same,fun na ua H9 f1 f2 n12 k9 W9=>⟨rfl,?_⟩⟩
 have fr:∀ {b:Addr},upd (upd H7 dx (.own wa)) wa (.ins (clsW K) dx []) b = none -> H7 b = none:=fun {b} h=>by
  have n1:b ≠ wa:=fun z=>by rw [z,upd_same] at h; cases h
  rw [upd_ne n1] at h
  have n2:b ≠ dx:=fun z=>by rw [z,upd_same] at h; cases h
  rw [upd_ne n2] at h
  exact h
 have s79:Same H7 H9:=fun b u e=>k9 b u (ne_of_none e hwa) (by rw [upd_ne (ne_of_none e hwa),upd_ne (ne_of_none e hdx)]; exact e)
 have eb9:=s79 _ _ eb7
 refine ⟨ba,_,bx,_,rfl,eb9,T.c_Blender.c,T.a_Blender_writer,by show 3 < 1000; decide,fun ka hka=>?_⟩
 have kab:ka ≠ ba:=fun z=>by rw [z,upd_same] at hka; cases hka
 have e11:upd (upd H9 ba (.ins (clsB K) bx (putF "writer" (.ref wa) (putF "ends" (.ref ea) (putF "other" (.ref ta) (putF "one" (.ref oa) [])))))) ka (.dT []) ba = some (.ins (clsB K) bx (putF "writer" (.ref wa) (putF "ends" (.ref ea) (putF "other" (.ref ta) (putF "one" (.ref oa) []))))):=by rw [upd_ne (Ne.symm kab),upd_same]
 refine ⟨ba,_,bx,_,rfl,e11,T.c_Blender.c,T.a_Blender_known,by show 4 < 1000; decide,?_⟩
 rw [upd_ne kab] at hka
 have nab:na ≠ ba:=fun z=>by have:=fr f1; rw [z,eb7] at this; cases this
 have uab:ua ≠ ba:=fun z=>by have:=fr f2; rw [z,eb7] at this; cases this
 have ka7:=s79.free hka
 generalize hI:HO.ins (clsB K) bx (putF "writer" (.ref wa) (putF "ends" (.ref ea) (putF "other" (.ref ta) (putF "one" (.ref oa) [])))) = I4
 generalize hJ:HO.ins (clsB K) bx (putF "known" (.ref ka) (putF "writer" (.ref wa) (putF "ends" (.ref ea) (putF "other" (.ref ta) (putF "one" (.ref oa) []))))) = I5
 have k12:Keep1 ba H9 (upd (upd (upd H9 ba I4) ka (.dT [])) ba I5):=fun b u nb e=>by
  rw [upd_ne nb,upd_ne (ne_of_none e hka),upd_ne nb]
  exact e
 have k712:=(same_k1 (ba:=ba) s79).trans k12
 have k512:=k7.trans k712
 refine q (mn + 1) oa ta wa ka dx na ua _ hbg hbh (kb (fr f1) nab) (kb (fr f2) uab) (kb ka7 kab) (fun b u nb e=>k512 b u nb (s5 _ _ (k4 b u nb (s03 _ _ e)))) ⟨by rw [upd_same,<- hJ]; rfl,k512.steps eb5 ((same_k1 (ba:=ba) s5).steps eb4 (k4.steps (s03 _ _ eb) O3)),k512.steps eb5 O5,k12.writer eb9 wb W9,?_,ne_of_none W9.nu hka,?_,?_⟩
 ·rw [upd_ne kab,upd_same]
  rfl
 ·obtain ⟨vs,e,_⟩:=O3
  exact ne_of_none (k7.lst eb5 (s5 _ _ (k4.lst (s03 _ _ eb) e))) (fr f1)
 ·obtain ⟨vs,e,_⟩:=O5
  exact ne_of_none (k7.lst eb5 e) (fr f1)
noncomputable def sp_graph_blend (K:Frag):Sp:=fun vs H Q _=>match vs with
 | [.ref ga,.ref ha,.str w]=>∃ (g h:Nat × List Node) (W:Nat) (es P:List Nat),GraphAt H ga g /\ GraphAt H ha h /\ GraphOk W g /\ GraphOk W h /\ g.2.length <= 5000 /\ h.2.length <= 5000 /\ (∀ x ∈ g.2,x.1 ∈ P) /\ (∀ x ∈ h.2,x.1 ∈ P) /\ P.length <= 12 /\ W <= 48 /\ WordE w.cps.toList es /\
   ∀ q na vs H',H q = none -> H na = none -> Same H H' -> H' q = some (.tup [.int ((bleL W g h (eE es)).1:Nat),.ref na]) -> H' na = some (.lst vs) -> Paired (NodeAt H') (bleL W g h (eE es)).2 vs -> Q (.ref q) H'
 | _=>False
theorem ok_graph_blend (T:Top K mg):Callee P w K mg base 63 "graph_blend" ["one", "other", "word"] (sp_graph_blend K):=by
 refine T.f_graph_blend.cal sc_graph_blend (by intro vs H Q E h; unfold sp_graph_blend at h; split at h <;> first | rfl | exact h.elim) (fun _ _ _ _ _ _ us hl=>match us,hl with | [_,_,_],_=>rfl) (fun f cdv A outer s H vs Q E hr h=>?_)
 unfold sp_graph_blend at h
 split at h
 case h_2=>exact h.elim
 refine ⟨_,(pss_cons (ps_set (i:=3) sc_graph_blend.nd rfl lc (pe_mkA T.c_Blender (ok_Blender____init__ T) hr.m rfl (pa_cons (qv 0) (pa_cons (qv 1) (pa_cons (qe_tab rfl T.w_WORD_ENDS rfl (qv 2) (fun _ _=>rfl)) pa_nil)))))
   (pss_cons (ps_set (i:=4) sc_graph_blend.nd rfl lc (pe_metT T.c_Blender (ok_Blender__blended T) hr.m (qv 3) (pa_cons (pe_ix (ixE K rfl) (qv 0) pe_int (fun _ _=>rfl)) (pa_cons (pe_ix (ixE K rfl) (qv 1) pe_int (fun _ _=>rfl)) pa_nil))))
   (pss_one (ps_ret (pe_tup (pa_cons (qv 4) (pa_cons (pe_fld (pe_fld (qv 3) rfl) rfl) pa_nil))))))),?_⟩
 rename_i ga ha w
 obtain ⟨w,rfl⟩:∃ x,w = st x:=⟨_,(st_eta w).symm⟩
 obtain ⟨g,h,W,es,P,G1,G2,o1,o2,hl1,hl2,p1,p2,hP,hW,hw,q⟩:=h
 simp only [st_cps] at hw q
 walk_at "rd"
 refine ⟨_,hw.1,fun ea hea ba bx hba hbx hne=>?_⟩
 have hea':∀ H',SqT K H' ea (es.map pl):=fun H'=>by
  have:=hea H'
  rw [List.map_map] at this
  exact this
 have s1:Same H (upd (upd H bx (.own ba)) ba (.ins (clsB K) bx [])):=fun b u e=>by rw [upd_ne (ne_of_none e hba),upd_ne (ne_of_none e hbx)]; exact e
 have fr:∀ {b:Addr},upd (upd H bx (.own ba)) ba (.ins (clsB K) bx []) b = none -> H b = none:=fun {b} h=>s1.free h
 refine ⟨bx,g,h,upd_same,G1.same s1,G2.same s1,hl1,hl2,fun bh oa ta wa ka dx na ua H2 b1 b2 f1 f2 f3 k2 B2=>⟨rfl,?_⟩⟩
 have s2:Same H H2:=fun b u e=>k2 b u (ne_of_none e hba) (s1 _ _ e)
 have na0:=fr f1
 have ua0:=fr f2
 have ka0:=fr f3
 obtain ⟨n1,v1,e1,_⟩:=G1.same s2
 obtain ⟨n2,v2,e2,_⟩:=G2.same s2
 have hpw:2 ^ cutP W g.2 h.2 P (g.1,h.1) <= 2 ^ 12:=Nat.pow_le_pow_right (by decide) (Nat.le_trans (List.length_filter_le _ _) hP)
 refine ⟨ba,bx,_,rfl,B2.self,rfl,_,_,.inr (SqT.of e1),rfl,_,_,.inr (SqT.of e2),rfl,W,bh,g.1,h.1,g.1 + h.1 + 1,g.2,h.2,es,P,([],[]),bx,oa,ta,ea,wa,ka,dx,na,ua,rfl,rfl,B2,⟨o1.good,o2.good,b1,b2,p1,p2,hw.2.1,hw.2.2.1,hP,by omega⟩,hea',o1.root.1,o2.root.1,Nat.lt_succ_self _,by omega,by show 0 + 2 ^ cutP W g.2 h.2 P (g.1,h.1) <= 20000; omega,by show 0 + 2 ^ cutP W g.2 h.2 P (g.1,h.1) <= 20000; omega,fun H3 g3 B3=>?_⟩
 walk_at "rd"
 refine ⟨ba,_,bx,_,.ref wa,rfl,B3.self,T.c_Blender.c,T.a_Blender_writer,rfl,wa,_,dx,_,.ref na,rfl,B3.w.wr,T.c_Writer.c,T.a_Writer_nodes,rfl,by decide,fun t ht=>?_⟩
 have s3:Same H H3:=fun b u e=>g3 b u (ne_of_none e na0) (ne_of_none e ua0) (ne_of_none e ka0) (s2 _ _ e)
 obtain ⟨vs,ev,pw⟩:=B3.w.nl
 have s4:=same_new ht (.tup [V.int ((buildG (bleS W g.2 h.2 (eE es)) (g.1 + h.1 + 1) (g.1,h.1) ([],[])).1:Nat),.ref na])
 exact q t na vs _ (s3.free ht) na0 (s3.trans s4) upd_same (s4 _ _ ev) (L2.Paired.mapP pw fun _ _ ⟨r,e,q⟩=>⟨r,e,s4 _ _ q⟩)
noncomputable def sp__law_lies:Sp:=fun vs H Q _=>match vs with
 | [.str w,.bl a,.bl b]=>Q (.bl (liesB w.cps.toList a b)) H
 | _=>False
theorem ok__law_lies (T:Top K mg):Callee P w K mg base 1 "_law_lies" ["_law_word", "_law_first", "_law_second"] sp__law_lies:=by
 refine T.f__law_lies.cal sc__law_lies (by intro vs H Q E h; unfold sp__law_lies at h; split at h <;> first | rfl | exact h.elim) (fun _ _ _ _ _ _ us hl=>match us,hl with | [_,_,_],_=>rfl) (fun f cdv A outer s H vs Q E hr h=>?_)
 unfold sp__law_lies at h
 split at h
 case h_2=>exact h.elim
 refine ⟨_,(pss_cons (ps_if (qt_cmp op_eqK (qv 0) (qs [106,111,105,110])) (pss_one (ps_ret (qe_or (qv 1) (pe_one (qv 2))))) pss_nil)
   (pss_cons (ps_if (qt_cmp op_eqK (qv 0) (qs [99,111,109,109,111,110])) (pss_one (ps_ret (qe_and (qv 1) (pe_one (qv 2))))) pss_nil)
   (pss_cons (ps_if (qt_cmp op_eqK (qv 0) (qs [108,101,115,115])) (pss_one (ps_ret (qe_and (qv 1) (pe_one (qe_not (qv 2)))))) pss_nil)
   (pss_one (ps_ret (qe_cmp op_neK (qv 1) (qv 2))))))),?_⟩
 rename_i w a b
 obtain ⟨w,rfl⟩:∃ x,w = st x:=⟨_,(st_eta w).symm⟩
 simp only [st_cps] at h
 unfold liesB at h
 walk_at "rd"
 refine ite2 (fun c1=>?_) fun c1=>ite2 (fun c2=>?_) fun c2=>ite2 (fun c3=>?_) fun c3=>?_
 ·rw [if_pos c1] at h
  cases a <;> exact h
 ·rw [if_neg c1,if_pos c2] at h
  cases a <;> exact h
 ·rw [if_neg c1,if_neg c2,if_pos c3] at h
  cases a <;> exact h
 ·rw [if_neg c1,if_neg c2,if_neg c3] at h
  cases a <;> cases b <;> exact h
noncomputable def sp__law_two (K:Frag):Sp:=fun vs H Q _=>match vs with
 | [.ref sa,.int m]=>∃ (ns:List Int) (n:Nat),SqL K H sa (ns.map V.int) /\ ns.length <= 63 /\ m = (n:Int) /\ n <= 100 /\ ∀ (s1 s2:List (List Nat)) (a1 a2 q:Addr) H',s1.length <= 60 -> s2.length <= 60 -> IsRows s1 n -> IsRows s2 n -> Same H H' -> H' a1 = some (.lst (s1.map tx)) -> H' a2 = some (.lst (s2.map tx)) -> H' q = some (.lst [.ref a1,.ref a2]) -> Q (.ref q) H'
 | _=>False
theorem cut_gen {α:Type} (f:α -> V) (l:List α) (lo hi:Option Int):∃ ms:List α,cutV (l.map f) lo hi = ms.map f /\ ms.length <= l.length:=by
 refine ⟨(l.drop (HT.sIx (l.map f).length 0 lo)).take (HT.sIx (l.map f).length (l.map f).length hi - HT.sIx (l.map f).length 0 lo),?_,?_⟩
 ·unfold cutV
  rw [<- List.map_drop,<- List.map_take]
 ·rw [List.length_take,List.length_drop]
  omega
theorem ok__law_two (T:Top K mg):Callee P w K mg base 3 "_law_two" ["_law_script", "_law_many"] (sp__law_two K):=by
 refine T.f__law_two.cal sc__law_two (by intro vs H Q E h; unfold sp__law_two at h; split at h <;> first | rfl | exact h.elim) (fun _ _ _ _ _ _ us hl=>match us,hl with | [_,_],_=>rfl) (fun f cdv A outer s H vs Q E hr h=>?_)
 unfold sp__law_two at h
 split at h
 case h_2=>exact h.elim
 refine ⟨_,(pss_cons (ps_set (i:=2) sc__law_two.nd rfl lc (pe_slice (slE K rfl) (qv 0) (qo_some pe_int) (qo_some pe_int)))
   (pss_cons (ps_set (i:=3) sc__law_two.nd rfl lc (pe_op op_modK (pe_fn (ok__law_cell_at T) hr.m rfl (pa_cons (qv 0) (pa_cons pe_int pa_nil))) (pe_op op_addK (pe_callB (lenE K rfl) rfl T.b_len bb_len (pa_cons (qv 2) pa_nil)) pe_int)))
   (pss_cons (ps_set (i:=4) sc__law_two.nd rfl lc (pe_fn (ok__law_shorts T) hr.m rfl (pa_cons (pe_slice (slE K rfl) (qv 2) po_none (qo_some (qv 3))) (pa_cons (qv 1) pa_nil))))
   (pss_cons (ps_set (i:=5) sc__law_two.nd rfl lc (pe_fn (ok__law_shorts T) hr.m rfl (pa_cons (pe_slice (slE K rfl) (qv 2) (qo_some (qv 3)) po_none) (pa_cons (qv 1) pa_nil))))
   (pss_cons (ps_set (i:=6) sc__law_two.nd rfl lc (pe_op op_modK (pe_op op_fdivK (pe_fn (ok__law_cell_at T) hr.m rfl (pa_cons (qv 0) (pa_cons pe_int pa_nil))) pe_int) pe_int))
   (pss_join (ps_if (qt_cmp op_eqK (qv 6) pe_int) (pss_one (ps_set (i:=5) sc__law_two.nd rfl lc (qe_listrev (K:=K) rfl rfl rfl T.b_list rfl T.b_reversed (qv 4)))) pss_nil)
   (pss_join (ps_if (qt_cmp op_eqK (qv 6) pe_int) (pss_one (ps_set (i:=5) sc__law_two.nd rfl lc (pe_op op_addK (qv 5) (qv 4)))) pss_nil)
   (pss_one (ps_ret (pe_lst (pa_cons (qv 4) (pa_cons (qv 5) pa_nil)))))))))))),?_⟩
 rename_i sa m
 obtain ⟨ns,n,hS,hlen,rfl,hn,q⟩:=h
 walk_at "rd"
 refine ⟨_,hS,fun qa hqa=>?_⟩
 obtain ⟨cs,hcs,hcl⟩:=cut_len_le V.int ns 3 13
 have hcs:cutV (ns.map V.int) (some 3) (some 13) = cs.map V.int:=hcs
 rw [hcs]
 have s1:=same_new hqa (.lst (cs.map V.int))
 have e1:upd H qa (.lst (cs.map V.int)) qa = some (.lst (cs.map V.int)):=upd_same
 generalize upd H qa (.lst (cs.map V.int)) = H1 at s1 e1 ⊢
 refine cell_here (s1.seq hS) (by decide) ⟨_,.inl (SqL.of e1),?_⟩
 rw [List.length_map]
 walk_at "rd"
 generalize cell ns (Int.toNat 2) % ((cs.length:Int) + 1) = ct
 refine ⟨by omega,_,SqL.of e1,fun p1 hp1=>?_⟩
 obtain ⟨m1,hm1,hl1⟩:=cut_gen V.int cs none (some ct)
 rw [hm1]
 have s2:=same_new hp1 (.lst (m1.map V.int))
 refine ⟨m1,n,SqL.of upd_same,rfl,hn,by omega,fun r1 a1 H2 hr1 i1 f1 t1 d1=>?_⟩
 have s02:=s1.trans (s2.trans t1)
 refine ⟨_,SqL.of ((s2.trans t1) _ _ e1),fun p2 hp2=>?_⟩
 obtain ⟨m2,hm2,hl2⟩:=cut_gen V.int cs (some ct) none
 rw [hm2]
 have s3:=same_new hp2 (.lst (m2.map V.int))
 refine ⟨m2,n,SqL.of upd_same,rfl,hn,by omega,fun r2 a2 H3 hr2 i2 f2 t2 d2=>?_⟩
 have s23:=s3.trans t2
 have s03:=s02.trans s23
 have d1':=s23 _ _ d1
 refine cell_here (s03.seq hS) (by decide) ?_
 walk_at "rd"
 generalize cell ns (Int.toNat 2) / 11 % 5 = wy
 refine ⟨fun σ' H'=>∃ (rs:List (List Nat)) (ax:Addr),σ' = [some (.ref sa),some (.int n),some (.ref qa),some (.int ct),some (.ref a1),some (.ref ax),some (.int wy)] /\ rs.length <= 20 /\ IsRows rs n /\ Same H3 H' /\ H' ax = some (.lst (rs.map tx)),?_,?_⟩
 ·refine ite2 (fun _=>?_) fun _=>?_
  ·exact ⟨_,SqL.of d1',fun p hp=>⟨r1.reverse,p,rfl,by simp; omega,fun r hr=>i1 r (List.mem_reverse.mp hr),same_new hp _,by rw [upd_same,List.map_reverse]⟩⟩
  ·exact ⟨r2,a2,rfl,by omega,i2,Same.refl _,d2⟩
 rintro σ' H4 ⟨rs,ax,rfl,hrs,irs,s4,d4⟩
 walk_at "rd"
 refine ⟨fun σ' H'=>∃ (rs:List (List Nat)) (ax:Addr),σ' = [some (.ref sa),some (.int n),some (.ref qa),some (.int ct),some (.ref a1),some (.ref ax),some (.int wy)] /\ rs.length <= 60 /\ IsRows rs n /\ Same H3 H' /\ H' ax = some (.lst (rs.map tx)),?_,?_⟩
 ·refine ite2 (fun _=>?_) fun _=>?_
  ·refine ⟨_,_,d4,s4 _ _ d1',by rw [sizeLine_eq]; simp; omega,fun p hp=>⟨rs ++ r1,p,rfl,by rw [List.length_append]; omega,fun r hr=>?_,s4.trans (same_new hp _),by rw [upd_same,List.map_append]⟩⟩
   rcases List.mem_append.mp hr with z | z
   ·exact irs r z
   ·exact i1 r z
  ·exact ⟨rs,ax,rfl,by omega,irs,s4,d4⟩
 rintro σ' H5 ⟨rs,ax,rfl,hrs,irs,s5,d5⟩
 walk_at "rd"
 refine ⟨by decide,fun p hp=>?_⟩
 have s6:=same_new hp (.lst [V.ref a1,V.ref ax])
 exact q r1 rs a1 ax p _ (by omega) hrs i1 irs (s03.trans (s5.trans s6)) (s6 _ _ (s5 _ _ d1')) (s6 _ _ d5) upd_same
noncomputable def sp__law_asked (K:Frag):Sp:=fun vs H Q _=>match vs with
 | [.ref gsa,.ref goa,.str w,.ref wh]=>∃ (q1 q2 b1 b2 pa:Addr) (g1 g2:Nat × List Node) (gs1 gs2:List (List Nat)) (W:Nat) (ps b es:List Nat),H gsa = some (.lst [.ref q1,.ref q2]) /\ GraphAt H q1 g1 /\ GraphAt H q2 g2 /\ VeryG W ps gs1 g1 /\ VeryG W ps gs2 g2 /\ g1.2.length <= 4096 /\ g2.2.length <= 4096 /\ (∀ x ∈ g1.2,x.1 ∈ ps) /\ (∀ x ∈ g2.2,x.1 ∈ ps) /\
   H goa = some (.lst [.ref b1,.ref b2]) /\ H b1 = some (.lst (gs1.map tx)) /\ H b2 = some (.lst (gs2.map tx)) /\ WordE w.cps.toList es /\ H wh = some (.tup [.int W,.ref pa,tx b]) /\ H pa = some (.lst (ps.map pl)) /\ ps.Nodup /\ (∀ p ∈ ps,p < W) /\ ps.length <= 8 /\ W <= 48 /\ b.length = W /\ IsLet b /\ ∀ H',Same H H' -> Q (.bl true) H'
 | _=>False
theorem ble_len {W:Nat} {g h:Nat × List Node} {es P:List Nat} (o1:GraphOk W g) (o2:GraphOk W h) (p1:∀ x ∈ g.2,x.1 ∈ P) (p2:∀ x ∈ h.2,x.1 ∈ P) (hP:P.length <= 12) (hW:W <= 1000) (el:es.length = 4) (eb:∀ e ∈ es,e < 2):(bleL W g h (eE es)).2.length <= 4096:=by
 have k:BlOk W W g.2 h.2 es P:=⟨o1.good,o2.good,fun x hx=>by obtain ⟨i,hi⟩:=List.mem_iff_getElem?.mp hx; exact (o1.good.at_ _ _ hi).1,fun x hx=>by obtain ⟨i,hi⟩:=List.mem_iff_getElem?.mp hx; exact (o2.good.at_ _ _ hi).1,p1,p2,el,eb,hP,hW⟩
 have z:=(k.pow (g.1 + h.1 + 1) (g.1,h.1) ([],[]) (Nat.lt_succ_self _) o1.root.1 o2.root.1).1
 have y:2 ^ (P.filter fun p=>decide (min (plG W g.2 g.1) (plG W h.2 h.1) <= p)).length <= 2 ^ 12:=Nat.pow_le_pow_right (by decide) (Nat.le_trans (List.length_filter_le _ _) hP)
 show (buildG (bleS W g.2 h.2 (eE es)) (g.1 + h.1 + 1) (g.1,h.1) ([],[])).2.1.length <= 4096
 have x:(([],[]):BS (Nat × Nat)).1.length = 0:=rfl
 rw [x] at z
 exact Nat.le_trans (Nat.le_of_succ_le z) (Nat.le_trans (Nat.le_of_eq (Nat.zero_add _)) y)
noncomputable def mQ:TS:=fun D σ H=>∀ C:TS,(∀ (v1 v3:V) (u:Option V) (gsa q1 q2 pa da:Addr) (g1 g2:Nat × List Node) (due:List (List Nat)) (W:Nat) (ps b w es:List Nat),H gsa = some (.lst [.ref q1,.ref q2]) -> GraphAt H q1 g1 -> GraphAt H q2 g2 -> GraphOk W g1 -> GraphOk W g2 -> g1.2.length <= 4096 -> g2.2.length <= 4096 -> (∀ x ∈ g1.2,x.1 ∈ ps) -> (∀ x ∈ g2.2,x.1 ∈ ps) -> WordE w es -> VeryG W ps due (bleL W g1 g2 (eE es)) -> (bleL W g1 g2 (eE es)).2.length <= 4096 -> (∀ c ∈ due,c.length = ps.length /\ IsLet c) -> due.length <= 256 -> H da = some (.lst (due.map tx)) -> H pa = some (.lst (ps.map pl)) -> ps.Nodup -> (∀ p ∈ ps,p < W) -> ps.length <= 8 -> W <= 48 -> b.length = W -> IsLet b -> (∀ H',Same H H' -> D.rt (.bl true) H') -> C D [some (.ref gsa),some v1,some (.str (st w)),some v3,some (.int W),some (.ref pa),some (tx b),some (.ref da),u,none,none] H) -> C D σ H
theorem asked_p (T:Top K mg) {f:Addr} {cdv:Value} {A:Around} {outer:List Env} {s:Shared} {H₀:Hp} {E:XK} (hr:Room 63 (A.deeper (PyProof.Rows.envOfC "_law_asked" (defScope s__law_asked) s.heap.objs.size f cdv))):
  PSs (cxOf CX0 P w K mg base ["_law_graphs", "_law_goods", "_law_word", "_law_where", "_law_width_here", "_law_places_here", "_law_base_here", "_law_due", "_law_choice", "_law_found", "_law_rows"] "_law_asked" (defScope s__law_asked) f cdv A outer s H₀ E).nox ((defBody s__law_asked).drop 3) mQ:=by
 refine pss_weak (pss_cons (ps_set (i:=9) sc__law_asked.nd rfl lc (pe_fn (ok_graph_blend T) hr.m rfl (pa_cons (pe_ix (ixE K rfl) (qv 0) pe_int (fun _ _=>rfl)) (pa_cons (pe_ix (ixE K rfl) (qv 0) pe_int (fun _ _=>rfl)) (pa_cons (qv 2) pa_nil)))))
   (pss_cons (ps_setC (i:=10) (nt:=1) (fi:=[5,4]) (N':=["_law_one", "_law_places_here", "_law_width_here"]) sc__law_asked.nd rfl lc rfl (cscope rfl (by decide +kernel)) (cnames (N:=["_law_graphs", "_law_goods", "_law_word", "_law_where", "_law_width_here", "_law_places_here", "_law_base_here", "_law_due", "_law_choice", "_law_found", "_law_rows"]) (sc:=defScope s__law_asked) rfl rfl (by decide +kernel)) (gk_name (by decide)) (iterE K rfl (qv 7)) (fun _ _ _ _ _=>(pg_name (i:=0) (by show (["_law_one", "_law_places_here", "_law_width_here"]:List Str).Nodup; decide +kernel) rfl lc)) (fun _ _ _ _ _=>pif_nil) (fun _ _ _ _ _=>(pe_fn (ok__law_spread T) hr.m rfl (pa_cons (qv 0) (pa_cons (qv 1) (pa_cons (pe_op op_mulK (qs [45]) (qv 2)) pa_nil))))))
   (pss_join (ps_if (PW.pt (pw_or (pt_not (qt_val (qe_isinst .tuple rfl T.b_isinstance (qv 9) rfl T.b_tuple bb_tuple))) (pw_or (qt_cmp (neDE K rfl hr) (qv 9) (pe_fn (ok_graph_of T) hr.m rfl (pa_cons (qv 10) pa_nil))) (pw_or1 (pt_not (qt_val (pe_fn (ok__law_wholes T) hr.m rfl (pa_cons (qv 9) pa_nil)))))))) (pss_one (ps_ret pe_bl)) pss_nil)
   (pss_cons (qs_for PassesOwn.never rfl (iterE K rfl (pe_fn (ok__law_choices T) hr.m rfl (pa_cons (pe_callB (lenE K rfl) rfl T.b_len bb_len (pa_cons (qv 5) pa_nil)) pa_nil))) (pg_name (i:=8) sc__law_asked.nd rfl lc) (pss_one (ps_if (qt_cmp op_neK (pe_fn (ok__law_end T) hr.m rfl (pa_cons (qv 9) (pa_cons (pe_fn (ok__law_spread T) hr.m rfl (pa_cons (qv 8) (pa_cons (qv 5) (pa_cons (qv 6) pa_nil)))) pa_nil))) (pe_callTy call_intK rfl T.b_int bb_int (pa_cons (qe_cmp (inE K rfl) (qv 8) (qv 7)) pa_nil))) (pss_one (ps_ret pe_bl)) pss_nil)))
   (pss_cons (ps_expr (qe_append (pe_ix (ixE K rfl) (qv 9) pe_int (fun _ _=>rfl)) (pe_tup (pa_cons pe_int (pa_cons pe_int (pa_cons pe_int pa_nil))))))
   (pss_one (ps_ret pe_bl))))))) fun D σ H h=>h _ fun v1 v3 u gsa q1 q2 pa da g1 g2 due W ps b w es eg G1 G2 o1 o2 hl1 hl2 p1 p2 hw VB hgl hd hdl ed ep nd plt pl8 hW hbl hb q=>?_
 have hv:=very_one hd nd plt VB
 have hpl:=laid_places (hs:=due.map fun s=>setAll s ps (dashes W)) (ss:=due) (W:=W) (fun r hr=>hr) pl8
 have wid:∀ r ∈ due.map (fun s=>setAll s ps (dashes W)),r.length = W:=fun r hr=>by
  obtain ⟨s,_,rfl⟩:=List.mem_map.mp hr
  rw [setAll_len]
  simp [dashes]
 walk_at "rd"
 refine ⟨_,_,.inl (SqL.of eg),rfl,_,_,.inl (SqL.of eg),rfl,g1,g2,W,es,ps,G1,G2,o1,o2,by omega,by omega,p1,p2,by omega,hW,by simp only [st_cps]; exact hw,fun fa na vs H1 hfa hna s1 f1 f2 f3=>?_⟩
 generalize bleL W g1 g2 (eE es) = g at VB hgl hv f1 f3
 walk_at "rd"
 refine .inl ⟨⟨_,SqL.of (s1 _ _ ed)⟩,fun D2 hD=>?_⟩
 refine comp_list (item:=tx) (xs:=due) (h:=fun s=>[tx (setAll s ps (dashes W))]) hD (SqL.of (s1 _ _ ed)) (by omega) (fun _=>by simp) ?_ ?_
 ·intro s H5 out non hs5 s5 ho hn
  walk_at "rd"
  refine ⟨by omega,by omega,ps,SqL.of (s5 _ _ (s1 _ _ ep)),fun i hi=>by have:=plt i hi; simpa using this,by simp; omega,fun H' s'=>ho _ _ ?_ s'⟩
  simp only [st_cps,Int.toNat_natCast]
  rfl
 intro H5 s5 e5
 have e5:H5 D2 = some (.lst ((due.map fun s=>setAll s ps (dashes W)).map tx)):=by rw [e5,flat_one (fun s=>tx (setAll s ps (dashes W))),List.map_map]; rfl
 have hl5:(due.map fun s=>setAll s ps (dashes W)).length < 1024:=by rw [List.length_map]; omega
 generalize (due.map fun s=>setAll s ps (dashes W)) = hs at e5 hl5 wid hpl hv
 have F5:GraphAt H5 fa g:=⟨na,vs,s5 _ _ f1,s5 _ _ f2,L2.Paired.mapP f3 fun _ _ ⟨r,e,q⟩=>⟨r,e,s5 _ _ q⟩⟩
 have s15:=s1.trans s5
 walk_at "rd"
 refine ⟨fun σ' H'=>σ' = [some (.ref gsa),some v1,some (.str (st w)),some v3,some (.int W),some (.ref pa),some (tx b),some (.ref da),u,some (.ref fa),some (.ref D2)] /\ Same H5 H',?_,?_⟩
 ·refine .inr ⟨⟨_,s5 _ _ f1⟩,?_⟩
  refine ⟨hs,W,e5,wid,by omega,hl5,hpl,fun y2 na2 vs2 H6 hq2 hna2 s6 f4 f5 f6=>?_⟩
  rw [<- hv] at f4 f6
  refine ⟨3,_,_,by decide,deep_graph (s6 _ _ (s5 _ _ f1)) (s6 _ _ (s5 _ _ f2)) (L2.Paired.mapP f3 fun _ _ ⟨r,e,q⟩=>⟨r,e,s6 _ _ (s5 _ _ q)⟩),deep_graph f4 f5 f6,?_⟩
  rw [eq_graph]
  walk_at "rd"
  refine ⟨g,F5.same s6,by omega,fun H7 s7=>?_⟩
  walk_at "rd"
  exact s6.trans s7
 rintro σ' H7 ⟨rfl,s7⟩
 have s17:=s15.trans s7
 walk_at "rd"
 refine ⟨_,.inl (SqL.of (s17 _ _ ep)),?_⟩
 rw [List.length_map]
 refine ⟨ps.length,rfl,by omega,fun ca H8 hca s8 e8=>.inl ⟨⟨_,SqL.of e8⟩,?_⟩⟩
 have s18:=s17.trans s8
 have F8:=F5.same (s7.trans s8)
 refine loop_items tx (choicesL ps.length) (fun i σ H'=>∃ u,σ = [some (.ref gsa),some v1,some (.str (st w)),some v3,some (.int W),some (.ref pa),some (tx b),some (.ref da),u,some (.ref fa),some (.ref D2)] /\ Same H8 H') ⟨u,rfl,Same.refl _⟩ (fun i σ H' _ ⟨_,_,z⟩=>SqL.of (z _ _ e8)) ?_ ?_
 ·rintro i c σ H' hc ⟨u,rfl,sH⟩
  have hcm:=List.mem_of_getElem? hc
  have c1:=choicesL_width _ c hcm
  have c2:=choices_let _ c hcm
  have s0:=s18.trans sH
  have yl:LetW W (setAll c ps b):=⟨by rw [setAll_len]; exact hbl,setAll_let c2 hb⟩
  have ev:=VB.ev _ yl
  rw [narrow_set c1 nd (by rw [hbl]; exact plt)] at ev
  walk_at "rd"
  refine ⟨ps,SqL.of (s0 _ _ ep),fun i hi=>by have:=plt i hi; simp only [st_cps]; omega,by simp only [st_cps]; omega,fun H9 s9=>?_⟩
  simp only [st_cps]
  refine ⟨g,W,F8.same (sH.trans s9),VB.ok,by simp only [st_cps]; exact yl.1,by omega,by simp only [st_cps]; exact yl.2,by omega,fun HA sA=>?_⟩
  refine ⟨_,.inl (SqL.of ((s0.trans (s9.trans sA)) _ _ ed)),rfl,flat_txts _,?_⟩
  rw [in_txts]
  simp only [st_cps]
  rw [ev]
  walk_at "rd"
  rw [if_pos (by split <;> rfl)]
  exact ⟨_,rfl,sH.trans (s9.trans sA)⟩
 ·rintro σ H' ⟨u,rfl,sH⟩
  have s1H:=s5.trans (s7.trans (s8.trans sH))
  have hvl:=f3.length
  walk_at "rd"
  refine ⟨_,_,.inr (SqT.of (s1H _ _ f1)),rfl,⟨vs,s1H _ _ f2⟩,by decide,fun p hp=>⟨_,same_new hp _ _ _ (s1H _ _ f2),by rw [sizeLine_eq]; omega,?_⟩⟩
  walk_at "rd"
  exact q _ (same_upd ((s1.trans s1H).trans (same_new hp _)) hna)
theorem ok__law_asked (T:Top K mg):Callee P w K mg base 64 "_law_asked" ["_law_graphs", "_law_goods", "_law_word", "_law_where"] (sp__law_asked K):=by
 refine T.f__law_asked.cal sc__law_asked (by intro vs H Q E h; unfold sp__law_asked at h; split at h <;> first | rfl | exact h.elim) (fun _ _ _ _ _ _ us hl=>match us,hl with | [_,_,_,_],_=>rfl) (fun f cdv A outer s H vs Q E hr h=>?_)
 unfold sp__law_asked at h
 split at h
 case h_2=>exact h.elim
 refine ⟨_,(pss_cons (ps_asg (qv 3) (seqE K rfl rfl (n:=3) (pgs_cons (pg_name (i:=4) sc__law_asked.nd rfl lc) (pgs_cons (pg_name (i:=5) sc__law_asked.nd rfl lc) (pgs_cons (pg_name (i:=6) sc__law_asked.nd rfl lc) pgs_nil)))))
   (pss_cons (ps_set (i:=7) sc__law_asked.nd rfl lc (pe_lst pa_nil))
   (pss_cons (qs_for PassesOwn.never rfl (iterE K rfl (pe_fn (ok__law_choices T) hr.m rfl (pa_cons (pe_callB (lenE K rfl) rfl T.b_len bb_len (pa_cons (qv 5) pa_nil)) pa_nil))) (pg_name (i:=8) sc__law_asked.nd rfl lc) (pss_one (ps_if (qt_val (pe_fn (ok__law_lies T) hr.m rfl (pa_cons (qv 2) (pa_cons (qe_cmp (inE K rfl) (qv 8) (pe_ix (ixE K rfl) (qv 1) pe_int (fun _ _=>rfl))) (pa_cons (qe_cmp (inE K rfl) (qv 8) (pe_ix (ixE K rfl) (qv 1) pe_int (fun _ _=>rfl))) pa_nil))))) (pss_one (ps_expr (qe_append (qv 7) (qv 8)))) pss_nil)))
   (asked_p T hr)))),?_⟩
 rename_i gsa goa w wh
 obtain ⟨w,rfl⟩:∃ x,w = st x:=⟨_,(st_eta w).symm⟩
 obtain ⟨q1,q2,b1,b2,pa,g1,g2,gs1,gs2,W,ps,b,es,eg,G1,G2,V1,V2,hl1,hl2,p1,p2,eo,e1,e2,hw,ew,ep,nd,plt,pl8,hW,hbl,hb,q⟩:=h
 simp only [st_cps] at hw
 obtain ⟨hw1,hw2,hw3,hw4⟩:=id hw
 have VB:=very_blend (e:=eE es) (fun a b ha hb=>by
  unfold eE
  have h:a + a + b < es.length:=by rw [hw2]; omega
  rw [List.getD_eq_getElem?_getD,List.getElem?_eq_getElem h]
  exact hw3 _ (List.getElem_mem h)) V1 V2 plt
 have hgl:=ble_len V1.ok V2.ok p1 p2 (by omega:ps.length <= 12) (by omega) hw2 hw3
 have hpf:(fun c=>decide (eE es (if c ∈ gs1 then 1 else 0) (if c ∈ gs2 then 1 else 0) = 1)) = fun c=>liesB w (decide (c ∈ gs1)) (decide (c ∈ gs2)):=by
  funext c
  rw [hw4]
  congr 3 <;> simp
 rw [hpf] at VB
 have hchl:(choicesL ps.length).length <= 256:=by rw [choicesL_len]; exact Nat.pow_le_pow_right (by decide) pl8
 walk_at "rd"
 refine ⟨_,.inr (SqT.of ew),rfl,_,[_,_],rfl,_,[_],rfl,_,[],rfl,rfl,?_⟩
 walk_at "rd"
 refine ⟨Nat.zero_le _,fun da hda=>⟨_,.inl (SqL.of (same_new hda _ _ _ ep)),?_⟩⟩
 rw [List.length_map]
 refine ⟨ps.length,rfl,by omega,fun ca H1 hca s1 ec=>.inl ⟨⟨_,SqL.of ec⟩,?_⟩⟩
 have s01:=(same_new hda (.lst [])).trans s1
 have nda:da ≠ ca:=ne_of_none upd_same hca
 refine loop_items tx (choicesL ps.length) (fun i σ H'=>∃ u,σ = [some (.ref gsa),some (.ref goa),some (.str (st w)),some (.ref wh),some (.int W),some (.ref pa),some (tx b),some (.ref da),u,none,none] /\ Same H H' /\ H' ca = some (.lst ((choicesL ps.length).map tx)) /\ H' da = some (.lst ((((choicesL ps.length).take i).filter fun c=>liesB w (decide (c ∈ gs1)) (decide (c ∈ gs2))).map tx)))
  ⟨none,rfl,s01,ec,s1 _ _ upd_same⟩ (fun i σ H' _ ⟨_,_,_,z,_⟩=>SqL.of z) ?_ ?_
 ·rintro i c σ H2 hc ⟨u,rfl,s2,e3,e4⟩
  have hi:i < (choicesL ps.length).length:=(List.getElem?_eq_some_iff.mp hc).1
  have step:(((choicesL ps.length).take (i + 1)).filter fun c=>liesB w (decide (c ∈ gs1)) (decide (c ∈ gs2))) = (((choicesL ps.length).take i).filter fun c=>liesB w (decide (c ∈ gs1)) (decide (c ∈ gs2))) ++ (if liesB w (decide (c ∈ gs1)) (decide (c ∈ gs2)) = true then [c] else []):=by
   rw [List.take_add_one,hc,List.filter_append]
   simp only [Option.toList_some,List.filter_cons,List.filter_nil]
  have fl:=List.length_filter_le (fun c=>liesB w (decide (c ∈ gs1)) (decide (c ∈ gs2))) ((choicesL ps.length).take i)
  rw [List.length_take] at fl
  walk_at "rd"
  refine ⟨_,_,.inl (SqL.of (s2 _ _ eo)),rfl,?_⟩
  walk_at "rd"
  refine ⟨_,.inl (SqL.of (s2 _ _ e1)),rfl,flat_txts _,?_⟩
  rw [in_txts]
  refine ⟨_,_,.inl (SqL.of (s2 _ _ eo)),rfl,?_⟩
  walk_at "rd"
  refine ⟨_,.inl (SqL.of (s2 _ _ e2)),rfl,flat_txts _,?_⟩
  rw [in_txts]
  show (if liesB (st w).cps.toList (decide (c ∈ gs1)) (decide (c ∈ gs2)) = true then _ else _)
  rw [st_cps]
  refine ite2 (fun z=>⟨⟨_,e4⟩,_,e4,by rw [sizeLine_eq,List.length_map]; omega,_,rfl,same_upd s2 hda,by rw [upd_ne (Ne.symm nda)]; exact e3,?_⟩) fun z=>⟨_,rfl,s2,e3,?_⟩
  ·rw [upd_same,step,if_pos z,List.map_append]
   rfl
  ·rw [e4,step,if_neg z,List.append_nil]
 ·rintro σ H' ⟨u,rfl,sH,e3,e4⟩
  rw [List.take_length] at e4
  exact fun C k=>k _ _ u gsa q1 q2 pa da g1 g2 _ W ps b w es (sH _ _ eg) (G1.same sH) (G2.same sH) V1.ok V2.ok hl1 hl2 p1 p2 hw VB hgl (fun c hc=>⟨choicesL_width _ c (List.mem_filter.mp hc).1,choices_let _ c (List.mem_filter.mp hc).1⟩) (Nat.le_trans (List.length_filter_le _ _) hchl) e4 (sH _ _ ep) nd plt pl8 hW hbl hb fun H2 s2=>q H2 (sH.trans s2)
noncomputable def sp_law (K:Frag):Sp:=fun vs H Q _=>match vs with
 | [.ref a]=>∃ ns:List Int,SqL K H a (ns.map V.int) /\ ns.length <= 63 /\ ∀ H',Q (.bl true) H'
 | _=>False
theorem word_at {j:Nat} (h:j < 4):∃ w es,atI [V.str (st [106,111,105,110]),V.str (st [99,111,109,109,111,110]),V.str (st [108,101,115,115]),V.str (st [101,105,116,104,101,114])] (j:Int) = some (tx w) /\ WordE w es:=by
 obtain ⟨h1,h2,h3,h4⟩:=word_all
 match j,h with
 | 0,_=>exact ⟨_,_,rfl,h1⟩
 | 1,_=>exact ⟨_,_,rfl,h2⟩
 | 2,_=>exact ⟨_,_,rfl,h3⟩
 | 3,_=>exact ⟨_,_,rfl,h4⟩
theorem word_at2 {j:Nat} (h:j < 4):∃ w es,atI [V.str (st [99,111,109,109,111,110]),V.str (st [108,101,115,115]),V.str (st [101,105,116,104,101,114]),V.str (st [106,111,105,110])] (j:Int) = some (tx w) /\ WordE w es:=by
 obtain ⟨h1,h2,h3,h4⟩:=word_all
 match j,h with
 | 0,_=>exact ⟨_,_,rfl,h2⟩
 | 1,_=>exact ⟨_,_,rfl,h3⟩
 | 2,_=>exact ⟨_,_,rfl,h4⟩
 | 3,_=>exact ⟨_,_,rfl,h1⟩
noncomputable abbrev LX (P:Program) (w:World) (K:Frag) (mg:Str -> Option Value) (base:Heap) (f:Addr) (cdv:Value) (A:Around) (outer:List Env) (s:Shared) (H:Hp) (E:XK):Cx:=(cxOf CX0 P w K mg base ["_law_script", "_law_width_here", "_law_places_here", "_law_two_here", "_law_graphs", "_law_kept", "_law_goods", "_law_base_here", "_law_at", "_law_word"] "law" (defScope s_law) f cdv A outer s H E).nox
structure Lies (H:Hp) (q na:Addr) (vs:List V) (g:Nat × List Node):Prop where
 e:H q = some (.tup [V.int (g.1:Nat),.ref na])
 n:H na = some (.lst vs)
 p:Paired (NodeAt H) g.2 vs
theorem Lies.same {H H':Hp} {q na:Addr} {vs:List V} {g:Nat × List Node} (h:Lies H q na vs g) (s:Same H H'):Lies H' q na vs g:=⟨s _ _ h.e,s _ _ h.n,L2.Paired.mapP h.p fun _ _ ⟨r,e,q⟩=>⟨r,e,s _ _ q⟩⟩
theorem Lies.at {H:Hp} {q na:Addr} {vs:List V} {g:Nat × List Node} (h:Lies H q na vs g):GraphAt H q g:=⟨na,vs,h.e,h.n,h.p⟩
theorem Lies.deep {H:Hp} {q na:Addr} {vs:List V} {g:Nat × List Node} (h:Lies H q na vs g):Deep K H 3 (.ref q) (.t [.f (V.int (g.1:Nat)),.l (g.2.map nodeD)]):=deep_graph h.e h.n h.p
structure OneG (W:Nat) (ps:List Nat) (gs:List (List Nat)) (g:Nat × List Node):Prop where
 v:VeryG W ps gs g
 l:g.2.length <= 4096
 p:∀ x ∈ g.2,x.1 ∈ ps
structure Wid (W:Nat) (ps:List Nat):Prop where
 nd:ps.Nodup
 lt:∀ p ∈ ps,p < W
 l8:ps.length <= 8
 hW:W <= 48
noncomputable def m8:TS:=fun D σ H=>∀ C:TS,(∀ (v0 v3:V) (gsa kla goa pa q1 q2 n1 n2 t1 t2 k1 k2 b1 b2:Addr) (vs1 vs2:List V) (g1 g2:Nat × List Node) (gs1 gs2:List (List Nat)) (W j:Nat) (ps b:List Nat),Wid W ps -> j < 4 -> b.length = W -> IsLet b -> H pa = some (.lst (ps.map pl)) -> H gsa = some (.lst [.ref q1,.ref q2]) -> Lies H q1 n1 vs1 g1 -> Lies H q2 n2 vs2 g2 -> H kla = some (.lst [.ref t1,.ref t2]) -> Lies H t1 k1 vs1 g1 -> Lies H t2 k2 vs2 g2 -> H goa = some (.lst [.ref b1,.ref b2]) -> H b1 = some (.lst (gs1.map tx)) -> H b2 = some (.lst (gs2.map tx)) -> OneG W ps gs1 g1 -> OneG W ps gs2 g2 -> (∀ H',D.rt (.bl true) H') -> C D [some v0,some (.int W),some (.ref pa),some v3,some (.ref gsa),some (.ref kla),some (.ref goa),some (tx b),some (.int j),none] H) -> C D σ H
theorem law_p8 (T:Top K mg) {f:Addr} {cdv:Value} {A:Around} {outer:List Env} {s:Shared} {H₀:Hp} {E:XK} (hr:Room 64 (A.deeper (PyProof.Rows.envOfC "law" (defScope s_law) s.heap.objs.size f cdv))):PSs (LX P w K mg base f cdv A outer s H₀ E) ((defBody s_law).drop 8) m8:=by
 refine pss_weak (pss_cons (qs_for PassesOwn.never rfl (iterE K rfl (pe_lst (pa_cons (pe_ix (ixE K rfl) (pe_lst (pa_cons (qs [106,111,105,110]) (pa_cons (qs [99,111,109,109,111,110]) (pa_cons (qs [108,101,115,115]) (pa_cons (qs [101,105,116,104,101,114]) pa_nil))))) (qv 8) (fun _ _=>rfl)) (pa_cons (pe_ix (ixE K rfl) (pe_lst (pa_cons (qs [99,111,109,109,111,110]) (pa_cons (qs [108,101,115,115]) (pa_cons (qs [101,105,116,104,101,114]) (pa_cons (qs [106,111,105,110]) pa_nil))))) (qv 8) (fun _ _=>rfl)) pa_nil)))) (pg_name (i:=9) sc_law.nd rfl lc) (pss_one (ps_if (pt_not (qt_val (pe_fn (ok__law_asked T) hr.m rfl (pa_cons (qv 4) (pa_cons (qv 6) (pa_cons (qv 9) (pa_cons (pe_tup (pa_cons (qv 1) (pa_cons (qv 2) (pa_cons (qv 7) pa_nil)))) pa_nil))))))) (pss_one (ps_ret pe_bl)) pss_nil)))
   (pss_one (ps_ret (qe_cmp (eqDE K rfl hr) (qv 4) (qv 5))))) fun D σ H h=>h _ fun v0 v3 gsa kla goa pa q1 q2 n1 n2 t1 t2 k1 k2 b1 b2 vs1 vs2 g1 g2 gs1 gs2 W j ps b wd hj hbl hb ep eg G1 G2 ek K1 K2 eo e1 e2 O1 O2 q=>?_
 obtain ⟨w1,es1,a1,hw1⟩:=word_at hj
 obtain ⟨w2,es2,a2,hw2⟩:=word_at2 hj
 walk_at "rd"
 refine ⟨by decide,fun l1 hl1=>⟨_,_,.inl (SqL.of upd_same),a1,by decide,fun l2 hl2=>⟨_,_,.inl (SqL.of upd_same),a2,by decide,fun lp hlp=>.inl ⟨⟨_,SqL.of upd_same⟩,?_⟩⟩⟩⟩
 have s1:=(same_new hl1 (.lst [V.str (st [106,111,105,110]),V.str (st [99,111,109,109,111,110]),V.str (st [108,101,115,115]),V.str (st [101,105,116,104,101,114])])).trans ((same_new hl2 (.lst [V.str (st [99,111,109,109,111,110]),V.str (st [108,101,115,115]),V.str (st [101,105,116,104,101,114]),V.str (st [106,111,105,110])])).trans (same_new hlp (.lst [tx w1,tx w2])))
 generalize hH1:upd (upd (upd H l1 (.lst [V.str (st [106,111,105,110]),V.str (st [99,111,109,109,111,110]),V.str (st [108,101,115,115]),V.str (st [101,105,116,104,101,114])])) l2 (.lst [V.str (st [99,111,109,109,111,110]),V.str (st [108,101,115,115]),V.str (st [101,105,116,104,101,114]),V.str (st [106,111,105,110])])) lp (.lst [tx w1,tx w2]) = H1 at s1 ⊢
 have elp:H1 lp = some (.lst ([w1,w2].map tx)):=by rw [<- hH1,upd_same]; rfl
 refine loop_items tx [w1,w2] (fun i σ H'=>∃ u,σ = [some v0,some (.int W),some (.ref pa),some v3,some (.ref gsa),some (.ref kla),some (.ref goa),some (tx b),some (.int j),u] /\ Same H1 H') ⟨none,rfl,Same.refl _⟩ (fun i σ H' _ ⟨_,_,z⟩=>SqL.of (z _ _ elp)) ?_ ?_
 ·rintro i w' σ H' hw' ⟨u,rfl,sH⟩
  obtain ⟨es,hes⟩:∃ es,WordE w' es:=by
   rcases List.mem_cons.mp (List.mem_of_getElem? hw') with z | z
   ·rw [z]; exact ⟨_,hw1⟩
   ·rw [List.mem_singleton.mp z]; exact ⟨_,hw2⟩
  have s0:=s1.trans sH
  walk_at "rd"
  refine ⟨by decide,fun pt hpt=>?_⟩
  have s2:=s0.trans (same_new hpt (.tup [V.int (W:Nat),.ref pa,tx b]))
  refine ⟨q1,q2,b1,b2,pa,g1,g2,gs1,gs2,W,ps,b,es,s2 _ _ eg,(G1.same s2).at,(G2.same s2).at,O1.v,O2.v,O1.l,O2.l,O1.p,O2.p,s2 _ _ eo,s2 _ _ e1,s2 _ _ e2,by simp only [st_cps]; exact hes,upd_same,s2 _ _ ep,wd.nd,wd.lt,wd.l8,wd.hW,hbl,hb,fun H3 s3=>?_⟩
  walk_at "rd"
  exact ⟨_,rfl,sH.trans ((same_new hpt _).trans s3)⟩
 ·rintro σ H' ⟨u,rfl,sH⟩
  have s0:=s1.trans sH
  walk_at "rd"
  refine ⟨4,_,_,by decide,.inr (.inl ⟨gsa,_,_,rfl,rfl,SqL.of (s0 _ _ eg),.cons (G1.same s0).deep (.cons (G2.same s0).deep .nil)⟩),.inr (.inl ⟨kla,_,_,rfl,rfl,SqL.of (s0 _ _ ek),.cons (K1.same s0).deep (.cons (K2.same s0).deep .nil)⟩),?_⟩
  rw [eqD,eqDs,eq_graph,eqDs,eq_graph,eqDs]
  exact q _
theorem comp_relD {g:TG} {tc:TT} {te:TE} {σc:St} {D:Addr} {Q:VK} {H:Hp} {α:Type} (item:α -> V) (xs:List α) (R:α -> V -> Hp -> Prop) {p:Addr} (hfree:H D = none) (hl:SqL K H p (xs.map item)) (hn:xs.length <= 100000)
  (mono:∀ x v H1 H2 acc,H1 D = some (.lst acc) -> (∀ b o,b ≠ D -> H1 b = some o -> H2 b = some o) -> R x v H1 -> R x v H2)
  (hs:∀ x H1 (out:VK) (non:Hp -> Prop),x ∈ xs -> Same H H1 -> (∀ b,H1 b = none -> b ≠ D) -> (∀ v H6,Same H1 H6 -> R x v H6 -> out v H6) ->
   g (item x) σc H1 fun σ4 H4=>tc σ4 H4 fun b H5=>if b = true then te σ4 H5 out else non H5)
  (hq:∀ H' vs,Same H H' -> H' D = some (.lst vs) -> Paired (fun x v=>R x v H') xs vs -> Q (.ref D) H'):compW (Itl K p) g tc te σc D Q H:=by
 refine ⟨fun i m acc H2=>m = xs.length - i /\ i <= xs.length /\ Paired (fun x v=>R x v H2) (xs.take i) acc /\ Same H H2 /\ H2 D = some (.lst acc),⟨xs.length,by simp,Nat.zero_le _,.nil,same_new hfree _,upd_same⟩,?_⟩
 rintro i m acc H2 ⟨rfl,hi,pr,sm,hD⟩
 have len:acc.length <= i:=by
  have a:=pr.length
  rw [List.length_take] at a
  omega
 by_cases hlt:i < xs.length
 ·refine .inr ⟨⟨_,item xs[i],sm.seq hl,by simp [hlt]⟩,fun x H3 y=>?_⟩
  obtain ⟨rfl,y⟩:=y
  have e:=y _ (sm.seq hl)
  rw [List.getElem?_map,List.getElem?_eq_getElem hlt] at e
  have e2:item xs[i] = x:=Option.some.inj e
  subst e2
  refine hs xs[i] _ _ _ (List.getElem_mem hlt) sm (fun b hb z=>by rw [z,hD] at hb; cases hb) fun v H6 s6 r=>?_
  refine ⟨s6 _ _ hD,Nat.lt_of_le_of_lt len (sizeBig (by omega)),xs.length - (i + 1),by omega,rfl,hlt,?_,same_upd (sm.trans s6) hfree,upd_same⟩
  rw [List.take_add_one,List.getElem?_eq_getElem hlt]
  exact paired_snoc' (L2.Paired.mapP pr fun _ _ r'=>mono _ _ H3 _ acc hD (fun b o nb q=>by rw [upd_ne nb]; exact s6 _ _ q) r') (mono _ _ H6 _ acc (s6 _ _ hD) (fun b o nb q=>by rw [upd_ne nb]; exact q) r)
 ·have hi':i = xs.length:=by omega
  subst hi'
  rw [List.take_length] at pr
  exact .inl ⟨⟨_,sm.seq hl,by simp⟩,hq H2 acc sm hD pr⟩
noncomputable def m4:TS:=fun D σ H=>∀ C:TS,(∀ (a gsa tw pa q1 q2 n1 n2 a1 a2:Addr) (vs1 vs2:List V) (g1 g2:Nat × List Node) (s1 s2:List (List Nat)) (ns:List Int) (W:Nat) (ps:List Nat),Wid W ps -> 1 <= W -> SqL K H a (ns.map V.int) -> H pa = some (.lst (ps.map pl)) -> H gsa = some (.lst [.ref q1,.ref q2]) -> Lies H q1 n1 vs1 g1 -> Lies H q2 n2 vs2 g2 -> H tw = some (.lst [.ref a1,.ref a2]) -> H a1 = some (.lst (s1.map tx)) -> H a2 = some (.lst (s2.map tx)) -> s1.length <= 60 -> s2.length <= 60 -> OneG W ps (goodL s1 ps.length) g1 -> OneG W ps (goodL s2 ps.length) g2 -> (∀ H',D.rt (.bl true) H') -> C D [some (.ref a),some (.int W),some (.ref pa),some (.ref tw),some (.ref gsa),none,none,none,none,none] H) -> C D σ H
theorem law_p4 (T:Top K mg) {f:Addr} {cdv:Value} {A:Around} {outer:List Env} {s:Shared} {H₀:Hp} {E:XK} (hr:Room 64 (A.deeper (PyProof.Rows.envOfC "law" (defScope s_law) s.heap.objs.size f cdv))):PSs (LX P w K mg base f cdv A outer s H₀ E) ((defBody s_law).drop 4) (m4 (K:=K)):=by
 refine pss_weak (pss_cons (ps_setC (i:=5) (nt:=1) (fi:=[]) (N':=["_law_graph"]) sc_law.nd rfl lc rfl (cscope rfl (by decide +kernel)) (cnames (N:=["_law_script", "_law_width_here", "_law_places_here", "_law_two_here", "_law_graphs", "_law_kept", "_law_goods", "_law_base_here", "_law_at", "_law_word"]) (sc:=defScope s_law) rfl rfl (by decide +kernel)) (gk_name (by decide)) (iterE K rfl (qv 4)) (fun _ _ _ _ _=>(pg_name (i:=0) (by show (["_law_graph"]:List Str).Nodup; decide +kernel) rfl lc)) (fun _ _ _ _ _=>pif_nil) (fun _ _ _ _ _=>(pe_tup (pa_cons (pe_ix (ixE K rfl) (qv 0) pe_int (fun _ _=>rfl)) (pa_cons (pe_callTy (call_listK K rfl rfl) rfl T.b_list bb_list (pa_cons (pe_ix (ixE K rfl) (qv 0) pe_int (fun _ _=>rfl)) pa_nil)) pa_nil)))))
   (pss_cons (ps_setC (i:=6) (nt:=1) (fi:=[2]) (N':=["_law_shorts_here", "_law_places_here"]) sc_law.nd rfl lc rfl (cscope rfl (by decide +kernel)) (cnames (N:=["_law_script", "_law_width_here", "_law_places_here", "_law_two_here", "_law_graphs", "_law_kept", "_law_goods", "_law_base_here", "_law_at", "_law_word"]) (sc:=defScope s_law) rfl rfl (by decide +kernel)) (gk_name (by decide)) (iterE K rfl (qv 3)) (fun _ _ _ _ _=>(pg_name (i:=0) (by show (["_law_shorts_here", "_law_places_here"]:List Str).Nodup; decide +kernel) rfl lc)) (fun _ _ _ _ _=>pif_nil) (fun _ _ _ _ _=>(pe_fn (ok__law_good T) hr.m rfl (pa_cons (qv 0) (pa_cons (pe_callB (lenE K rfl) rfl T.b_len bb_len (pa_cons (qv 1) pa_nil)) pa_nil)))))
   (pss_cons (ps_set (i:=7) sc_law.nd rfl lc (pe_fn (ok__law_base T) hr.m rfl (pa_cons (pe_op op_fdivK (pe_fn (ok__law_cell_at T) hr.m rfl (pa_cons (qv 0) (pa_cons pe_int pa_nil))) pe_int) (pa_cons (qv 1) pa_nil))))
   (pss_cons (ps_set (i:=8) sc_law.nd rfl lc (pe_op op_modK (pe_op op_fdivK (pe_fn (ok__law_cell_at T) hr.m rfl (pa_cons (qv 0) (pa_cons pe_int pa_nil))) pe_int) pe_int))
   (law_p8 T hr))))) fun D σ H h=>h _ fun a gsa tw pa q1 q2 n1 n2 a1 a2 vs1 vs2 g1 g2 s1 s2 ns W ps wd hW1 hS ep eg G1 G2 et e1 e2 hl1 hl2 O1 O2 q=>?_
 have hv1:=G1.p.length
 have hv2:=G2.p.length
 have hW:=wd.hW
 have h8:=wd.l8
 walk_at "rd"
 refine .inl ⟨⟨_,SqL.of eg⟩,fun D1 hD1=>?_⟩
 refine comp_relD (item:=fun z:Addr × Addr × List V × (Nat × List Node)=>V.ref z.1) (xs:=[(q1,n1,vs1,g1),(q2,n2,vs2,g2)]) (R:=fun z v H'=>∃ t k,v = .ref t /\ k ≠ D1 /\ H' t = some (.tup [V.int (z.2.2.2.1:Nat),.ref k]) /\ H' k = some (.lst z.2.2.1)) hD1 (SqL.of eg) (by simp) ?_ ?_ ?_
 ·rintro z v H1 H2 acc hd k ⟨t,k',rfl,hk,x1,x2⟩
  exact ⟨t,k',rfl,hk,k t _ (fun y=>by rw [y,hd] at x1; cases x1) x1,k k' _ hk x2⟩
 ·intro z H1 out non hz sz nD ho
  have hG:Lies H1 z.1 z.2.1 z.2.2.1 z.2.2.2:=by
   rcases List.mem_cons.mp hz with rfl | hz
   ·exact G1.same sz
   ·rw [List.mem_singleton.mp hz]; exact G2.same sz
  walk_at "rd"
  refine ⟨_,_,.inr (SqT.of hG.e),rfl,_,_,.inr (SqT.of hG.e),rfl,_,.inl (SqL.of hG.n),fun k hk=>⟨by decide,fun t ht=>?_⟩⟩
  exact ho _ _ ((same_new hk _).trans (same_new ht _)) ⟨t,k,rfl,nD k hk,upd_same,same_new ht _ _ _ upd_same⟩
 intro H1 ks sk ek pk
 obtain ⟨t1,t2,k1,k2,rfl,x1,x2,y1,y2⟩:∃ t1 t2 k1 k2,ks = [.ref t1,.ref t2] /\ H1 t1 = some (.tup [V.int (g1.1:Nat),.ref k1]) /\ H1 k1 = some (.lst vs1) /\ H1 t2 = some (.tup [V.int (g2.1:Nat),.ref k2]) /\ H1 k2 = some (.lst vs2):=by
  cases pk with
  | cons r1 pk=>
   cases pk with
   | cons r2 pk=>
    cases pk
    obtain ⟨t1,k1,rfl,_,x1,x2⟩:=r1
    obtain ⟨t2,k2,rfl,_,y1,y2⟩:=r2
    exact ⟨t1,t2,k1,k2,rfl,x1,x2,y1,y2⟩
 have L1:Lies H1 t1 k1 vs1 g1:=⟨x1,x2,(G1.same sk).p⟩
 have L2':Lies H1 t2 k2 vs2 g2:=⟨y1,y2,(G2.same sk).p⟩
 walk_at "rd"
 refine .inl ⟨⟨_,SqL.of (sk _ _ et)⟩,fun D2 hD2=>?_⟩
 refine comp_relD (item:=fun z:Addr × List (List Nat)=>V.ref z.1) (xs:=[(a1,s1),(a2,s2)]) (R:=fun z v H'=>∃ b,v = .ref b /\ b ≠ D2 /\ H' b = some (.lst ((goodL z.2 ps.length).map tx))) hD2 (SqL.of (sk _ _ et)) (by simp) ?_ ?_ ?_
 ·rintro z v H2 H3 acc hd k ⟨b,rfl,hb,x⟩
  exact ⟨b,rfl,hb,k b _ hb x⟩
 ·intro z H2 out non hz sz nD ho
  have hz':H2 z.1 = some (.lst (z.2.map tx)) /\ z.2.length <= 60:=by
   rcases List.mem_cons.mp hz with rfl | hz
   ·exact ⟨sz _ _ (sk _ _ e1),hl1⟩
   ·rw [List.mem_singleton.mp hz]; exact ⟨sz _ _ (sk _ _ e2),hl2⟩
  walk_at "rd"
  refine ⟨_,.inl (SqL.of (sz _ _ (sk _ _ ep))),?_⟩
  rw [List.length_map]
  exact ⟨z.2,ps.length,SqL.of hz'.1,rfl,by omega,by omega,fun b H3 hb s3 x=>ho _ _ s3 ⟨b,rfl,nD b hb,x⟩⟩
 intro H2 bs sb eb pb
 obtain ⟨b1,b2,rfl,x1,x2⟩:∃ b1 b2,bs = [.ref b1,.ref b2] /\ H2 b1 = some (.lst ((goodL s1 ps.length).map tx)) /\ H2 b2 = some (.lst ((goodL s2 ps.length).map tx)):=by
  cases pb with
  | cons r1 pb=>
   cases pb with
   | cons r2 pb=>
    cases pb
    obtain ⟨b1,rfl,_,x1⟩:=r1
    obtain ⟨b2,rfl,_,x2⟩:=r2
    exact ⟨b1,b2,rfl,x1,x2⟩
 have s02:=sk.trans sb
 walk_at "rd"
 refine cell_here (s02.seq hS) (by decide) ?_
 walk_at "rd"
 refine ⟨W,rfl,by omega,fun b H3 s3 hbl hb=>?_⟩
 have s03:=s02.trans s3
 refine cell_here (s03.seq hS) (by decide) ?_
 walk_at "rd"
 obtain ⟨j,hj,hj4⟩:∃ j:Nat,cell ns (Int.toNat 0) / 24 % 4 = (j:Int) /\ j < 4:=⟨(cell ns (Int.toNat 0) / 24 % 4).toNat,by omega,by omega⟩
 rw [hj]
 have sb3:=sb.trans s3
 exact fun C k=>k _ _ gsa D1 D2 pa q1 q2 n1 n2 t1 t2 k1 k2 b1 b2 vs1 vs2 g1 g2 _ _ W j ps b wd hj4 hbl hb (s03 _ _ ep) (s03 _ _ eg) (G1.same s03) (G2.same s03) (sb3 _ _ ek) (L1.same sb3) (L2'.same sb3) (s3 _ _ eb) (s3 _ _ x1) (s3 _ _ x2) O1 O2 q
theorem one_of {ss:List (List Nat)} {W:Nat} {ps:List Nat} (h:IsRows ss ps.length) (wd:Wid W ps):OneG W ps (goodL ss ps.length) (graphL (ss.map fun s=>setAll s ps (dashes W))):=by
 have wid:∀ r ∈ ss.map (fun s=>setAll s ps (dashes W)),r.length = W:=fun r hr=>by
  obtain ⟨s,_,rfl⟩:=List.mem_map.mp hr
  rw [setAll_len]
  simp [dashes]
 have hpl:=laid_places (hs:=ss.map fun s=>setAll s ps (dashes W)) (ss:=ss) (W:=W) (fun r hr=>hr) wd.l8
 have hpW:(placesL (ss.map fun s=>setAll s ps (dashes W)) W).length <= 12:=by rw [<- places_head wid]; exact hpl
 refine ⟨very_good (fun s hs=>(h s hs).1) wd.nd wd.lt,?_,laid_in⟩
 obtain ⟨_,_,glen,_⟩:=graph_told wid
 have:2 ^ (placesL (ss.map fun s=>setAll s ps (dashes W)) W).length <= 2 ^ 12:=Nat.pow_le_pow_right (by decide) hpW
 omega
theorem ok_law (T:Top K mg) {f:Addr} {fd:FuncData} (F:Fun K "law" "law" s_law f fd):FnOk P w K mg base CX0 65 f fd ["_law_script"] (sp_law K):=by
 refine F.ok sc_law (by intro vs H Q E h; unfold sp_law at h; split at h <;> first | rfl | exact h.elim) (fun cdv A outer s H vs Q E hr h=>?_)
 unfold sp_law at h
 split at h
 case h_2=>exact h.elim
 refine ⟨_,(pss_cons (ps_set (i:=1) sc_law.nd rfl lc (pe_fn (ok__law_width T) hr.m rfl (pa_cons (pe_fn (ok__law_cell_at T) hr.m rfl (pa_cons (qv 0) (pa_cons pe_int pa_nil))) pa_nil)))
   (pss_cons (ps_set (i:=2) sc_law.nd rfl lc (pe_fn (ok__law_places T) hr.m rfl (pa_cons (pe_fn (ok__law_cell_at T) hr.m rfl (pa_cons (qv 0) (pa_cons pe_int pa_nil))) (pa_cons (qv 1) pa_nil))))
   (pss_cons (ps_set (i:=3) sc_law.nd rfl lc (pe_fn (ok__law_two T) hr.m rfl (pa_cons (qv 0) (pa_cons (pe_callB (lenE K rfl) rfl T.b_len bb_len (pa_cons (qv 2) pa_nil)) pa_nil))))
   (pss_cons (ps_setC (i:=4) (nt:=1) (fi:=[2,1]) (N':=["_law_shorts_here", "_law_places_here", "_law_width_here"]) sc_law.nd rfl lc rfl (cscope rfl (by decide +kernel)) (cnames (N:=["_law_script", "_law_width_here", "_law_places_here", "_law_two_here", "_law_graphs", "_law_kept", "_law_goods", "_law_base_here", "_law_at", "_law_word"]) (sc:=defScope s_law) rfl rfl (by decide +kernel)) (gk_name (by decide)) (iterE K rfl (qv 3)) (fun _ _ _ _ _=>(pg_name (i:=0) (by show (["_law_shorts_here", "_law_places_here", "_law_width_here"]:List Str).Nodup; decide +kernel) rfl lc)) (fun _ _ _ _ _=>pif_nil) (fun _ _ _ _ _=>(pe_fn (ok_graph_of T) hr.m rfl (pa_cons (qe_comp (nt:=1) (fi:=[1,2]) (N':=["_law_short", "_law_places_here", "_law_width_here"]) rfl (cscope rfl (by decide +kernel)) (cnamesC (by decide +kernel)) (gk_name (by decide)) (iterE K rfl (qv 0)) (fun _ _ _ _ _=>(pg_name (i:=0) (by show (["_law_short", "_law_places_here", "_law_width_here"]:List Str).Nodup; decide +kernel) rfl lc)) (fun _ _ _ _ _=>pif_nil) (fun _ _ _ _ _=>(pe_fn (ok__law_spread T) hr.m rfl (pa_cons (qv 0) (pa_cons (qv 1) (pa_cons (pe_op op_mulK (qs [45]) (qv 2)) pa_nil)))))) pa_nil))))
   (law_p4 T hr))))),?_⟩
 rename_i a
 obtain ⟨ns,hS,hlen,q⟩:=h
 walk_at "rd"
 refine cell_here hS (by decide) fun W hW1 hW2=>?_
 walk_at "rd"
 refine cell_here hS (by decide) ⟨by omega,by omega,fun ps pa H1 psd plt pl8 pl1 hpa s1 e1=>?_⟩
 have hS1:=s1.seq hS
 have wd:Wid W ps:=⟨psd.imp fun h=>Nat.ne_of_lt h,fun i hi=>by have:=plt i hi; omega,pl8,hW2⟩
 have hdash:(dashes W).length = W:=by simp [dashes]
 walk_at "rd"
 refine ⟨_,.inl (SqL.of e1),?_⟩
 rw [List.length_map]
 refine ⟨ns,ps.length,hS1,hlen,rfl,by omega,fun r1 r2 a1 a2 tw H2 h1 h2 i1 i2 s2 x1 x2 et=>?_⟩
 have s12:=s1.trans s2
 have e12:=s2 _ _ e1
 walk_at "rd"
 refine .inl ⟨⟨_,SqL.of et⟩,fun D hD=>?_⟩
 refine comp_relD (item:=fun z:Addr × List (List Nat)=>V.ref z.1) (xs:=[(a1,r1),(a2,r2)]) (R:=fun z v H'=>∃ q na vs,v = .ref q /\ na ≠ D /\ Lies H' q na vs (graphL (z.2.map fun s=>setAll s ps (dashes W)))) hD (SqL.of et) (by simp) ?_ ?_ ?_
 ·rintro z v H3 H4 acc hd k ⟨q,na,vs,rfl,hn,L⟩
  exact ⟨q,na,vs,rfl,hn,k q _ (fun y=>by have:=L.e; rw [y,hd] at this; cases this) L.e,k na _ hn L.n,L2.Paired.mapP L.p fun _ _ ⟨r,e,x⟩=>⟨r,e,k r _ (fun y=>by rw [y,hd] at x; cases x) x⟩⟩
 ·intro z H3 out non hz sz nD ho
  have hz':H3 z.1 = some (.lst (z.2.map tx)) /\ z.2.length <= 60:=by
   rcases List.mem_cons.mp hz with rfl | hz
   ·exact ⟨sz _ _ x1,h1⟩
   ·rw [List.mem_singleton.mp hz]; exact ⟨sz _ _ x2,h2⟩
  have hpl:=laid_places (hs:=z.2.map fun s=>setAll s ps (dashes W)) (ss:=z.2) (W:=W) (fun r hr=>hr) wd.l8
  have wid:∀ r ∈ z.2.map (fun s=>setAll s ps (dashes W)),r.length = W:=fun r hr=>by
   obtain ⟨s,_,rfl⟩:=List.mem_map.mp hr
   rw [setAll_len,hdash]
  walk_at "rd"
  refine .inl ⟨⟨_,SqL.of hz'.1⟩,fun D2 hD2=>?_⟩
  refine comp_list (item:=tx) (xs:=z.2) (h:=fun s=>[tx (setAll s ps (dashes W))]) hD2 (SqL.of hz'.1) (by omega) (fun _=>by simp) ?_ ?_
  ·intro s H9 out non hs9 s9 ho hn
   walk_at "rd"
   refine ⟨by omega,by omega,ps,SqL.of (s9 _ _ (sz _ _ e12)),fun i hi=>by have:=wd.lt i hi; simpa using this,by simp; omega,fun H' s'=>ho _ _ ?_ s'⟩
   simp only [st_cps,Int.toNat_natCast]
   rfl
  intro H9 s9 e9
  have e9:H9 D2 = some (.lst ((z.2.map fun s=>setAll s ps (dashes W)).map tx)):=by rw [e9,flat_one (fun s=>tx (setAll s ps (dashes W))),List.map_map]; rfl
  have hl1:(z.2.map fun s=>setAll s ps (dashes W)).length < 1024:=by rw [List.length_map]; omega
  exact ⟨_,W,e9,wid,by omega,hl1,hpl,fun gq na vs HA hgq hna sA eA eAn eAp=>ho _ _ (s9.trans sA) ⟨gq,na,vs,rfl,nD na (s9.free hna),eA,eAn,eAp⟩⟩
 intro H3 qs sq eq pq
 obtain ⟨q1,q2,n1,n2,vs1,vs2,rfl,L1,L2'⟩:∃ q1 q2 n1 n2 vs1 vs2,qs = [.ref q1,.ref q2] /\ Lies H3 q1 n1 vs1 (graphL (r1.map fun s=>setAll s ps (dashes W))) /\ Lies H3 q2 n2 vs2 (graphL (r2.map fun s=>setAll s ps (dashes W))):=by
  cases pq with
  | cons y1 pq=>
   cases pq with
   | cons y2 pq=>
    cases pq
    obtain ⟨q1,n1,vs1,rfl,_,L1⟩:=y1
    obtain ⟨q2,n2,vs2,rfl,_,L2⟩:=y2
    exact ⟨q1,q2,n1,n2,vs1,vs2,rfl,L1,L2⟩
 have s13:=s12.trans sq
 exact fun C k=>k a D tw pa q1 q2 n1 n2 a1 a2 vs1 vs2 _ _ r1 r2 ns W ps wd hW1 (s13.seq hS) ((s2.trans sq) _ _ e1) eq L1 L2' (sq _ _ et) (sq _ _ x1) (sq _ _ x2) h1 h2 (one_of i1 wd) (one_of i2 wd) q
end
theorem all_mk {K:Frag} {h:Heap} {mg:Str -> Option Value} (X:K.In h) (G:h.Ns mainGlobals mg)
  {C_Writer:Addr} (n_Writer:nsIn K mainGlobals "Writer" = some (some (.ref C_Writer))) (pg_Writer:PySem.W.plainGet K C_Writer Str.empty = true) (hd_Writer:PySem.W.hasDictIn K C_Writer = true) (po_Writer:PySem.W.plainOver K C_Writer = true) (sa_Writer:findIn K (.ref C_Writer) "__setattr__" = some (some (.builtin "object.__setattr__"))) (mk_Writer:PySem.W.makesIn K C_Writer = true) (kc_Writer:keepIn K (.ref C_Writer) = true)
  (at_Writer_nodes:findIn K (.ref C_Writer) "nodes" = some none)
  (at_Writer_numbers:findIn K (.ref C_Writer) "numbers" = some none)
  {C_Blender:Addr} (n_Blender:nsIn K mainGlobals "Blender" = some (some (.ref C_Blender))) (pg_Blender:PySem.W.plainGet K C_Blender Str.empty = true) (hd_Blender:PySem.W.hasDictIn K C_Blender = true) (po_Blender:PySem.W.plainOver K C_Blender = true) (sa_Blender:findIn K (.ref C_Blender) "__setattr__" = some (some (.builtin "object.__setattr__"))) (mk_Blender:PySem.W.makesIn K C_Blender = true) (kc_Blender:keepIn K (.ref C_Blender) = true)
  (at_Blender_one:findIn K (.ref C_Blender) "one" = some none)
  (at_Blender_other:findIn K (.ref C_Blender) "other" = some none)
  (at_Blender_ends:findIn K (.ref C_Blender) "ends" = some none)
  (at_Blender_writer:findIn K (.ref C_Blender) "writer" = some none)
  (at_Blender_known:findIn K (.ref C_Blender) "known" = some none)
  {f0:Addr} {od0 an0:Option Addr} {sl0:Array (Option Value)} {oc0 kV0 dc0 pm0 cd0 ct0:Value}
  {f1:Addr} {od1 an1:Option Addr} {sl1:Array (Option Value)} {oc1 kV1 dc1 pm1 cd1 ct1:Value}
  {f2:Addr} {od2 an2:Option Addr} {sl2:Array (Option Value)} {oc2 kV2 dc2 pm2 cd2 ct2:Value}
  {f3:Addr} {od3 an3:Option Addr} {sl3:Array (Option Value)} {oc3 kV3 dc3 pm3 cd3 ct3:Value}
  {f4:Addr} {od4 an4:Option Addr} {sl4:Array (Option Value)} {oc4 kV4 dc4 pm4 cd4 ct4:Value}
  {f5:Addr} {od5 an5:Option Addr} {sl5:Array (Option Value)} {oc5 kV5 dc5 pm5 cd5 ct5:Value}
  {f6:Addr} {od6 an6:Option Addr} {sl6:Array (Option Value)} {oc6 kV6 dc6 pm6 cd6 ct6:Value}
  {f7:Addr} {od7 an7:Option Addr} {sl7:Array (Option Value)} {oc7 kV7 dc7 pm7 cd7 ct7:Value}
  {f8:Addr} {od8 an8:Option Addr} {sl8:Array (Option Value)} {oc8 kV8 dc8 pm8 cd8 ct8:Value}
  {f9:Addr} {od9 an9:Option Addr} {sl9:Array (Option Value)} {oc9 kV9 dc9 pm9 cd9 ct9:Value}
  {f10:Addr} {od10 an10:Option Addr} {sl10:Array (Option Value)} {oc10 kV10 dc10 pm10 cd10 ct10:Value}
  {f11:Addr} {od11 an11:Option Addr} {sl11:Array (Option Value)} {oc11 kV11 dc11 pm11 cd11 ct11:Value}
  {f12:Addr} {od12 an12:Option Addr} {sl12:Array (Option Value)} {oc12 kV12 dc12 pm12 cd12 ct12:Value}
  {f13:Addr} {od13 an13:Option Addr} {sl13:Array (Option Value)} {oc13 kV13 dc13 pm13 cd13 ct13:Value}
  {f14:Addr} {od14 an14:Option Addr} {sl14:Array (Option Value)} {oc14 kV14 dc14 pm14 cd14 ct14:Value}
  {f15:Addr} {od15 an15:Option Addr} {sl15:Array (Option Value)} {oc15 kV15 dc15 pm15 cd15 ct15:Value}
  {f16:Addr} {od16 an16:Option Addr} {sl16:Array (Option Value)} {oc16 kV16 dc16 pm16 cd16 ct16:Value}
  {f17:Addr} {od17 an17:Option Addr} {sl17:Array (Option Value)} {oc17 kV17 dc17 pm17 cd17 ct17:Value}
  {f18:Addr} {od18 an18:Option Addr} {sl18:Array (Option Value)} {oc18 kV18 dc18 pm18 cd18 ct18:Value}
  {f19:Addr} {od19 an19:Option Addr} {sl19:Array (Option Value)} {oc19 kV19 dc19 pm19 cd19 ct19:Value}
  {f20:Addr} {od20 an20:Option Addr} {sl20:Array (Option Value)} {oc20 kV20 dc20 pm20 cd20 ct20:Value}
  {f21:Addr} {od21 an21:Option Addr} {sl21:Array (Option Value)} {oc21 kV21 dc21 pm21 cd21 ct21:Value}
  {f22:Addr} {od22 an22:Option Addr} {sl22:Array (Option Value)} {oc22 kV22 dc22 pm22 cd22 ct22:Value}
  {f23:Addr} {od23 an23:Option Addr} {sl23:Array (Option Value)} {oc23 kV23 dc23 pm23 cd23 ct23:Value}
  {f24:Addr} {od24 an24:Option Addr} {sl24:Array (Option Value)} {oc24 kV24 dc24 pm24 cd24 ct24:Value}
  {f25:Addr} {od25 an25:Option Addr} {sl25:Array (Option Value)} {oc25 kV25 dc25 pm25 cd25 ct25:Value}
  {f26:Addr} {od26 an26:Option Addr} {sl26:Array (Option Value)} {oc26 kV26 dc26 pm26 cd26 ct26:Value}
  {f27:Addr} {od27 an27:Option Addr} {sl27:Array (Option Value)} {oc27 kV27 dc27 pm27 cd27 ct27:Value}
  {f28:Addr} {od28 an28:Option Addr} {sl28:Array (Option Value)} {oc28 kV28 dc28 pm28 cd28 ct28:Value}
  {f29:Addr} {od29 an29:Option Addr} {sl29:Array (Option Value)} {oc29 kV29 dc29 pm29 cd29 ct29:Value}
  (a0:nsIn K mainGlobals "row_narrowed" = some (some (.ref f0))) (l0:K.lookup f0 = some ⟨oc0,od0,.func (fnOf "row_narrowed" "row_narrowed" (defArgs s_row_narrowed) (defBody s_row_narrowed) (defScope s_row_narrowed) .none kV0 dc0 pm0 an0 cd0 ct0),sl0⟩) (c0:codeIn K cd0 "row_narrowed" = true) (k0:keepIn K (.ref f0) = true)
  (a1:nsIn K mainGlobals "heap_width" = some (some (.ref f1))) (l1:K.lookup f1 = some ⟨oc1,od1,.func (fnOf "heap_width" "heap_width" (defArgs s_heap_width) (defBody s_heap_width) (defScope s_heap_width) .none kV1 dc1 pm1 an1 cd1 ct1),sl1⟩) (c1:codeIn K cd1 "heap_width" = true) (k1:keepIn K (.ref f1) = true)
  (a2:nsIn K mainGlobals "heap_places" = some (some (.ref f2))) (l2:K.lookup f2 = some ⟨oc2,od2,.func (fnOf "heap_places" "heap_places" (defArgs s_heap_places) (defBody s_heap_places) (defScope s_heap_places) .none kV2 dc2 pm2 an2 cd2 ct2),sl2⟩) (c2:codeIn K cd2 "heap_places" = true) (k2:keepIn K (.ref f2) = true)
  (a3:nsIn K mainGlobals "heap_narrowed" = some (some (.ref f3))) (l3:K.lookup f3 = some ⟨oc3,od3,.func (fnOf "heap_narrowed" "heap_narrowed" (defArgs s_heap_narrowed) (defBody s_heap_narrowed) (defScope s_heap_narrowed) .none kV3 dc3 pm3 an3 cd3 ct3),sl3⟩) (c3:codeIn K cd3 "heap_narrowed" = true) (k3:keepIn K (.ref f3) = true)
  (a4:nsIn K mainGlobals "heap_side" = some (some (.ref f4))) (l4:K.lookup f4 = some ⟨oc4,od4,.func (fnOf "heap_side" "heap_side" (defArgs s_heap_side) (defBody s_heap_side) (defScope s_heap_side) .none kV4 dc4 pm4 an4 cd4 ct4),sl4⟩) (c4:codeIn K cd4 "heap_side" = true) (k4:keepIn K (.ref f4) = true)
  (a5:nsIn K mainGlobals "graph_of" = some (some (.ref f5))) (l5:K.lookup f5 = some ⟨oc5,od5,.func (fnOf "graph_of" "graph_of" (defArgs s_graph_of) (defBody s_graph_of) (defScope s_graph_of) .none kV5 dc5 pm5 an5 cd5 ct5),sl5⟩) (c5:codeIn K cd5 "graph_of" = true) (k5:keepIn K (.ref f5) = true)
  (a6:nsIn K mainGlobals "grown" = some (some (.ref f6))) (l6:K.lookup f6 = some ⟨oc6,od6,.func (fnOf "grown" "grown" (defArgs s_grown) (defBody s_grown) (defScope s_grown) .none kV6 dc6 pm6 an6 cd6 ct6),sl6⟩) (c6:codeIn K cd6 "grown" = true) (k6:keepIn K (.ref f6) = true)
  (a7:nsIn K mainGlobals "steps_of" = some (some (.ref f7))) (l7:K.lookup f7 = some ⟨oc7,od7,.func (fnOf "steps_of" "steps_of" (defArgs s_steps_of) (defBody s_steps_of) (defScope s_steps_of) .none kV7 dc7 pm7 an7 cd7 ct7),sl7⟩) (c7:codeIn K cd7 "steps_of" = true) (k7:keepIn K (.ref f7) = true)
  (a8:nsIn K mainGlobals "led_on" = some (some (.ref f8))) (l8:K.lookup f8 = some ⟨oc8,od8,.func (fnOf "led_on" "led_on" (defArgs s_led_on) (defBody s_led_on) (defScope s_led_on) .none kV8 dc8 pm8 an8 cd8 ct8),sl8⟩) (c8:codeIn K cd8 "led_on" = true) (k8:keepIn K (.ref f8) = true)
  (a9:nsIn K mainGlobals "graph_blend" = some (some (.ref f9))) (l9:K.lookup f9 = some ⟨oc9,od9,.func (fnOf "graph_blend" "graph_blend" (defArgs s_graph_blend) (defBody s_graph_blend) (defScope s_graph_blend) .none kV9 dc9 pm9 an9 cd9 ct9),sl9⟩) (c9:codeIn K cd9 "graph_blend" = true) (k9:keepIn K (.ref f9) = true)
  (a10:nsIn K mainGlobals "_law_cell_at" = some (some (.ref f10))) (l10:K.lookup f10 = some ⟨oc10,od10,.func (fnOf "_law_cell_at" "_law_cell_at" (defArgs s__law_cell_at) (defBody s__law_cell_at) (defScope s__law_cell_at) .none kV10 dc10 pm10 an10 cd10 ct10),sl10⟩) (c10:codeIn K cd10 "_law_cell_at" = true) (k10:keepIn K (.ref f10) = true)
  (a11:nsIn K mainGlobals "_law_stream" = some (some (.ref f11))) (l11:K.lookup f11 = some ⟨oc11,od11,.func (fnOf "_law_stream" "_law_stream" (defArgs s__law_stream) (defBody s__law_stream) (defScope s__law_stream) .none kV11 dc11 pm11 an11 cd11 ct11),sl11⟩) (c11:codeIn K cd11 "_law_stream" = true) (k11:keepIn K (.ref f11) = true)
  (a12:nsIn K mainGlobals "_law_width" = some (some (.ref f12))) (l12:K.lookup f12 = some ⟨oc12,od12,.func (fnOf "_law_width" "_law_width" (defArgs s__law_width) (defBody s__law_width) (defScope s__law_width) .none kV12 dc12 pm12 an12 cd12 ct12),sl12⟩) (c12:codeIn K cd12 "_law_width" = true) (k12:keepIn K (.ref f12) = true)
  (a13:nsIn K mainGlobals "_law_places" = some (some (.ref f13))) (l13:K.lookup f13 = some ⟨oc13,od13,.func (fnOf "_law_places" "_law_places" (defArgs s__law_places) (defBody s__law_places) (defScope s__law_places) .none kV13 dc13 pm13 an13 cd13 ct13),sl13⟩) (c13:codeIn K cd13 "_law_places" = true) (k13:keepIn K (.ref f13) = true)
  (a14:nsIn K mainGlobals "_law_shorts" = some (some (.ref f14))) (l14:K.lookup f14 = some ⟨oc14,od14,.func (fnOf "_law_shorts" "_law_shorts" (defArgs s__law_shorts) (defBody s__law_shorts) (defScope s__law_shorts) .none kV14 dc14 pm14 an14 cd14 ct14),sl14⟩) (c14:codeIn K cd14 "_law_shorts" = true) (k14:keepIn K (.ref f14) = true)
  (a15:nsIn K mainGlobals "_law_spread" = some (some (.ref f15))) (l15:K.lookup f15 = some ⟨oc15,od15,.func (fnOf "_law_spread" "_law_spread" (defArgs s__law_spread) (defBody s__law_spread) (defScope s__law_spread) .none kV15 dc15 pm15 an15 cd15 ct15),sl15⟩) (c15:codeIn K cd15 "_law_spread" = true) (k15:keepIn K (.ref f15) = true)
  (a16:nsIn K mainGlobals "_law_fits" = some (some (.ref f16))) (l16:K.lookup f16 = some ⟨oc16,od16,.func (fnOf "_law_fits" "_law_fits" (defArgs s__law_fits) (defBody s__law_fits) (defScope s__law_fits) .none kV16 dc16 pm16 an16 cd16 ct16),sl16⟩) (c16:codeIn K cd16 "_law_fits" = true) (k16:keepIn K (.ref f16) = true)
  (a17:nsIn K mainGlobals "_law_choices" = some (some (.ref f17))) (l17:K.lookup f17 = some ⟨oc17,od17,.func (fnOf "_law_choices" "_law_choices" (defArgs s__law_choices) (defBody s__law_choices) (defScope s__law_choices) .none kV17 dc17 pm17 an17 cd17 ct17),sl17⟩) (c17:codeIn K cd17 "_law_choices" = true) (k17:keepIn K (.ref f17) = true)
  (a18:nsIn K mainGlobals "_law_good" = some (some (.ref f18))) (l18:K.lookup f18 = some ⟨oc18,od18,.func (fnOf "_law_good" "_law_good" (defArgs s__law_good) (defBody s__law_good) (defScope s__law_good) .none kV18 dc18 pm18 an18 cd18 ct18),sl18⟩) (c18:codeIn K cd18 "_law_good" = true) (k18:keepIn K (.ref f18) = true)
  (a19:nsIn K mainGlobals "_law_base" = some (some (.ref f19))) (l19:K.lookup f19 = some ⟨oc19,od19,.func (fnOf "_law_base" "_law_base" (defArgs s__law_base) (defBody s__law_base) (defScope s__law_base) .none kV19 dc19 pm19 an19 cd19 ct19),sl19⟩) (c19:codeIn K cd19 "_law_base" = true) (k19:keepIn K (.ref f19) = true)
  (a20:nsIn K mainGlobals "_law_end" = some (some (.ref f20))) (l20:K.lookup f20 = some ⟨oc20,od20,.func (fnOf "_law_end" "_law_end" (defArgs s__law_end) (defBody s__law_end) (defScope s__law_end) .none kV20 dc20 pm20 an20 cd20 ct20),sl20⟩) (c20:codeIn K cd20 "_law_end" = true) (k20:keepIn K (.ref f20) = true)
  (a21:nsIn K mainGlobals "_law_lies" = some (some (.ref f21))) (l21:K.lookup f21 = some ⟨oc21,od21,.func (fnOf "_law_lies" "_law_lies" (defArgs s__law_lies) (defBody s__law_lies) (defScope s__law_lies) .none kV21 dc21 pm21 an21 cd21 ct21),sl21⟩) (c21:codeIn K cd21 "_law_lies" = true) (k21:keepIn K (.ref f21) = true)
  (a22:nsIn K mainGlobals "_law_two" = some (some (.ref f22))) (l22:K.lookup f22 = some ⟨oc22,od22,.func (fnOf "_law_two" "_law_two" (defArgs s__law_two) (defBody s__law_two) (defScope s__law_two) .none kV22 dc22 pm22 an22 cd22 ct22),sl22⟩) (c22:codeIn K cd22 "_law_two" = true) (k22:keepIn K (.ref f22) = true)
  (a23:nsIn K mainGlobals "_law_wholes" = some (some (.ref f23))) (l23:K.lookup f23 = some ⟨oc23,od23,.func (fnOf "_law_wholes" "_law_wholes" (defArgs s__law_wholes) (defBody s__law_wholes) (defScope s__law_wholes) .none kV23 dc23 pm23 an23 cd23 ct23),sl23⟩) (c23:codeIn K cd23 "_law_wholes" = true) (k23:keepIn K (.ref f23) = true)
  (a24:nsIn K mainGlobals "_law_asked" = some (some (.ref f24))) (l24:K.lookup f24 = some ⟨oc24,od24,.func (fnOf "_law_asked" "_law_asked" (defArgs s__law_asked) (defBody s__law_asked) (defScope s__law_asked) .none kV24 dc24 pm24 an24 cd24 ct24),sl24⟩) (c24:codeIn K cd24 "_law_asked" = true) (k24:keepIn K (.ref f24) = true)
  (a25:nsIn K mainGlobals "law" = some (some (.ref f25))) (l25:K.lookup f25 = some ⟨oc25,od25,.func (fnOf "law" "law" (defArgs s_law) (defBody s_law) (defScope s_law) .none kV25 dc25 pm25 an25 cd25 ct25),sl25⟩) (c25:codeIn K cd25 "law" = true) (k25:keepIn K (.ref f25) = true)
  (a26:findIn K (.ref C_Writer) "__init__" = some (some (.ref f26))) (l26:K.lookup f26 = some ⟨oc26,od26,.func (fnOf "__init__" "Writer.__init__" (defArgs s_Writer____init__) (defBody s_Writer____init__) (defScope s_Writer____init__) .none kV26 dc26 pm26 an26 cd26 ct26),sl26⟩) (c26:codeIn K cd26 "Writer.__init__" = true) (k26:keepIn K (.ref f26) = true) (w26:PySem.W.isFn K (.ref f26) = true)
  (a27:findIn K (.ref C_Writer) "node_number" = some (some (.ref f27))) (l27:K.lookup f27 = some ⟨oc27,od27,.func (fnOf "node_number" "Writer.node_number" (defArgs s_Writer__node_number) (defBody s_Writer__node_number) (defScope s_Writer__node_number) .none kV27 dc27 pm27 an27 cd27 ct27),sl27⟩) (c27:codeIn K cd27 "Writer.node_number" = true) (k27:keepIn K (.ref f27) = true) (w27:PySem.W.isFn K (.ref f27) = true)
  (a28:findIn K (.ref C_Blender) "__init__" = some (some (.ref f28))) (l28:K.lookup f28 = some ⟨oc28,od28,.func (fnOf "__init__" "Blender.__init__" (defArgs s_Blender____init__) (defBody s_Blender____init__) (defScope s_Blender____init__) .none kV28 dc28 pm28 an28 cd28 ct28),sl28⟩) (c28:codeIn K cd28 "Blender.__init__" = true) (k28:keepIn K (.ref f28) = true) (w28:PySem.W.isFn K (.ref f28) = true)
  (a29:findIn K (.ref C_Blender) "blended" = some (some (.ref f29))) (l29:K.lookup f29 = some ⟨oc29,od29,.func (fnOf "blended" "Blender.blended" (defArgs s_Blender__blended) (defBody s_Blender__blended) (defScope s_Blender__blended) .none kV29 dc29 pm29 an29 cd29 ct29),sl29⟩) (c29:codeIn K cd29 "Blender.blended" = true) (k29:keepIn K (.ref f29) = true) (w29:PySem.W.isFn K (.ref f29) = true)
  (z_len:nsIn K mainGlobals "len" = some none)
  (z_range:nsIn K mainGlobals "range" = some none)
  (z_any:nsIn K mainGlobals "any" = some none)
  (z_sorted:nsIn K mainGlobals "sorted" = some none)
  (z_set:nsIn K mainGlobals "set" = some none)
  (z_tuple:nsIn K mainGlobals "tuple" = some none)
  (z_list:nsIn K mainGlobals "list" = some none)
  (z_zip:nsIn K mainGlobals "zip" = some none)
  (z_int:nsIn K mainGlobals "int" = some none)
  (z_reversed:nsIn K mainGlobals "reversed" = some none)
  (z_isinstance:nsIn K mainGlobals "isinstance" = some none)
  (z_bool:nsIn K mainGlobals "bool" = some none)
  (z_max:nsIn K mainGlobals "max" = some none)
  (z_min:nsIn K mainGlobals "min" = some none)
  {W_WORD_ENDS:Addr} (n_WORD_ENDS:nsIn K mainGlobals "WORD_ENDS" = some (some (.ref W_WORD_ENDS))) (l_WORD_ENDS:PyProof.Rows.KTD.tabLook (tupLook K) (fun b=>K.lookup b) W_WORD_ENDS [("join",[0,1,1,1]),("common",[0,0,0,1]),("less",[0,0,1,0]),("either",[0,1,1,0])] = true)
  : Top K mg where
 c_Writer:=clst_mk X G n_Writer pg_Writer hd_Writer po_Writer sa_Writer
 a_Writer_nodes:=noattr_mk n_Writer at_Writer_nodes
 a_Writer_numbers:=noattr_mk n_Writer at_Writer_numbers
 c_Blender:=clst_mk X G n_Blender pg_Blender hd_Blender po_Blender sa_Blender
 a_Blender_one:=noattr_mk n_Blender at_Blender_one
 a_Blender_other:=noattr_mk n_Blender at_Blender_other
 a_Blender_ends:=noattr_mk n_Blender at_Blender_ends
 a_Blender_writer:=noattr_mk n_Blender at_Blender_writer
 a_Blender_known:=noattr_mk n_Blender at_Blender_known
 f_row_narrowed:=⟨_,_,fun_mk (st:=s_row_narrowed) l0 c0 k0,mg_of X G a0⟩
 f_heap_width:=⟨_,_,fun_mk (st:=s_heap_width) l1 c1 k1,mg_of X G a1⟩
 f_heap_places:=⟨_,_,fun_mk (st:=s_heap_places) l2 c2 k2,mg_of X G a2⟩
 f_heap_narrowed:=⟨_,_,fun_mk (st:=s_heap_narrowed) l3 c3 k3,mg_of X G a3⟩
 f_heap_side:=⟨_,_,fun_mk (st:=s_heap_side) l4 c4 k4,mg_of X G a4⟩
 f_graph_of:=⟨_,_,fun_mk (st:=s_graph_of) l5 c5 k5,mg_of X G a5⟩
 f_grown:=⟨_,_,fun_mk (st:=s_grown) l6 c6 k6,mg_of X G a6⟩
 f_steps_of:=⟨_,_,fun_mk (st:=s_steps_of) l7 c7 k7,mg_of X G a7⟩
 f_led_on:=⟨_,_,fun_mk (st:=s_led_on) l8 c8 k8,mg_of X G a8⟩
 f_graph_blend:=⟨_,_,fun_mk (st:=s_graph_blend) l9 c9 k9,mg_of X G a9⟩
 f__law_cell_at:=⟨_,_,fun_mk (st:=s__law_cell_at) l10 c10 k10,mg_of X G a10⟩
 f__law_stream:=⟨_,_,fun_mk (st:=s__law_stream) l11 c11 k11,mg_of X G a11⟩
 f__law_width:=⟨_,_,fun_mk (st:=s__law_width) l12 c12 k12,mg_of X G a12⟩
 f__law_places:=⟨_,_,fun_mk (st:=s__law_places) l13 c13 k13,mg_of X G a13⟩
 f__law_shorts:=⟨_,_,fun_mk (st:=s__law_shorts) l14 c14 k14,mg_of X G a14⟩
 f__law_spread:=⟨_,_,fun_mk (st:=s__law_spread) l15 c15 k15,mg_of X G a15⟩
 f__law_fits:=⟨_,_,fun_mk (st:=s__law_fits) l16 c16 k16,mg_of X G a16⟩
 f__law_choices:=⟨_,_,fun_mk (st:=s__law_choices) l17 c17 k17,mg_of X G a17⟩
 f__law_good:=⟨_,_,fun_mk (st:=s__law_good) l18 c18 k18,mg_of X G a18⟩
 f__law_base:=⟨_,_,fun_mk (st:=s__law_base) l19 c19 k19,mg_of X G a19⟩
 f__law_end:=⟨_,_,fun_mk (st:=s__law_end) l20 c20 k20,mg_of X G a20⟩
 f__law_lies:=⟨_,_,fun_mk (st:=s__law_lies) l21 c21 k21,mg_of X G a21⟩
 f__law_two:=⟨_,_,fun_mk (st:=s__law_two) l22 c22 k22,mg_of X G a22⟩
 f__law_wholes:=⟨_,_,fun_mk (st:=s__law_wholes) l23 c23 k23,mg_of X G a23⟩
 f__law_asked:=⟨_,_,fun_mk (st:=s__law_asked) l24 c24 k24,mg_of X G a24⟩
 f_law:=⟨_,_,fun_mk (st:=s_law) l25 c25 k25,mg_of X G a25⟩
 f_Writer____init__:=mkt_mk n_Writer mk_Writer kc_Writer a26 w26 (fun_mk (st:=s_Writer____init__) l26 c26 k26)
 f_Writer__node_number:=metht_mk n_Writer a27 w27 k27 (fun_mk (st:=s_Writer__node_number) l27 c27 k27)
 f_Blender____init__:=mkt_mk n_Blender mk_Blender kc_Blender a28 w28 (fun_mk (st:=s_Blender____init__) l28 c28 k28)
 f_Blender__blended:=metht_mk n_Blender a29 w29 k29 (fun_mk (st:=s_Blender__blended) l29 c29 k29)
 b_len:=PySem.W.mg_none_of X G z_len
 b_range:=PySem.W.mg_none_of X G z_range
 b_any:=PySem.W.mg_none_of X G z_any
 b_sorted:=PySem.W.mg_none_of X G z_sorted
 b_set:=PySem.W.mg_none_of X G z_set
 b_tuple:=PySem.W.mg_none_of X G z_tuple
 b_list:=PySem.W.mg_none_of X G z_list
 b_zip:=PySem.W.mg_none_of X G z_zip
 b_int:=PySem.W.mg_none_of X G z_int
 b_reversed:=PySem.W.mg_none_of X G z_reversed
 b_isinstance:=PySem.W.mg_none_of X G z_isinstance
 b_bool:=PySem.W.mg_none_of X G z_bool
 b_max:=PySem.W.mg_none_of X G z_max
 b_min:=PySem.W.mg_none_of X G z_min
 w_WORD_ENDS:=⟨_,mg_of X G n_WORD_ENDS,l_WORD_ENDS⟩
theorem law_bind {P:Program} {w:World} {K:Frag} {mg:Str -> Option Value} (T:Top K mg):∃ f fd,(∀ base:Heap,FnOk P w K mg base CX0 65 f fd ["_law_script"] (sp_law K)) /\ (∀ (s:Shared) (u:Value),BindsTo s fd ⟨[u],[]⟩ [("_law_script",u)]) /\ mg "law" = some (.ref f):=by
 obtain ⟨f,fd,F,m⟩:=T.f_law
 refine ⟨f,fd,fun base=>ok_law T F,?_,m⟩
 obtain ⟨oc,od,kV,doc,pm,an,cdv,ct,osl,rfl,lk,hcd⟩:=F.ex
 exact fun s u=>.of_eq rfl
theorem walk {l:PySem.W.OpenLaw} {q:Program} {loose:List Str} {XP:(Str -> Option Value) -> Heap -> Prop} {α:Type} {Yf:Shared -> α} {Ya:World -> α} {d:DefRec} {K:Params -> Frag} (hn:l.most = some 63) (hdf:d.params.defaults = [])
  (hY:∀ (w:World) (s:Shared),Yf s = Ya w -> (K w.params).In s.heap /\ 0 < s.toks)
  (F:∀ (w:World) (mg:Str -> Option Value) (fa:Addr) (h:Heap),(K w.params).In h -> h.Ns mainGlobals mg -> mg d.name = some (.ref fa) ->
   ∃ fd:FuncData,(∀ (s:Shared) (u:Value),BindsTo s fd ⟨[u],[]⟩ [("_law_script",u)]) /\ ∀ base:Heap,(K w.params).In base -> base.Ns mainGlobals mg -> FnOk l.prog w (K w.params) mg base CX0 65 fa fd ["_law_script"] (sp_law (K w.params))):
  PySem.W.WalkX q loose XP Yf Ya l.row.toRowW d [] (fun f vs=>PySem.call f vs):=
 L2.walk_ofX (n:=63) (k:=65) (x := "_law_script") (CX:=fun _=>CX0) (sp:=fun w=>sp_law (K w.params)) hn (by decide) hdf ⟨rfl,by decide,by decide,rfl⟩ hY F (fun _ _ a ns hl _ hS=>⟨ns,hS,hl,fun _=>rfl⟩) fun _ _ _ _ _ z=>z
end Law
open PySem PySem.W PyProof.Rows
set_option maxRecDepth 100000 in
set_option maxHeartbeats 0 in
theorem PySem.Challenge.cw_throng_k13_blends_holds : PySem.Challenge.rw_throng_k13_blends.Holds := by
 w_on; o_law; z_head; (case hw=>w_witness2)
 k_fill
 refine Law.walk (l:=PySem.Challenge.rw_throng_k13_blends) rfl rfl (fun w s Y=>L2.z_pos Y (fun _=>rfl) (by decide)) ?F
 case F=>
  intro w mg fa h KX G hmg
  have T:Law.Top (L2.KOf KX) mg:=by
   dsimp only [L2.KOf]
   refine' Law.all_mk KX G ?n_Writer ?pg_Writer ?hd_Writer ?po_Writer ?sa_Writer ?mk_Writer ?kc_Writer ?at_Writer_nodes ?at_Writer_numbers ?n_Blender ?pg_Blender ?hd_Blender ?po_Blender ?sa_Blender ?mk_Blender ?kc_Blender ?at_Blender_one ?at_Blender_other ?at_Blender_ends ?at_Blender_writer ?at_Blender_known ?a0 ?l0 ?c0 ?k0 ?a1 ?l1 ?c1 ?k1 ?a2 ?l2 ?c2 ?k2 ?a3 ?l3 ?c3 ?k3 ?a4 ?l4 ?c4 ?k4 ?a5 ?l5 ?c5 ?k5 ?a6 ?l6 ?c6 ?k6 ?a7 ?l7 ?c7 ?k7 ?a8 ?l8 ?c8 ?k8 ?a9 ?l9 ?c9 ?k9 ?a10 ?l10 ?c10 ?k10 ?a11 ?l11 ?c11 ?k11 ?a12 ?l12 ?c12 ?k12 ?a13 ?l13 ?c13 ?k13 ?a14 ?l14 ?c14 ?k14 ?a15 ?l15 ?c15 ?k15 ?a16 ?l16 ?c16 ?k16 ?a17 ?l17 ?c17 ?k17 ?a18 ?l18 ?c18 ?k18 ?a19 ?l19 ?c19 ?k19 ?a20 ?l20 ?c20 ?k20 ?a21 ?l21 ?c21 ?k21 ?a22 ?l22 ?c22 ?k22 ?a23 ?l23 ?c23 ?k23 ?a24 ?l24 ?c24 ?k24 ?a25 ?l25 ?c25 ?k25 ?a26 ?l26 ?c26 ?k26 ?w26 ?a27 ?l27 ?c27 ?k27 ?w27 ?a28 ?l28 ?c28 ?k28 ?w28 ?a29 ?l29 ?c29 ?k29 ?w29 ?z_len ?z_range ?z_any ?z_sorted ?z_set ?z_tuple ?z_list ?z_zip ?z_int ?z_reversed ?z_isinstance ?z_bool ?z_max ?z_min ?n_WORD_ENDS ?l_WORD_ENDS
   (case n_Writer=>k_is); (case pg_Writer=>k_is); (case hd_Writer=>k_is); (case po_Writer=>k_is); (case sa_Writer=>k_is); (case mk_Writer=>k_is); (case kc_Writer=>k_is)
   (case at_Writer_nodes=>k_is)
   (case at_Writer_numbers=>k_is)
   (case n_Blender=>k_is); (case pg_Blender=>k_is); (case hd_Blender=>k_is); (case po_Blender=>k_is); (case sa_Blender=>k_is); (case mk_Blender=>k_is); (case kc_Blender=>k_is)
   (case at_Blender_one=>k_is)
   (case at_Blender_other=>k_is)
   (case at_Blender_ends=>k_is)
   (case at_Blender_writer=>k_is)
   (case at_Blender_known=>k_is)
   (case a0=>k_is); (case l0=>k_is); (case c0=>k_is); (case k0=>k_is)
   (case a1=>k_is); (case l1=>k_is); (case c1=>k_is); (case k1=>k_is)
   (case a2=>k_is); (case l2=>k_is); (case c2=>k_is); (case k2=>k_is)
   (case a3=>k_is); (case l3=>k_is); (case c3=>k_is); (case k3=>k_is)
   (case a4=>k_is); (case l4=>k_is); (case c4=>k_is); (case k4=>k_is)
   (case a5=>k_is); (case l5=>k_is); (case c5=>k_is); (case k5=>k_is)
   (case a6=>k_is); (case l6=>k_is); (case c6=>k_is); (case k6=>k_is)
   (case a7=>k_is); (case l7=>k_is); (case c7=>k_is); (case k7=>k_is)
   (case a8=>k_is); (case l8=>k_is); (case c8=>k_is); (case k8=>k_is)
   (case a9=>k_is); (case l9=>k_is); (case c9=>k_is); (case k9=>k_is)
   (case a10=>k_is); (case l10=>k_is); (case c10=>k_is); (case k10=>k_is)
   (case a11=>k_is); (case l11=>k_is); (case c11=>k_is); (case k11=>k_is)
   (case a12=>k_is); (case l12=>k_is); (case c12=>k_is); (case k12=>k_is)
   (case a13=>k_is); (case l13=>k_is); (case c13=>k_is); (case k13=>k_is)
   (case a14=>k_is); (case l14=>k_is); (case c14=>k_is); (case k14=>k_is)
   (case a15=>k_is); (case l15=>k_is); (case c15=>k_is); (case k15=>k_is)
   (case a16=>k_is); (case l16=>k_is); (case c16=>k_is); (case k16=>k_is)
   (case a17=>k_is); (case l17=>k_is); (case c17=>k_is); (case k17=>k_is)
   (case a18=>k_is); (case l18=>k_is); (case c18=>k_is); (case k18=>k_is)
   (case a19=>k_is); (case l19=>k_is); (case c19=>k_is); (case k19=>k_is)
   (case a20=>k_is); (case l20=>k_is); (case c20=>k_is); (case k20=>k_is)
   (case a21=>k_is); (case l21=>k_is); (case c21=>k_is); (case k21=>k_is)
   (case a22=>k_is); (case l22=>k_is); (case c22=>k_is); (case k22=>k_is)
   (case a23=>k_is); (case l23=>k_is); (case c23=>k_is); (case k23=>k_is)
   (case a24=>k_is); (case l24=>k_is); (case c24=>k_is); (case k24=>k_is)
   (case a25=>k_is); (case l25=>k_is); (case c25=>k_is); (case k25=>k_is)
   (case a26=>k_is); (case l26=>k_is); (case c26=>k_is); (case k26=>k_is); (case w26=>k_is)
   (case a27=>k_is); (case l27=>k_is); (case c27=>k_is); (case k27=>k_is); (case w27=>k_is)
   (case a28=>k_is); (case l28=>k_is); (case c28=>k_is); (case k28=>k_is); (case w28=>k_is)
   (case a29=>k_is); (case l29=>k_is); (case c29=>k_is); (case k29=>k_is); (case w29=>k_is)
   (case z_len=>k_is)
   (case z_range=>k_is)
   (case z_any=>k_is)
   (case z_sorted=>k_is)
   (case z_set=>k_is)
   (case z_tuple=>k_is)
   (case z_list=>k_is)
   (case z_zip=>k_is)
   (case z_int=>k_is)
   (case z_reversed=>k_is)
   (case z_isinstance=>k_is)
   (case z_bool=>k_is)
   (case z_max=>k_is)
   (case z_min=>k_is)
   (case n_WORD_ENDS=>k_is); (case l_WORD_ENDS=>kernel_rfl)
  obtain ⟨f,fd,F,b,m⟩:=Law.law_bind (P:=PySem.Challenge.pw_throng_k13_blends) (w:=w) T
  have e0:=hmg.symm.trans m
  cases e0
  exact ⟨fd,b,fun base _ _=>F base⟩
#print axioms PySem.Challenge.cw_throng_k13_blends_holds
